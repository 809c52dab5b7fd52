import PyProof.Rows.All
import Wide.All
import OpenK.AllK
import Wide.FinOn
import HandS.ForMost
import HandS.ExcInit
import HandS.ExcIs
import HandS.IsInst
import HandS.Wide
import HandS.TupAny
import HandS.Conv
import HandS.Style
import HandS.Strs
import HandS.SetKeys
import HandS.TupSets
import HandS.Text
import HandS.WordsDict
import HandS.Flow
import KE.GoesEnum
import HandS.Walk
import PyProof.Rows.BitMore
import KE.BitLaws
import KE.OsArith
import HandS.WideBits
import HandS.OwnEq
import OpenK.KOps
import HandS.ForExc
import HandS.Lambda
import PyProof.StrLawsRepr
import HandS.NestedK
import KE.KLam
import KE.KNestM
import HandS.EndTab
import PyProof.InstNe
import PySem.Challenge.RW_trustsorted_k01_houses_as_they_are_told
set_option Elab.async false
set_option linter.all false
set_option maxRecDepth 100000
set_option maxHeartbeats 4000000
namespace Kb
open PySem PySem.Spec PyProof.Rows L2

/-! ### great powers -/
theorem op_powG {X : Cx} : OpR X (binaryOp .Pow) (rI (fun i j => 0 < j ∧ 2 ≤ i ∧ (Builtin.Int.intBits i : Int) * j ≤ 100000000)
    fun i j => .int (i ^ j.toNat)) := by
  refine opI fun i j t u s Q E hc q => ?_
  obtain ⟨h1, h2, h3⟩ := hc
  refine AutoIntOps.pow_4 (by omega) (by simp; omega) (by simp; omega) (by simp; omega) ?_ q
  have e : bitsLine = 134217728 := by decide
  unfold Builtin.Int.intTooBig
  simp only [e, gt_iff_lt, decide_eq_true_eq]
  have z : ((Builtin.Int.intBits i : Nat) : Int) * j ≤ 100000000 := h3
  omega

/-! ### defs around which nothing is being shown (no guard stands) -/
def Qt (A : Around) : Prop := A.guards = some []
structure FnQ (P : Program) (w : World) (K : PySem.W.Frag) (mg : Str → Option Value) (base : Heap) (CX : CXT) (k : Nat) (f : Addr)
    (fd : FuncData) (ps : List Str) (sp : Sp) : Prop where
  len : ∀ vs H Q E, sp vs H Q E → vs.length = ps.length
  run : ∀ (A : Around) (outer : List Env) (s : Shared) (H : Hp) (args : Args) (us : List Value) (vs : List V) (Q : VK) (E : XK),
    Qt A → Room k A → Env0 P w K mg base A outer s H → BindsTo s fd args (ps.zip us) → Vals vs us → sp vs H Q E →
    codeAny (model P w) A (.call (.ref f) args) (CR CX outer P w H s Q E) s
theorem FnQ.of {P : Program} {w : World} {K : PySem.W.Frag} {mg : Str → Option Value} {base : Heap} {CX : CXT} {k : Nat} {f : Addr}
    {fd : FuncData} {ps : List Str} {sp : Sp} (F : FnOk P w K mg base CX k f fd ps sp) : FnQ P w K mg base CX k f fd ps sp :=
  ⟨F.len, fun A outer s H args us vs Q E _ => F.run A outer s H args us vs Q E⟩
theorem FnQ.mono {P : Program} {w : World} {K : PySem.W.Frag} {mg : Str → Option Value} {base : Heap} {CX : CXT} {j k : Nat} {f : Addr}
    {fd : FuncData} {ps : List Str} {sp : Sp} (F : FnQ P w K mg base CX j f fd ps sp) (h : j ≤ k) : FnQ P w K mg base CX k f fd ps sp :=
  ⟨F.len, fun A outer s H args us vs Q E hq hr => F.run A outer s H args us vs Q E hq (hr.mono h)⟩
/-- a def by its body, where nothing is being shown -/
theorem fnQ_of {P : Program} {w : World} {K : PySem.W.Frag} {mg : Str → Option Value} {base : Heap} {x qual : Str} {st : Stmt} {f : Addr}
    {fd : FuncData} {N ps : List Str} {k : Nat} {sp : Sp} (F : Fun K x qual st f fd) (S : FnScope N ps (defScope st))
    (len : ∀ vs H Q E, sp vs H Q E → vs.length = ps.length)
    (hbody : ∀ (cdv : Value) (A : Around) (outer : List Env) (s : Shared) (H : Hp) (vs : List V) (Q : VK) (E : XK),
      Qt (A.deeper (envOfC qual (defScope st) s.heap.objs.size f cdv)) → Room k (A.deeper (envOfC qual (defScope st) s.heap.objs.size f cdv)) →
      sp vs H Q E → ∃ t, PSs (cxOf CX0 P w K mg base N qual (defScope st) f cdv A outer s H E).nox (defBody st) t ∧
        t { nx := fun _ H' => Q .non H', rt := Q } (start N vs) H) : FnQ P w K mg base CX0 (k + 1) f fd ps sp := by
  obtain ⟨oc, od, kV, doc, pm, an, cdv, ct, osl, rfl, lk, hcd⟩ := F.ex
  refine ⟨len, fun A outer s H args us vs Q E hG hr e0 hb r hsp => ?_⟩
  have hlen := len _ _ _ _ hsp
  have KX : K.In s.heap := e0.mod.kin.keeps fun b o e => (e0.bs b o e).1
  have noLim : s.heap.NoLimit := e0.mod.nolimit.keeps fun b o e => (e0.bs b o e).1
  refine codeAny_call_function hr.depth (KX _ _ lk) rfl S.co S.gen rfl (PySem.W.codeRec_of KX hcd) (hb _ _ _ _ ?_)
  refine wpAny_newFunctionEnv_cells S.kind (fun y hy => ?_) fun env he s1 x => ?_
  · rcases S.par y.1 (List.of_mem_zip (a := y.1) (b := y.2) hy).1 with z | z
    · exact .inl z
    · exact .inr ⟨z, PySem.W.cellsFrom_some _ _ _ (.inl z)⟩
  subst he
  refine ⟨noLim.keeps x.toInCall.keep, codeAny_func ?_⟩
  obtain ⟨t, ht0, hq⟩ := hbody cdv A outer s H vs Q E hG (hr.deeper _) hsp
  have ht := ht0.nox
  have I : Inv (cxOf CX0 P w K mg base N qual (defScope st) f cdv A outer s H E) [] (start N vs) H s1 := inv_start S hr.hd e0 hlen r x
  refine wpAny_mono (ht.run [] s1 (start N vs) H _ I hq) (fun fl s' hs => ?_) fun e s' hs => hs
  cases fl with
  | ret u =>
    obtain ⟨v, σ', H', J, rv, q⟩ := hs
    exact ⟨v, H', J.os, J.bare, J.base, J.hok, rv, q⟩
  | next =>
    obtain ⟨σ', H', J, q⟩ := hs
    exact ⟨.non, H', J.os, J.bare, J.base, J.hok, rfl, q⟩
  | brk =>
    obtain ⟨_, _, _, q⟩ := hs
    exact False.elim q
  | cont =>
    obtain ⟨_, _, _, q⟩ := hs
    exact False.elim q
section
variable {X : Cx} {CX : CXT} {k : Nat} {f : Addr} {fd : FuncData} {ps : List Str} {sp : Sp} {dvs : List V} {ds : List Value} {E : XK} {x : Str}
  {p pos : Pos} {e : Expr} {es : List Expr} {t : TA}
theorem runQ {pins : List (Addr × Obj)} {σ : L2.St} {H : Hp} {s : Shared} {Q : VK} {us : List Value} {vs : List V} (F : FnQ X.prog X.w X.K X.mg X.base CX k f fd ps sp)
    (hG : Qt X.A) (hr : Room k X.A) (hb : Binds X.K fd ps ds) (hd : Vals dvs ds) (hx : Passes CX X E)
    (I : Inv X pins σ H s) (r : Vals vs us) (h : sp (vs ++ dvs) H Q E) : wpAny (model X.prog X.w) X.A (call (.ref f) us) (EP X pins σ Q) X.xe s := by
  have r2 : Vals (vs ++ dvs) (us ++ ds) := r.append hd
  have hl : (us ++ ds).length = ps.length := by rw [← r2.length]; exact F.len _ _ _ _ h
  refine wpAny_call (codeAny_mono (F.run X.A X.stack s H ⟨us, []⟩ (us ++ ds) (vs ++ dvs) Q E hG hr I.env0 (hb s us I.kIn hl) r2 h) fun q s' hq => ?_)
  cases q with
  | error e => exact hx pins σ H s e s' I hq
  | ok fl =>
    cases fl with
    | ret u => exact I.after hq
    | next => exact False.elim hq
    | brk => exact False.elim hq
    | cont => exact False.elim hq
theorem pe_callQ (F : FnQ X.prog X.w X.K X.mg X.base CX k f fd ps sp) (hG : Qt X.A) (hr : Room k X.A) (hg : Gl X x) (hm : X.mg x = some (.ref f))
    (hk : PySem.W.keepIn X.K (.ref f) = true) (hb : Binds X.K fd ps ds) (hd : Vals dvs ds) (hx : Passes CX X E) (ha : PA X (e :: es) t)
    (hdb : (x == ("__debug__" : Str)) = false := by decide) (he : starEach (e :: es) X.env = (false, eval e X.env) :: starEach es X.env := by rfl)
    (hpl : (backTo pos (starEach es X.env)).any (·.1) = false := by rfl) : PE X (.Call (.Name x p) (e :: es) [] pos) (tCall sp dvs E t) := by
  refine ⟨fun pins s σ H Q I h => wpAny_Call_Name_kw (ld_glob I hg hm ?_ hdb)⟩
  refine PySem.W.callWith_K (h₀ := X.base) I.ok.mod.kin hk (thn (ha.run pos pins s σ H _ I h) fun us s1 ⟨vs, H1, I1, r, q⟩ => ⟨I1.kIn, ?_⟩) he hpl
  exact runQ F hG hr hb hd hx I1 r q
end
end Kb
set_option Elab.async false
set_option linter.all false
set_option maxRecDepth 100000
set_option maxHeartbeats 4000000
namespace Kb
open PySem PySem.Spec PyProof.Rows L2

/-! ### data, dicts too -/
def kD : Key → PyData
  | .inl i => .int i
  | .inr x => .str x
mutual
inductive Dq (K : PySem.W.Frag) (H : Hp) : V → PyData → Prop
  | non : Dq K H .non .none
  | bl (b : Bool) : Dq K H (.bl b) (.bool b)
  | int (i : Int) : Dq K H (.int i) (.int i)
  | str (x : Str) : Dq K H (.str x) (.str x)
  | lst {a : Addr} {xs : List V} {ds : List PyData} : SqL K H a xs → a ≠ sysModules → DqAll K H xs ds → Dq K H (.ref a) (.list ds)
  | tup {a : Addr} {xs : List V} {ds : List PyData} : SqT K H a xs → DqAll K H xs ds → Dq K H (.ref a) (.tuple ds)
  | dic {a : Addr} {kvs : List (Key × V)} {es : List (PyData × PyData)} : Rd H a (.dK kvs) → DqKv K H kvs es → Dq K H (.ref a) (.dict es)
inductive DqAll (K : PySem.W.Frag) (H : Hp) : List V → List PyData → Prop
  | nil : DqAll K H [] []
  | cons {v : V} {vs : List V} {d : PyData} {ds : List PyData} : Dq K H v d → DqAll K H vs ds → DqAll K H (v :: vs) (d :: ds)
inductive DqKv (K : PySem.W.Frag) (H : Hp) : List (Key × V) → List (PyData × PyData) → Prop
  | nil : DqKv K H [] []
  | cons {k : Key} {v : V} {d : PyData} {kvs : List (Key × V)} {es : List (PyData × PyData)} : Dq K H v d → DqKv K H kvs es → DqKv K H ((k, v) :: kvs) ((kD k, d) :: es)
end
theorem Same.rd {H H' : Hp} (e : Same H H') {a : Addr} {u : HO} (h : Rd H a u) : Rd H' a u := by
  rcases h with h | ⟨o, h⟩
  · exact .inl (e _ _ h)
  · exact .inr ⟨o, e _ _ h⟩
theorem Same.seqT {K : PySem.W.Frag} {H H' : Hp} {a : Addr} {xs : List V} (e : Same H H') (h : SqT K H a xs) : SqT K H' a xs := by
  rcases h with h | h
  · exact .inl (Same.rd e h)
  · exact .inr h
mutual
theorem Dq.same {K : PySem.W.Frag} {H H' : Hp} (e : Same H H') : ∀ (d : PyData) (v : V), Dq K H v d → Dq K H' v d
  | _, _, .non => .non
  | _, _, .bl b => .bl b
  | _, _, .int i => .int i
  | _, _, .str x => .str x
  | .list ds, _, .lst hs hn ha => .lst (e.seq hs) hn (DqAll.same e ds _ ha)
  | .tuple ds, _, .tup hs ha => .tup (Same.seqT e hs) (DqAll.same e ds _ ha)
  | .dict es, _, .dic hs ha => .dic (Same.rd e hs) (DqKv.same e es _ ha)
theorem DqAll.same {K : PySem.W.Frag} {H H' : Hp} (e : Same H H') : ∀ (ds : List PyData) (vs : List V), DqAll K H vs ds → DqAll K H' vs ds
  | _, _, .nil => .nil
  | d :: ds, _, .cons h1 h2 => .cons (Dq.same e d _ h1) (DqAll.same e ds _ h2)
theorem DqKv.same {K : PySem.W.Frag} {H H' : Hp} (e : Same H H') : ∀ (es : List (PyData × PyData)) (kvs : List (Key × V)), DqKv K H kvs es → DqKv K H' kvs es
  | _, _, .nil => .nil
  | (_, d) :: es, _, .cons h1 h2 => .cons (Dq.same e d _ h1) (DqKv.same e es _ h2)
end
section
variable {X : Cx} {pins : List (Addr × Obj)} {σ : L2.St} {H : Hp} {s : Shared}
theorem key_reads {h : Heap} {k : Key} {u : Value} (e : keyIs k u = true) : Reads h u (kD k) [] := by
  rcases keyIs_shape e with ⟨i, t, rfl, rfl⟩ | ⟨x, t, rfl, rfl⟩
  · exact Reads.int i t
  · exact Reads.str x t
mutual
theorem Dq.reads (I : Inv X pins σ H s) : ∀ (d : PyData) (v : V) (u : Value), Dq X.K H v d → RelV v u → ∃ as, Reads s.heap u d as ∧ ∀ a ∈ as, a ≠ sysModules
  | .none, _, _, h, r => by
    cases h
    cases r
    exact ⟨_, Reads.none, fun _ z => nomatch z⟩
  | .bool b, _, _, h, r => by
    cases h
    cases r
    exact ⟨_, Reads.bool b, fun _ z => nomatch z⟩
  | .int i, _, _, h, r => by
    cases h
    obtain ⟨t, rfl⟩ := r
    exact ⟨_, Reads.int i t, fun _ z => nomatch z⟩
  | .str x, _, _, h, r => by
    cases h
    obtain ⟨t, rfl⟩ := r
    exact ⟨_, Reads.str x t, fun _ z => nomatch z⟩
  | .list ds, _, _, h, r => by
    cases h with
    | lst hs hn ha =>
      cases r
      obtain ⟨its, rv, ⟨o, n, ho, hc, _, hd⟩, _⟩ := I.list hs
      obtain ⟨as, hr, hq⟩ := DqAll.reads I ds _ its ha rv
      exact ⟨_, Reads.list ho hc hd hr, fun b hb => (List.mem_cons.mp hb).elim (fun z => z ▸ hn) (hq b)⟩
  | .tuple ds, _, _, h, r => by
    cases h with
    | tup hs ha =>
      cases r
      obtain ⟨its, rv, ⟨o, ho, hc, n, hd⟩, _⟩ := I.tuple hs
      obtain ⟨as, hr, hq⟩ := DqAll.reads I ds _ its ha rv
      exact ⟨_, Reads.tuple ho hc hd hr, hq⟩
  | .dict es, _, _, h, r => by
    cases h with
    | @dic a kvs _ hs ha =>
      cases r
      obtain ⟨_, hne, vs, kv, o, ent, ep, ho, hx, hd, _, hp, _⟩ := dk_rd I.hok hs
      obtain ⟨bs, h1, h2, hq⟩ := DqKv.reads I es kvs vs ent.toList ha kv hp
      refine ⟨_, Reads.dict (as := []) (bs := bs) ho hx.1 hd h1 h2, fun b hb => ?_⟩
      rcases List.mem_cons.mp hb with z | z
      · rw [z]
        exact fun e => by rw [e] at hne; exact absurd hne (by decide)
      · exact hq b (by simpa using z)
theorem DqAll.reads (I : Inv X pins σ H s) : ∀ (ds : List PyData) (vs : List V) (us : List Value), DqAll X.K H vs ds → Vals vs us → ∃ as, ReadsAll s.heap us ds as ∧ ∀ a ∈ as, a ≠ sysModules
  | [], _, _, h, r => by
    cases h
    cases r
    exact ⟨_, ReadsAll.nil, fun _ z => nomatch z⟩
  | d :: ds, _, _, h, r => by
    cases h with
    | cons h1 h2 =>
      cases r with
      | cons r1 r2 =>
        obtain ⟨as, q1, n1⟩ := Dq.reads I d _ _ h1 r1
        obtain ⟨bs, q2, n2⟩ := DqAll.reads I ds _ _ h2 r2
        exact ⟨_, ReadsAll.cons q1 q2, fun b hb => (List.mem_append.mp hb).elim (n1 b) (n2 b)⟩
theorem DqKv.reads (I : Inv X pins σ H s) : ∀ (es : List (PyData × PyData)) (kvs : List (Key × V)) (vs : List (Key × Value)) (ent : List DictEntry), DqKv X.K H kvs es → KV kvs vs →
    Pairs (mixKind X.prog X.w) ent vs → ∃ bs, ReadsAll s.heap (ent.map (·.key)) (es.map (·.1)) [] ∧ ReadsAll s.heap (ent.map (·.val)) (es.map (·.2)) bs ∧ ∀ a ∈ bs, a ≠ sysModules
  | [], _, _, _, h, r, p => by
    cases h
    cases r
    cases p
    exact ⟨_, ReadsAll.nil, ReadsAll.nil, fun _ z => nomatch z⟩
  | (k0, d) :: es, _, _, _, h, r, p => by
    cases h with
    | cons h1 h2 =>
      cases r with
      | cons r1 r2 =>
        cases p with
        | @cons e0 _ _ _ p1 p2 p3 =>
          obtain ⟨rk, rv⟩ := r1
          obtain ⟨as, q1, n1⟩ := Dq.reads I d _ e0.val h1 (by rw [p2]; exact rv)
          obtain ⟨bs, q2, q3, n2⟩ := DqKv.reads I es _ _ _ h2 r2 p3
          have rk' := rk
          dsimp only at rk'
          refine ⟨_, ReadsAll.cons (as := []) (bs := []) (key_reads (by rw [rk']; exact p1)) q2, ReadsAll.cons q1 q3, fun b hb => (List.mem_append.mp hb).elim (n1 b) (n2 b)⟩
end
end
/-- repr(x) of data; x is told by d alone -/
def rRepr (K : PySem.W.Frag) (m : Nat) : List V → Hp → VK → Prop := fun xs H Q => ∃ x d, xs = [x] ∧ Dq K H x d ∧ d.showable = true ∧ d.depth ≤ m ∧ d.shown.length ≤ sizeLine ∧ Q (.str d.shown) H
theorem call_repr {X : Cx} (m : Nat) (hG : Qt X.A) (hu : X.A.units + (m + 2) < cLine) : CallR X (.builtin "repr") (rRepr X.K m) := by
  intro pins s σ H xs us Q I r h
  obtain ⟨x, d, rfl, hd, hs, hdp, hz, q⟩ := h
  obtain ⟨u, rfl, ru⟩ := vals1 r
  have flat : ∀ {y : Str}, d.shown = y → Q (.str y) H := fun e => e ▸ q
  cases hd with
  | non =>
    cases ru
    exact PySem.P.repr_of_none ⟨.str _, H, I.tok _, ⟨_, rfl⟩, q⟩
  | bl b =>
    cases ru
    exact PySem.P.repr_of_bool ⟨.str _, H, I.tok _, ⟨_, rfl⟩, q⟩
  | int i =>
    obtain ⟨t, rfl⟩ := ru
    exact PySem.P.repr_of_int (by simpa [PyData.showable] using hs) ⟨.str _, H, I.tok _, ⟨_, rfl⟩, q⟩
  | str y =>
    obtain ⟨t, rfl⟩ := ru
    exact PySem.P.repr_of_str ⟨.str _, H, I.tok _, ⟨_, rfl⟩, q⟩ hz
  | lst h1 h2 h3 =>
    obtain ⟨as, hr, hq⟩ := Dq.reads I _ _ _ (Dq.lst h1 h2 h3) ru
    cases ru
    exact repr_of_reads' hr hs (fun _ z => hq _ z rfl) hG (by omega) (fun _ _ e => e) (fun h' u tk hk => ⟨.str _, H, I.kept (t' := tk) hk, ⟨_, rfl⟩, q⟩) hz
  | tup h1 h2 =>
    obtain ⟨as, hr, hq⟩ := Dq.reads I _ _ _ (Dq.tup h1 h2) ru
    cases ru
    exact repr_of_reads' hr hs (fun _ z => hq _ z rfl) hG (by omega) (fun _ _ e => e) (fun h' u tk hk => ⟨.str _, H, I.kept (t' := tk) hk, ⟨_, rfl⟩, q⟩) hz
  | dic h1 h2 =>
    obtain ⟨as, hr, hq⟩ := Dq.reads I _ _ _ (Dq.dic h1 h2) ru
    cases ru
    exact repr_of_reads' hr hs (fun _ z => hq _ z rfl) hG (by omega) (fun _ _ e => e) (fun h' u tk hk => ⟨.str _, H, I.kept (t' := tk) hk, ⟨_, rfl⟩, q⟩) hz
/-- a list, new, and not where the modules' table stands -/
def tLstB (t : TA) : TE := fun σ H Q => t σ H fun xs H1 => xs.length ≤ sizeLine ∧ ∀ p, H1 p = none → p ≠ sysModules → Q (.ref p) (upd H1 p (.lst xs))
theorem pe_lstB {X : Cx} {es : List Expr} {t : TA} {pos : Pos} (h : PA X es t) : PE X (.List es pos) (tLstB t) := by
  refine ⟨fun pins s σ H Q I hq => ?_⟩
  refine wpAny_List_spliced (thn (h.run pos pins s σ H _ I hq) fun us s1 ⟨xs, H1, I1, r, z, q⟩ => ⟨r.length ▸ z, ?_⟩)
  refine ⟨.ref s1.heap.objs.size, upd H1 s1.heap.objs.size (.lst xs), ?_, rfl, q _ (I1.hok.fresh (Nat.le_refl _)) (Ne.symm (Nat.ne_of_lt I1.big))⟩
  exact I1.laid (t' := s1.toks) (fun b u e => Heap.get?_push_of_some _ e) (Nat.le_refl _) ⟨z, us, 0, r, Heap.get?_push_size _ rfl⟩
end Kb
set_option Elab.async false
set_option linter.all false
set_option maxRecDepth 100000
set_option maxHeartbeats 4000000
namespace Kb
open PySem PySem.Spec PyProof.Rows L2

/-! ### the heap without the pot -/
def Rest (p : Addr) (H : Hp) : Hp := fun b => if b = p then none else H b
theorem rest_same (p : Addr) (H : Hp) : Same (Rest p H) H := fun b o e => by
  unfold Rest at e
  split at e
  · cases e
  · exact e
theorem rest_at {p b : Addr} {H : Hp} {o : HO} (hb : b ≠ p) (e : H b = some o) : Rest p H b = some o := by
  unfold Rest
  rw [if_neg hb]
  exact e
theorem rest_p {p : Addr} {H : Hp} : Rest p H p = none := if_pos rfl
/-- all but the pot is as it was -/
def Ext (p : Addr) (H H' : Hp) : Prop := Same (Rest p H) (Rest p H')
theorem Ext.refl (p : Addr) (H : Hp) : Ext p H H := Same.refl _
theorem Ext.trans {p : Addr} {H H1 H2 : Hp} (a : Ext p H H1) (b : Ext p H1 H2) : Ext p H H2 := Same.trans a b
theorem Ext.at {p b : Addr} {H H' : Hp} {o : HO} (x : Ext p H H') (hb : b ≠ p) (e : H b = some o) : H' b = some o := rest_same p H' b o (x b o (rest_at hb e))
theorem Ext.same {p : Addr} {H H' : Hp} (x : Same H H') : Ext p H H' := fun b o e => by
  by_cases hb : b = p
  · rw [hb, rest_p] at e
    cases e
  · exact rest_at hb (x b o (rest_same p H b o e))
theorem same_upd {H : Hp} {q : Addr} {o : HO} (h : H q = none) : Same H (upd H q o) := fun b x e => by
  rw [upd_ne (ne_of_none e h)]
  exact e
theorem Ext.new {p q : Addr} {H : Hp} {o : HO} (h : H q = none) : Ext p H (upd H q o) := .same (same_upd h)
theorem Ext.pot {p : Addr} {H : Hp} {o : HO} : Ext p H (upd H p o) := fun b x e => by
  by_cases hb : b = p
  · rw [hb, rest_p] at e
    cases e
  · exact rest_at hb (by rw [upd_ne hb]; exact rest_same p H b x e)
theorem Ext.of {p : Addr} {H H' : Hp} (k : ∀ b o, H b = some o → b ≠ p → H' b = some o) : Ext p H H' := fun b o e => by
  by_cases hb : b = p
  · rw [hb, rest_p] at e
    cases e
  · exact rest_at hb (k b o (rest_same p H b o e) hb)
/-- what is not tracked ahead of the pot's use is not tracked then: a new address is none of what was there -/
theorem Ext.free {p q : Addr} {H H' : Hp} (x : Ext p H H') (hq : q ≠ p) (h : H' q = none) : H q = none := by
  cases e : H q with
  | none => rfl
  | some o =>
    rw [x.at hq e] at h
    cases h
/-! ### a pot -/
structure PotAt (H : Hp) (p : Addr) (n : Nat) : Prop where
  ex : ∃ a b c : Int, H p = some (.lst [.int a, .int b, .int c]) ∧ 0 ≤ b ∧ b < 2305843009213693921 ∧ 0 ≤ c ∧ c ≤ (n : Int)
theorem PotAt.mono {H : Hp} {p : Addr} {n m : Nat} (x : PotAt H p n) (h : n ≤ m) : PotAt H p m := by
  obtain ⟨a, b, c, e, h1, h2, h3, h4⟩ := x.ex
  exact ⟨a, b, c, e, h1, h2, h3, by omega⟩
theorem PotAt.same {H H' : Hp} {p : Addr} {n : Nat} (x : PotAt H p n) (s : Same H H') : PotAt H' p n := by
  obtain ⟨a, b, c, e, h⟩ := x.ex
  exact ⟨a, b, c, s _ _ e, h⟩
theorem PotAt.ne {H : Hp} {p q : Addr} {n : Nat} (x : PotAt H p n) (h : H q = none) : q ≠ p := by
  obtain ⟨a, b, c, e, _⟩ := x.ex
  exact (ne_of_none e h).symm
theorem PotAt.new {H : Hp} {p q : Addr} {n : Nat} {o : HO} (x : PotAt H p n) (h : H q = none) : PotAt (upd H q o) p n := x.same (same_upd h)
/-- what a pot's user hands back -/
def Took (p : Addr) (n m : Nat) (H H' : Hp) : Prop := PotAt H' p (n + m) ∧ Ext p H H'
/-! ### promises -/
def spPot (K : PySem.W.Frag) : Sp := fun vs H Q _ => ∃ (a : Addr) (ns : List Int) (i : Int), vs = [.ref a, .int i] ∧ SqL K H a (ns.map V.int) ∧ 0 ≤ i ∧ i < 100 ∧
  ∀ H' p, Same H H' → H p = none → PotAt H' p 0 → Q (.ref p) H'
def spTake : Sp := fun vs H Q _ => ∃ (p : Addr) (u : Int) (n : Nat), vs = [.ref p, .int u] ∧ PotAt H p n ∧ n ≤ 1000000 ∧ 0 < u ∧ u ≤ 1000000 ∧
  ∀ H' i, 0 ≤ i → i < u → Took p n 1 H H' → Q (.int i) H'
def spOf (K : PySem.W.Frag) : Sp := fun vs H Q _ => ∃ (p l : Addr) (xs : List V) (n : Nat), vs = [.ref p, .ref l] ∧ PotAt H p n ∧ n ≤ 1000000 ∧
  SqL K (Rest p H) l xs ∧ 0 < xs.length ∧ xs.length ≤ 1000000 ∧ ∀ H' x, x ∈ xs → Took p n 1 H H' → Q x H'
def upto (n : Nat) : List V := (List.range n).map fun (i : Nat) => V.int (i : Int)
def spCells (K : PySem.W.Frag) : Sp := fun vs H Q _ => ∃ (a : Addr) (xs : List V) (m : Nat), vs = [.ref a, .int m] ∧ SqL K H a xs ∧ xs.length ≤ 1000 ∧ m ≤ 60 ∧
  ∀ H' p n, n ≤ 60 → Same H H' → H p = none → H' p = some (.lst (upto n)) → Q (.ref p) H'
theorem seq_rest {K : PySem.W.Frag} {H : Hp} {p a : Addr} {xs : List V} (h : SqL K (Rest p H) a xs) : SqL K H a xs := (rest_same p H).seq h
theorem seq_ext {K : PySem.W.Frag} {H H' : Hp} {p a : Addr} {xs : List V} (x : Ext p H H') (h : SqL K (Rest p H) a xs) : SqL K (Rest p H') a xs := Same.seq x h
theorem dq_ext {K : PySem.W.Frag} {H H' : Hp} {p : Addr} {v : V} {d : PyData} (x : Ext p H H') (h : Dq K (Rest p H) v d) : Dq K (Rest p H') v d := Dq.same x d v h
theorem atI_nat' {xs : List V} {i : Int} {v : V} (h0 : 0 ≤ i) (h : xs[i.toNat]? = some v) : atI xs i = some v := by
  obtain ⟨n, rfl⟩ : ∃ n : Nat, i = (n : Int) := ⟨i.toNat, by omega⟩
  exact atI_nat (by simpa using h)
theorem b01 (k : Bool) : (-(2 ^ 64 : Int) < (if k = true then (1 : Int) else 0)) ∧ (if k = true then (1 : Int) else 0) < 2 ^ 64 := by
  cases k <;> decide
theorem big300 : (0 : Int) < (10 ^ Int.toNat 60) ^ Int.toNat 5 := by decide +kernel
end Kb
set_option Elab.async false
set_option linter.all false
set_option maxRecDepth 100000
set_option maxHeartbeats 4000000
namespace Kb
open PySem PySem.Spec PyProof.Rows L2
/-! ### a row of new objects -/
def lay (H : Hp) : List (Addr × HO) → Hp
  | [] => H
  | (a, o) :: r => lay (upd H a o) r
def Fresh (H : Hp) : List (Addr × HO) → Prop
  | [] => True
  | (a, o) :: r => H a = none ∧ Fresh (upd H a o) r
theorem lay_same : ∀ {L : List (Addr × HO)} {H : Hp}, Fresh H L → Same H (lay H L)
  | [], _, _ => Same.refl _
  | (_, _) :: _, _, f => (same_upd f.1).trans (lay_same f.2)
theorem lay_at : ∀ {L : List (Addr × HO)} {H : Hp} {i : Nat} {a : Addr} {o : HO}, Fresh H L → L[i]? = some (a, o) → lay H L a = some o
  | [], _, _, _, _, _, h => by simp at h
  | (b, u) :: r, H, 0, a, o, f, h => by
    have e : (b, u) = (a, o) := Option.some.inj h
    cases e
    exact lay_same f.2 _ _ upd_same
  | (b, u) :: r, H, i + 1, a, o, f, h => lay_at (L := r) (H := upd H b u) (i := i) f.2 (by simpa using h)
theorem fresh_ne : ∀ {L : List (Addr × HO)} {H : Hp} {i : Nat} {a p : Addr} {o u : HO}, Fresh H L → H p = some u → L[i]? = some (a, o) → a ≠ p
  | [], _, _, _, _, _, _, _, _, h => by simp at h
  | (b, v) :: r, H, 0, a, p, o, u, f, hp, h => by
    have e : (b, v) = (a, o) := Option.some.inj h
    cases e
    exact (ne_of_none hp f.1).symm
  | (b, v) :: r, H, i + 1, a, p, o, u, f, hp, h => fresh_ne (L := r) (H := upd H b v) (i := i) f.2 (same_upd f.1 _ _ hp) (by simpa using h)
theorem lay_rest {L : List (Addr × HO)} {H : Hp} {i : Nat} {a p : Addr} {o u : HO} (f : Fresh H L) (hp : H p = some u) (h : L[i]? = some (a, o)) : Rest p (lay H L) a = some o := rest_at (fresh_ne f hp h) (lay_at f h)
/-! ### data of a list -/
theorem DqAll.pick {K : PySem.W.Frag} {H : Hp} : ∀ {vs : List V} {ds : List PyData} {x : V}, DqAll K H vs ds → x ∈ vs → ∃ d ∈ ds, Dq K H x d
  | _, _, _, .cons (d := d) h t, hx => by
    rcases List.mem_cons.mp hx with e | e
    · exact ⟨d, List.mem_cons_self, by rw [e]; exact h⟩
    · obtain ⟨d', h1, h2⟩ := DqAll.pick t e
      exact ⟨d', List.mem_cons_of_mem _ h1, h2⟩
theorem DqAll.app {K : PySem.W.Frag} {H : Hp} : ∀ {vs ws : List V} {ds es : List PyData}, DqAll K H vs ds → DqAll K H ws es → DqAll K H (vs ++ ws) (ds ++ es)
  | _, _, _, _, .nil, h => h
  | _, _, _, _, .cons a b, h => .cons a (DqAll.app b h)
theorem DqAll.length {K : PySem.W.Frag} {H : Hp} : ∀ {vs : List V} {ds : List PyData}, DqAll K H vs ds → vs.length = ds.length
  | _, _, .nil => rfl
  | _, _, .cons a b => by simp [DqAll.length b]
/-! ### the odd values -/
def odd1 : List PyData := [.none, .bool true, .bool false, .int 0, .int 1, .int (-1), .int 2, .str "", .str "a", .str "known", .str "before", .str "carries", .tuple [], .list [], .dict [], .tuple [.tuple []], .tuple [.int 0], .tuple [.int 0, .int 1]]
def odd2 : List PyData := [.list [.int 0], .dict [(.str "a", .int 1)], .int 99999, .str "1", .str "rule", .tuple [.str "a", .str "b"], .tuple [.str "fits"], .tuple [.none, .none], .tuple [.str "a", .bool true], .str "-"]
def oddD : List PyData := odd1 ++ odd2
/-- what was not tracked ahead (and is not the pot) -/
def New (p : Addr) (H H' : Hp) : Hp := fun b => match H b with
  | none => Rest p H' b
  | some _ => none
theorem new_rest {p : Addr} {H H' : Hp} : Same (New p H H') (Rest p H') := fun b o e => by
  unfold New at e
  split at e
  · exact e
  · cases e
theorem new_at {p b : Addr} {H H' : Hp} {o : HO} (h : H b = none) (e : Rest p H' b = some o) : New p H H' b = some o := by
  unfold New
  rw [h]
  exact e
theorem new_none {p b : Addr} {H H' : Hp} {o : HO} (e : New p H H' b = some o) : H b = none := by
  unfold New at e
  split at e
  · assumption
  · cases e
theorem new_ext {p : Addr} {H H1 H2 : Hp} (x : Ext p H1 H2) : Same (New p H H1) (New p H H2) := fun b o e => new_at (new_none e) (x b o (new_rest b o e))
theorem fresh_none : ∀ {L : List (Addr × HO)} {H : Hp} {i : Nat} {a : Addr} {o : HO}, Fresh H L → L[i]? = some (a, o) → H a = none
  | [], _, _, _, _, _, h => by simp at h
  | (b, v) :: r, H, 0, a, o, f, h => by
    have e : (b, v) = (a, o) := Option.some.inj h
    cases e
    exact f.1
  | (b, v) :: r, H, i + 1, a, o, f, h => (same_upd f.1).free (fresh_none (L := r) (H := upd H b v) (i := i) f.2 (by simpa using h))
theorem lay_new {L : List (Addr × HO)} {H : Hp} {i : Nat} {a p : Addr} {o u : HO} (f : Fresh H L) (hp : H p = some u) (h : L[i]? = some (a, o)) : New p H (lay H L) a = some o := new_at (fresh_none f h) (lay_rest f hp h)
theorem dq_new {K : PySem.W.Frag} {p : Addr} {H H' : Hp} {x : V} {d : PyData} (h : Dq K (New p H H') x d) : Dq K (Rest p H') x d := Dq.same new_rest _ _ h
def spOdd (K : PySem.W.Frag) : Sp := fun vs H Q _ => ∃ (p : Addr) (n : Nat), vs = [.ref p] ∧ PotAt H p n ∧ n ≤ 1000000 ∧
  ∀ H' x d, d ∈ oddD → Dq K (New p H H') x d → Took p n 1 H H' → Q x H'
end Kb
set_option Elab.async false
set_option linter.all false
set_option maxRecDepth 100000
set_option maxHeartbeats 4000000
namespace Kb
open PySem PySem.Spec PyProof.Rows L2
/-! ### t[::-1] of a tuple -/
theorem adjust_back (n : Nat) : Builtin.Slice.sliceAdjust none none (-1) (n : Int) = ((n : Int) - 1, -1) := by
  unfold Builtin.Slice.sliceAdjust
  simp
theorem places_back (n : Nat) : Builtin.Slice.slicePlaces ((n : Int) - 1) (-1) (-1) = n := by
  unfold Builtin.Slice.slicePlaces
  simp
  try omega
theorem fm_congr {α β : Type} {f g : α → Option β} : ∀ {l : List α}, (∀ a ∈ l, f a = g a) → l.filterMap f = l.filterMap g
  | [], _ => rfl
  | a :: l, h => by
    rw [List.filterMap_cons, List.filterMap_cons, h a List.mem_cons_self, fm_congr fun b hb => h b (List.mem_cons_of_mem _ hb)]
theorem pick_back (xs : Array Value) : ((List.range xs.size).filterMap fun (k : Nat) => xs[((xs.size : Int) - 1 + (k : Int) * (-1)).toNat]?).toArray = xs.toList.reverse.toArray := by
  have e : ((List.range xs.size).filterMap fun (k : Nat) => xs[((xs.size : Int) - 1 + (k : Int) * (-1)).toNat]?) = ((List.range xs.size).map fun k => xs.size - 1 - k).filterMap (xs[·]?) := by
    rw [List.filterMap_map]
    refine fm_congr fun k hk => ?_
    have hk' := List.mem_range.mp hk
    have q : ((xs.size : Int) - 1 + (k : Int) * (-1)).toNat = xs.size - 1 - k := by omega
    show _ = xs[xs.size - 1 - k]?
    rw [q]
  rw [e, PySem.W.krv_range, List.filterMap_reverse, PySem.W.krv_all]
section
variable {prog : Program} {w : World} {A : Around} {E : Value → Shared → Prop} {s : Shared}
theorem applied_back {sl : Addr} {t : Tok} {n : Nat} {Q : Int × Int × Nat → Shared → Prop} (hs : s.heap.IsSliceOf sl .none .none (.int (-1) t))
    (h : Q ((n : Int) - 1, -1, n) s) : wpAny (model prog w) A (Builtin.Slice.sliceApplied (.ref sl) (pure (n : Int))) Q E s := by
  obtain ⟨os, ho1, ho2, ho3⟩ := id hs
  unfold Builtin.Slice.sliceApplied Builtin.Slice.sliceFields
  refine wpAny_bind (wpAny_bind (wpAny_field ho1 ho3 (x := .none) rfl (wpAny_bind (wpAny_field ho1 ho3 (x := .none) rfl (wpAny_bind (wpAny_field ho1 ho3 (x := .int (-1) t) rfl (wpAny_pure ?_)))))))
  refine wpAny_bind (slicePart_int ?_)
  show wpAny _ _ (if ((-1 : Int) == 0) = true then _ else _) _ _ s
  rw [if_neg (by decide)]
  refine wpAny_bind (slicePart_none (wpAny_bind (slicePart_none (wpAny_bind (wpAny_pure ?_)))))
  show wpAny _ _ (match Builtin.Slice.sliceAdjust none none (-1) (n : Int) with | (a, b) => pure (a, (-1 : Int), Builtin.Slice.slicePlaces a b (-1))) _ _ s
  rw [adjust_back n]
  show wpAny _ _ (pure ((n : Int) - 1, (-1 : Int), Builtin.Slice.slicePlaces ((n : Int) - 1) (-1) (-1))) _ _ s
  rw [places_back]
  exact wpAny_pure h
theorem getItem_back {tp sl : Addr} {items : Array Value} {tk : Tok} {Q : Value → Shared → Prop} (hT : IsTup s.heap tp items) (hs : s.heap.IsSliceOf sl .none .none (.int (-1) tk))
    (h : Q (.ref s.heap.objs.size) { s with heap := s.heap.push { cls := .type "tuple", data := .seq items.toList.reverse.toArray } }) (hz : items.size ≤ sizeLine) :
    wpAny (model prog w) A (getItem (.ref tp) (.ref sl)) Q E s := by
  have ok : sizeOk (.seq items.toList.reverse.toArray) := by
    show items.toList.reverse.toArray.size ≤ sizeLine
    rw [List.size_toArray, List.length_reverse, Array.length_toList]
    exact hz
  obtain ⟨os, ho1, ho2, ho3⟩ := id hs
  have hY : s.TypeIs (.ref sl) "slice" := ⟨os, ho1, ho2⟩
  unfold getItem
  try with_reducible refine wpAny_holding ?_
  first | refine wpAny_bind (wpAny_pure ?_) | skip
  refine wpAny_bind (wpAny_sequenceKey hT.typeIs (by decide) (wpAny_bind (wpAny_callSpecial?_slot (name := Str.ofString "__getitem__") hT.typeIs PyProof.Rows.slot_tuple_getitem
    (wpAny_call_entry PyProof.Rows.slot_tuple_getitem hT.typeIs entry_tuple_getitem ?_ (args_tuple_getitem _ _)))))
  show wpAny _ _ (Builtin.Tuple.tupleItemsOf (.ref tp) >>= _) _ _ s
  refine wpAny_bind (tupleItemsOf_ hT (wpAny_bind (wpAny_typeOf hY ?_)))
  rw [if_pos (by decide)]
  refine wpAny_bind (applied_back hs ?_)
  have no : ¬ ((((items.size : Int) - 1) == 0 && (-1 : Int) == 1 && items.size == items.size) = true) := by simp
  show wpAny _ _ (if (((items.size : Int) - 1) == 0 && (-1 : Int) == 1 && items.size == items.size) = true then _ else _) _ _ s
  rw [if_neg no, pick_back]
  first
    | exact wpAny_bind (m := Builtin.Tuple.tupleExact _) (wpAny_newObj_type (wpAny_pure ⟨_, rfl, wpAny_pure h⟩) ok)
    | exact wpAny_bind (m := Builtin.Tuple.tupleExact _) (wpAny_newObj_type (wpAny_bind (wpAny_pure (wpAny_pure ⟨_, rfl, wpAny_pure h⟩))) ok)
    | exact wpAny_bind (wpAny_bind (m := Builtin.Tuple.tupleExact _) (wpAny_newObj_type (wpAny_pure (wpAny_pure ⟨_, rfl, wpAny_pure h⟩)) ok))
    | exact wpAny_bind (wpAny_bind (m := Builtin.Tuple.tupleExact _) (wpAny_newObj_type (wpAny_pure ⟨_, rfl, wpAny_pure h⟩) ok))
end
def tRevT (K : PySem.W.Frag) (te : TE) : TE := fun σ H Q => te σ H fun x H1 => ∃ a xs, x = .ref a ∧ SqT K H1 a xs ∧ ∀ p, H1 p = none → Q (.ref p) (upd H1 p (.tup xs.reverse))
theorem pe_revT {X : Cx} {e : Expr} {te : TE} {k : Nat} {p1 p2 p3 pos : Pos} (he : PE X e te) : PE X (.Subscript e (.Slice none none (some (.UnaryOp .USub (.Constant (.int 1) k p1) p2)) p3) pos) (tRevT X.K te) := by
  refine ⟨fun pins s σ H Q I h => Subscript_ (thn (he.run pins s σ H _ I h) fun v s1 ⟨x, H1, I1, r1, a, xs, ex, hx, q⟩ => ?_)⟩
  subst ex
  cases r1
  have hst : PE X (.UnaryOp .USub (.Constant (.int 1) k p1) p2) (tUn (rU fun i => .int (-i)) (tC (.int 1))) := pe_un un_neg pe_int
  refine wpAny_Slice (thn (po_none.run pins s1 σ H1 (fun o H2 => o = none ∧ H2 = H1) I1 ⟨rfl, rfl⟩) fun vl s2 ⟨l, H2, I2, pl, el, e2⟩ => ?_)
  subst el e2
  cases pl
  refine thn (po_none.run pins s2 σ H2 (fun o H3 => o = none ∧ H3 = H2) I2 ⟨rfl, rfl⟩) fun vu s3 ⟨u, H3, I3, pu, eu, e3⟩ => ?_
  subst eu e3
  cases pu
  refine thn ((po_some hst).run pins s3 σ H3 (fun o H4 => o = some (-1) ∧ H4 = H3) I3 ⟨1, rfl, -1, rfl, rfl, rfl⟩) fun vs s4 ⟨o, H4, I4, ps, eo, e4⟩ => ?_
  subst eo e4
  obtain ⟨tk, rfl⟩ : ∃ tk, vs = .int (-1) tk := by
    cases ps
    exact ⟨_, rfl⟩
  have I5 : Inv X pins σ H4 { s4 with heap := s4.heap.push { cls := .type "slice", data := .fields #[.none, .none, .int (-1) tk] } } := I4.kept (t' := s4.toks) fun b ob q => Heap.get?_push_of_some _ q
  obtain ⟨its, r, ht, hz⟩ := I5.tuple hx
  have hlen := r.length
  show wpAny (model X.prog X.w) X.A (subscriptTail e (.Slice none none (some (.UnaryOp .USub (.Constant (.int 1) k p1) p2)) p3) (.ref a) (.ref s4.heap.objs.size)) (EP X pins σ Q) X.xe { s4 with heap := s4.heap.push { cls := .type "slice", data := .fields #[.none, .none, .int (-1) tk] } }
  refine tail_any (ops := [.ref a, .ref s4.heap.objs.size]) ht.typeIs (PyProof.Rows.slot_tuple_getitem.lookup) ?_ (by with_unfolding_all rfl)
  refine getItem_back ht (Heap.IsSliceOf.new _ .none .none (.int (-1) tk)) ?_ (by rw [List.size_toArray]; omega)
  refine ⟨.ref _, _, I5.laid (t' := s4.toks) (o := .tup xs.reverse) (fun b ob q => Heap.get?_push_of_some _ q) (Nat.le_refl _) ?_, rfl, q _ (I5.hok.fresh (Nat.le_refl _))⟩
  exact ⟨by rw [List.length_reverse]; exact hz, _, r.reverse, IsTup.new _ _⟩
/-! ### list(x), not where the modules' table stands -/
theorem call_listB {X : Cx} : CallR X (.type "list") (fun xs H Q => ∃ p ys, xs = [.ref p] ∧ SqT X.K H p ys ∧ ∀ l, H l = none → l ≠ sysModules → Q (.ref l) (upd H l (.lst ys))) := by
  intro pins s σ H xs us Q I r h
  obtain ⟨p, ys, rfl, hq, q⟩ := h
  obtain ⟨u, rfl, rx⟩ := vals1 r
  cases rx
  obtain ⟨its, r', pl, hz⟩ := I.tuple hq
  have hl := r'.length
  obtain ⟨o, ho, hc, n, hd⟩ := pl
  refine call_list_seq p (.inr rfl) ho hc hd (fun h' c' kp e => ?_) (by simp only [List.size_toArray] <;> omega)
  exact ⟨.ref s.heap.objs.size, _, I.laid (t' := s.toks) kp (Nat.le_refl _) (show ObjOk X.prog X.w _ h' _ (.lst ys) from ⟨hz, its, c', r', e⟩), rfl,
    q _ (I.hok.fresh (Nat.le_refl _)) (Ne.symm (Nat.ne_of_lt I.big))⟩
/-! ### kinds of data -/
def tyName : PyData → String
  | .none => "NoneType"
  | .bool _ => "bool"
  | .int _ => "int"
  | .str _ => "str"
  | .list _ => "list"
  | .tuple _ => "tuple"
  | .dict _ => "dict"
theorem Dq.ty {K : PySem.W.Frag} {H : Hp} {x : V} {d : PyData} (h : Dq K H x d) : TyX K H x (.type (tyName d)) := by
  cases h with
  | non => exact .base .non
  | bl b => exact .base (.bl b)
  | int i => exact .base (.int i)
  | str y => exact .base (.str y)
  | lst hs _ _ =>
    rcases hs with (e | ⟨o, e⟩) | ⟨o, its, n, e, c, _⟩
    · exact .base (.lst e)
    · exact .base (.frz e)
    · exact .kList e c
  | tup hs _ =>
    rcases hs with (e | ⟨o, e⟩) | ⟨o, its, n, e, c, _⟩
    · exact .base (.tup e)
    · exact .fTuple e
    · exact .kTuple e c
  | dic hs _ =>
    rcases hs with e | ⟨o, e⟩
    · exact .base (.dK e)
    · exact .fDict e
mutual
theorem Dq.dp {K : PySem.W.Frag} {H : Hp} : ∀ (d : PyData) (v : V), Dq K H v d → d.canLay0 = true → Dp K H v d
  | _, _, .non, _ => .non
  | _, _, .bl b, _ => .bl b
  | _, _, .int i, _ => .int i
  | _, _, .str x, _ => .str x
  | .list ds, _, .lst hs _ ha, h => .lst hs (DqAll.dp ds _ ha (by simpa [PyData.canLay0] using h))
  | .tuple ds, _, .tup hs ha, h => .tup hs (DqAll.dp ds _ ha (by simpa [PyData.canLay0] using h))
  | .dict es, _, .dic hs ha, h => by simp [PyData.canLay0] at h
theorem DqAll.dp {K : PySem.W.Frag} {H : Hp} : ∀ (ds : List PyData) (vs : List V), DqAll K H vs ds → PyData.canLayAll0 ds = true → DpAll K H vs ds
  | _, _, .nil, _ => .nil
  | d :: ds, _, .cons h1 h2, h => .cons (Dq.dp d _ h1 (by simp [PyData.canLayAll0] at h; exact h.1)) (DqAll.dp ds _ h2 (by simp [PyData.canLayAll0] at h; exact h.2))
end
/-! ### sizes -/
def Sz (d : PyData) (n : Nat) : Prop := d.showable = true ∧ 3 * d.depth ≤ n ∧ d.shown.length ≤ n
def SzL (ds : List PyData) (n : Nat) : Prop := PyData.showableAll ds = true ∧ 3 * PyData.depthAll ds ≤ n ∧ ((PyData.shownAll ds).map (·.length)).sum + 2 * (PyData.shownAll ds).length ≤ n
theorem Sz.mono {d : PyData} {n m : Nat} (h : Sz d n) (l : n ≤ m) : Sz d m := ⟨h.1, Nat.le_trans h.2.1 l, Nat.le_trans h.2.2 l⟩
theorem SzL.nil : SzL [] 0 := ⟨rfl, Nat.le_refl _, Nat.le_refl _⟩
theorem SzL.cons {d : PyData} {ds : List PyData} {n m : Nat} (h : Sz d n) (t : SzL ds m) : SzL (d :: ds) (n + m + 2) := by
  obtain ⟨a1, a2, a3⟩ := h
  obtain ⟨b1, b2, b3⟩ := t
  refine ⟨by simp [PyData.showableAll, a1, b1], ?_, ?_⟩
  · show 3 * max d.depth (PyData.depthAll ds) ≤ _
    omega
  · simp only [PyData.shownAll, List.map_cons, List.sum_cons, List.length_cons]
    omega
theorem Sz.tup {ds : List PyData} {n : Nat} (h : SzL ds n) : Sz (.tuple ds) (n + 3) := by
  obtain ⟨b1, b2, b3⟩ := h
  refine ⟨by simpa [PyData.showable] using b1, ?_, ?_⟩
  · show 3 * (PyData.depthAll ds + 1) ≤ _
    omega
  · have z := tupleText_len_le (PyData.shownAll ds)
    show (tupleText (PyData.shownAll ds)).length ≤ _
    omega
theorem Sz.lst {ds : List PyData} {n : Nat} (h : SzL ds n) : Sz (.list ds) (n + 3) := by
  obtain ⟨b1, b2, b3⟩ := h
  refine ⟨by simpa [PyData.showable] using b1, ?_, ?_⟩
  · show 3 * (PyData.depthAll ds + 1) ≤ _
    omega
  · have z := listText_len_le (PyData.shownAll ds)
    show (listText (PyData.shownAll ds)).length ≤ _
    omega
theorem Sz.dict1 {k : Str} {d : PyData} {n : Nat} (h : Sz d n) : Sz (.dict [(.str k, d)]) (n + (reprText k).length + 10) := by
  obtain ⟨h1, h2, h3⟩ := h
  refine ⟨by simp [PyData.showable, PyData.showableKv, h1], ?_, ?_⟩
  · show 3 * (max (max 0 d.depth) 0 + 1) ≤ _
    omega
  · have e : (PyData.dict [(PyData.str k, d)]).shown = dictText [reprText k ++ ": " ++ d.shown] := rfl
    rw [e]
    unfold dictText
    rw [Str.length_append, Str.length_append]
    have j : (Str.join ", " [reprText k ++ ": " ++ d.shown]).length = (reprText k ++ ": " ++ d.shown).length := rfl
    have e1 : ("{" : Str).length = 1 := by decide
    have e2 : ("}" : Str).length = 1 := by decide
    have e3 : (": " : Str).length = 2 := by decide
    rw [j, Str.length_append, Str.length_append, e3]
    have z1 : (PySem.Str.ofString "{").length = 1 := by decide
    have z2 : (PySem.Str.ofString "}").length = 1 := by decide
    omega
theorem sz_dec {d : PyData} (h : (d.showable && decide (3 * d.depth ≤ 60) && decide (d.shown.length ≤ 60)) = true) : Sz d 60 := by
  rw [Bool.and_eq_true, Bool.and_eq_true] at h
  exact ⟨h.1.1, of_decide_eq_true h.1.2, of_decide_eq_true h.2⟩
theorem odd_sz : ∀ d ∈ oddD, Sz d 40 := by
  have h : ∀ d ∈ oddD, (d.showable && decide (3 * d.depth ≤ 40) && decide (d.shown.length ≤ 40)) = true := by
    unfold oddD odd1 odd2
    decide +kernel
  intro d hd
  have z := h d hd
  rw [Bool.and_eq_true, Bool.and_eq_true] at z
  exact ⟨z.1.1, of_decide_eq_true z.1.2, of_decide_eq_true z.2⟩
/-! ### going on with a pot -/
section
variable {K : PySem.W.Frag} {p q a : Addr} {n m c : Nat} {H H1 H2 : Hp} {o : HO} {v : V} {d : PyData} {xs : List V}
theorem Took.refl (h : PotAt H p n) : Took p n 0 H H := ⟨h, .refl _ _⟩
theorem Took.new (h : Took p n m H H1) (e : H1 q = none) : Took p n m H (upd H1 q o) := ⟨h.1.new e, .trans h.2 (.new e)⟩
theorem Took.go (h : Took p n m H H1) (g : Took p (n + m) c H1 H2) : Took p n (m + c) H H2 := ⟨Nat.add_assoc n m c ▸ g.1, .trans h.2 g.2⟩
theorem Took.mono (h : Took p n m H H1) (l : m ≤ c) : Took p n c H H1 := ⟨h.1.mono (by omega), h.2⟩
theorem Took.dq (h : Took p n m H H1) (x : Dq K (Rest p H) v d) : Dq K (Rest p H1) v d := dq_ext h.2 x
theorem Took.sqT (h : Took p n m H H1) (x : SqT K (Rest p H) a xs) : SqT K (Rest p H1) a xs := Same.seqT h.2 x
theorem sqT_ext (x : Ext p H H1) (h : SqT K (Rest p H) a xs) : SqT K (Rest p H1) a xs := Same.seqT x h
theorem sqT_rest (x : SqT K (Rest p H) a xs) : SqT K H a xs := Same.seqT (rest_same p H) x
theorem new_tup (h : PotAt H p n) (e : H q = none) : SqT K (Rest p (upd H q (.tup xs))) q xs := .of (rest_at (h.ne e) upd_same)
theorem new_lst (h : PotAt H p n) (e : H q = none) : SqL K (Rest p (upd H q (.lst xs))) q xs := .of (rest_at (h.ne e) upd_same)
end
/-- bent(pot, value), value's data among S; so many draws at most, a size at most -/
def spBent (K : PySem.W.Frag) (S : List PyData) (N c : Nat) : Sp := fun vs H Q _ => ∃ (p : Addr) (x : V) (d : PyData) (n : Nat), vs = [.ref p, x] ∧ PotAt H p n ∧ n + c ≤ 900000 ∧
  Dq K (Rest p H) x d ∧ d ∈ S ∧ ∀ H' y e, Sz e N → Dq K (Rest p H') y e → Took p n c H H' → Q y H'
def flatD : List PyData := [.int 3, .str "a", .str "b"]
end Kb
set_option Elab.async false
set_option linter.all false
set_option maxRecDepth 100000
set_option maxHeartbeats 4000000
namespace Kb
open PySem PySem.Spec PyProof.Rows L2
section
open PySem.W PySem.Calls
variable {prog : Program} {w : World} {A : Around} {E : Value → Shared → Prop} {s : Shared} {K : PySem.W.Frag} {x D : Addr} {ob : Obj} {od : Option Obj}
theorem findObj_any {C : Addr} {nm : Str} {a g : Value} (hc : (clsIn K C).isSome = true) (ha : findIn K (.ref C) nm = some (some a)) (hg : specialIn K a "__get__" = some (some g)) (ht : takesIn K a = some true) :
    findObj K C od nm = some (.bind g a) := by
  obtain ⟨cd, e⟩ := Option.isSome_iff_exists.mp hc
  unfold findObj
  rw [e, Option.bind_some, ha, Option.bind_some]
  simp [hg, ht]
/-- x.__class__ of an exception of an own class, with a dict or without one -/
theorem exc_class {Q : Option Value → Shared → Prop} (C : ExcC K D) (X : K.In s.heap) (I : InstAt s.heap x ob D od) (h : Q (some (.ref D)) { s with toks := s.toks + 1 }) : wpAny (model prog w) A (getAttr? (.ref x) "__class__") Q E s := by
  have hf : findObj K D od "__class__" = some (.bind (.builtin "getset_descriptor.__get__") (.builtin "object.__class__")) := findObj_any (by obtain ⟨cd, e, _⟩ := any_some C.hd; rw [e]; rfl) C.ha C.hn C.ht
  obtain ⟨hp, g, d, t, os⟩ := s
  have M0 := I.type (M := model prog w)
  have M1 := looks_findIn (M := model prog w) X C.hg
  have M2 := looks_findIn (M := model prog w) X C.hk
  have M3 := looks_find (M := model prog w) X I hf
  have subE : Looks (model prog w) hp (isInstance (.ref x) (.type "BaseException")) true := M0.andThen (looks_subIn X C.hs)
  have n0 : (false && onTheHeap (Value.builtin "BaseException.__getattribute__")) = false := rfl
  have n2 : (Value.builtin "BaseException.__getattribute__" == Value.builtin "object.__getattribute__") = false := by decide +kernel
  have n1 : (onTheHeap (Value.ref D) && Value.builtin "BaseException.__getattribute__" == Value.builtin "object.__getattribute__") = false := by rw [n2]; rfl
  unfold getAttr? getAttrBy? getAttrBy
  refine wpAny_bind (wpAny_mkText (wpAny_bind (wpAny_attempt (wpAny_holding (wpAny_bind (M0.at (wpAny_bind (M1.at ?_))))))))
  show wpAny _ _ (if (onTheHeap (Value.ref D) && Value.builtin "BaseException.__getattribute__" == Value.builtin "object.__getattribute__") = true then _ else _) _ _ _
  rw [n1, if_neg Bool.false_ne_true]
  unfold getAttrByItsOwn hookBefore
  refine wpAny_bind ?_
  rw [if_pos (show onTheHeap (Value.ref D) = true from rfl)]
  refine M2.at (wpAny_bind (wpAny_attempt (wpAny_holding ?_)))
  unfold callGetattribute
  rw [n0, if_neg Bool.false_ne_true]
  unfold boundAndCalled
  rw [PySem.F.excAttr_ValueError.ga.bind (.ref x)]
  refine wpAny_bind (wpAny_pure ?_)
  show wpAny _ _ (call (.builtin "BaseException.__getattribute__") [.ref x, .str "__class__" t]) _ _ _
  refine wpAny_call (codeAny_call_builtin PySem.F.excAttr_ValueError.ga.plain PySem.F.entry_bexc_ga ?_)
  refine @check_slot (model prog w) _ _ ⟨hp, g, d, t + 1, os⟩ "BaseException.__getattribute__" "BaseException" "__getattribute__" (.ref x) [.str "__class__" t] [] _ (by decide +kernel) (by decide +kernel) subE (PySem.F.args_bexc_ga (.ref x) (.str "__class__" t)) ?_
  unfold Builtin.«object.__getattribute__»
  refine wpAny_bind (wpAny_of_eq (a := ((Value.ref x : Value), [Value.str "__class__" t])) (by first | rfl | (simp only [slotArgs]; rfl)) ?_)
  refine wpAny_bind (wpAny_pure (wpAny_bind (M0.at (wpAny_bind (M3.at ?_)))))
  show wpAny _ _ (holding [Value.builtin "object.__class__"] (call (.builtin "getset_descriptor.__get__") [.builtin "object.__class__", .ref x, .ref D]) >>= ret) _ _ _
  refine wpAny_bind (wpAny_holding (wpAny_call (class_get (s := ⟨hp, g, d, t + 1, os⟩) (ox := ob) (od := od) X I C.hm (wpAny_pure ?_))))
  show wpAny _ _ (handedOut (.ref D)) _ _ _
  rw [handedOut_of (v := .ref D) rfl]
  first
    | exact wpAny_pure (wpAny_pure h)
    | exact wpAny_pure h
    | exact wpAny_pure (wpAny_bind (wpAny_pure (wpAny_pure h)))
theorem kitx_err (C : ExcC K D) : KitX K (.ref x) (.ref D) (fun h => InstAt h x ob D od) where
  ty := fun _ _ _ I => I.type
  it := fun _ _ X _ => by
    obtain ⟨cdD, e, _⟩ := any_some C.hd
    unfold clsIn at e
    split at e
    · rename_i c' d' cd' sl' ho
      intro A' Q' E' s' k q
      unfold isType loadHead
      exact wpAny_bind (wpAny_loadPart (k _ _ (X _ _ ho)) (wpAny_pure q))
    · cases e
  ne := fun h tp dd its n sl X htp => by
    obtain ⟨cdD, e, _⟩ := any_some C.hd
    refine Bool.eq_false_iff.mpr fun q => ?_
    have e' : D = tp := Value.ref.inj (beq_iff_eq.mp q)
    subst e'
    unfold clsIn at e
    split at e
    · rename_i c' d' cd' sl' ho
      have z := (X _ _ ho).symm.trans htp
      cases z
    · cases e
  ca := fun X I k => exc_class C X I k
end
/-! ### own errors as values: made, read, asked for their class -/
section
variable {X : Cx} {pins : List (Addr × Obj)} {σ : L2.St} {H : Hp} {s : Shared}
/-- an error of the class at C stands at a, its dict at dx with these fields -/
def ErrAt (H : Hp) (a C dx : Addr) (fs : List (Str × V)) : Prop := H a = some (exo a C (some dx)) ∧ H dx = some (exd dx fs)
theorem err_inst {a C dx : Addr} {fs : List (Str × V)} (I : Inv X pins σ H s) (e : ErrAt H a C dx fs) :
    ∃ t1 od, PySem.W.InstAt s.heap a { cls := .ref C, dict := some dx, data := .fields #[.ref t1, .none, .none, .none, .bool false, .none] } C (some od) ∧ ∃ mA, s.heap.Ns1 dx mA ∧ (∀ f, RelO (fs.lookup f) (mA f)) ∧ s.heap.get? dx = some od ∧ ∀ f, PySem.W.lookIn f od = some (mA f) := by
  obtain ⟨t1, he⟩ := exo_at I.hok e.1
  obtain ⟨mA, hn, hr⟩ := exd_at I.hok e.2
  obtain ⟨od, ho, hl⟩ := lookIn_ns hn
  exact ⟨t1, od, ⟨he, rfl, rfl, ho⟩, mA, hn, hr, ho, hl⟩
def rIsX (K : PySem.W.Frag) : List V → Hp → VK → Prop := fun xs H Q => ∃ (a C dx : Addr) (fs : List (Str × V)) (c : V) (cv : Value) (b : Bool), xs = [.ref a, c] ∧ ErrAt H a C dx fs ∧ ExcC K C ∧ ClsV c cv ∧ PySem.W.kitOne K (.ref C) cv = some b ∧ Q (.bl b) H
theorem call_isX : CallR X (.builtin "isinstance") (rIsX X.K) := by
  intro pins s σ H xs us Q I r h
  obtain ⟨a, C, dx, fs, c, cv, b, rfl, he, hC, hc, hk, q⟩ := h
  obtain ⟨u1, u2, rfl, r1, r2⟩ := vals2 r
  cases r1
  have e2 := hc.eq r2
  subst e2
  obtain ⟨t1, od, J, _⟩ := err_inst I he
  exact PySem.W.kia_one (kitx_err hC) I.kIn J hk (fun z => nomatch z) fun tk => ⟨.bl b, H, I.tok tk, rfl, q⟩
/-- err.f -/
def tErrF (K : PySem.W.Frag) (f : Str) (te : TE) : TE := fun σ H Q => te σ H fun x H1 => ∃ (a C dx : Addr) (fs : List (Str × V)) (v : V), x = .ref a ∧ ErrAt H1 a C dx fs ∧ ExcC K C ∧ PySem.W.findIn K (.ref C) f = some none ∧ fs.lookup f = some v ∧ Q v H1
theorem pe_errF {e : Expr} {te : TE} {f : Str} {pos : Pos} (he : PE X e te) (hb : attributeBase e f X.env (eval e X.env) = eval e X.env := by rfl) : PE X (.Attribute e f pos) (tErrF X.K f te) := by
  refine ⟨fun pins s σ H Q I h => ?_⟩
  refine attr_of hb (thn (he.run pins s σ H _ I h) fun u s1 ⟨x, H1, I1, rx, a, C, dx, fs, v, ex, ea, hC, hno, l, q⟩ => ?_)
  subst ex
  obtain rfl : u = Value.ref a := rx
  obtain ⟨t1, od, J, mA, hn, hr, ho, hl⟩ := err_inst I1 ea
  obtain ⟨u, hu, ru⟩ := RelO.some_of (v := v) (o := mA f) (by rw [← l]; exact hr f)
  exact HandSPX.exc_get I1.kIn J hC.hg hC.hk hC.hs (PySem.W.findObj_own hC.hd hno rfl (by rw [hl, hu])) (handed_of ru) ⟨v, H1, I1.tok _, ru, q⟩
/-- C(e), the error as a value; its own __init__ (perhaps a base's) keeps sp -/
def tMkV (C : Addr) (sp : Sp) (ta : TA) : TE := fun σ H Q => ta σ H fun vs H1 => vs.length ≤ 1000 ∧ ∀ a, H1 a = none → sp (.ref a :: vs) (upd H1 a (exo a C none)) (fun v H2 => v = .non ∧ Q (.ref a) H2) E0
theorem pe_mkV {x : Str} {C fI : Addr} {k : Nat} {fd : FuncData} {ps : List Str} {sp : Sp} {e : Expr} {es : List Expr} {ta : TA} {p pos : Pos} (T : OexC X.K C) (iC : PySem.W.findIn X.K (.ref C) "__init__" = some (some (.ref fI)))
    (tI : PySem.W.typeIn X.K (.ref fI) = some (.type "function")) (F1 : FnOk X.prog X.w X.K X.mg X.base CX0 k fI fd ps sp) (hr : Room (k + 1) X.A) (hb : Binds X.K fd ps []) (hg : Gl X x) (hm : X.mg x = some (.ref C)) (ha : PA X (e :: es) ta)
    (hdb : (x == ("__debug__" : Str)) = false := by decide) (he : starEach (e :: es) X.env = (false, eval e X.env) :: starEach es X.env := by rfl) (hpl : (backTo pos (starEach es X.env)).any (·.1) = false := by rfl) :
    PE X (.Call (.Name x p) (e :: es) [] pos) (tMkV C sp ta) := by
  refine ⟨fun pins s σ H Q I h => wpAny_Call_Name_kw (ld_glob I hg hm ?_ hdb)⟩
  obtain ⟨nm, q, N, bs, bm, sn, sub, ab, col, dd, k0, k1, k2, k3, k5, hC, hbm⟩ := T.cls
  refine PySem.W.callWith_K (h₀ := X.base) I.ok.mod.kin T.kC (thn (ha.run pos pins s σ H _ I h) fun us s1 ⟨vs, H1, I1, r1, hz, q1⟩ => ⟨I1.kIn, ?_⟩) he hpl
  show wpAny _ _ (call (.ref C) us) _ _ _
  obtain ⟨hp, g, dr, tk, os⟩ := s1
  have big : hp.objs.size ≤ hp.objs.size + 1 := Nat.le_succ _
  have hq := q1 (hp.objs.size + 1) (I1.hok.fresh big)
  have kk : ∀ b o, hp.get? b = some o → ((hp.push (PySem.W.kdv_tup us)).push (PySem.HandSPX.excO C hp.objs.size)).get? b = some o := fun b o z => Heap.get?_push_of_some _ (Heap.get?_push_of_some _ z)
  have at1 : ((hp.push (PySem.W.kdv_tup us)).push (PySem.HandSPX.excO C hp.objs.size)).get? (hp.objs.size + 1) = some (PySem.HandSPX.excO C hp.objs.size) := by heap_get
  have I2 : Inv X pins σ (upd H1 (hp.objs.size + 1) (exo (hp.objs.size + 1) C none)) ⟨(hp.push (PySem.W.kdv_tup us)).push (PySem.HandSPX.excO C hp.objs.size), g, dr, tk, os⟩ := I1.laid (t' := tk) kk big (exo_ok at1)
  have r2 : Vals (V.ref (hp.objs.size + 1) :: vs) (Value.ref (hp.objs.size + 1) :: us) := .cons rfl r1
  have hl : (Value.ref (hp.objs.size + 1) :: us).length = ps.length := r2.length.symm.trans (F1.len _ _ _ _ hq)
  have hus : us.length ≤ sizeLine := by
    rw [← Paired.length r1, sizeLine_eq]
    omega
  have bnd := hb ⟨(hp.push (PySem.W.kdv_tup us)).push (PySem.HandSPX.excO C hp.objs.size), g, dr, tk, os⟩ (Value.ref (hp.objs.size + 1) :: us) I2.kIn (by rw [List.append_nil]; exact hl)
  rw [List.append_nil] at bnd
  refine wpAny_call (PySem.HandSPX.call_own F.excBase_ValueError (fun Y => PySem.HandSPX.refsVE_contains Y bm hbm) (I1.kIn _ _ hC) (PySem.W.looks_findIn I1.kIn iC) (fun self => PySem.W.bind_fn I1.kIn self tI) hus
    (codeAny_mono (F1.run _ X.stack _ _ ⟨Value.ref (hp.objs.size + 1) :: us, []⟩ (Value.ref (hp.objs.size + 1) :: us) _ _ E0 (hr.make C us []) (I2.env0.make C us []) bnd r2 hq) fun r s' hq' => ?_))
  cases r with
  | error er => exact False.elim hq'
  | ok fl =>
    cases fl with
    | ret u =>
      obtain ⟨v, H', I3, rv, ev, q3⟩ := I2.after hq'
      subst ev
      exact ⟨rv, ⟨V.ref (hp.objs.size + 1), H', I3, rfl, q3⟩⟩
    | next => exact False.elim hq'
    | brk => exact False.elim hq'
    | cont => exact False.elim hq'
end
end Kb
set_option Elab.async false
set_option linter.all false
set_option maxRecDepth 100000
set_option maxHeartbeats 4000000
namespace Kb
open PySem PySem.Spec PyProof.Rows L2
open PySem.HandSPX (veTail refsVE refsVE_contains)
/-! ### the package's errors: what the written part says of a class -/
structure ErrB (K : PySem.W.Frag) (C CO fI : Addr) : Prop where
  ox : OexC K C
  ec : ExcC K C
  no : PySem.W.findIn K (.ref C) "value" = some none
  iC : PySem.W.findIn K (.ref C) "__init__" = some (some (.ref fI))
  cl : ∃ cd, PySem.W.clsIn K C = some cd ∧ (cd.mro = .ref C :: .ref CO :: veTail ∨ (C = CO ∧ cd.mro = .ref CO :: veTail))
/-- what is asked of the top once for all -/
structure ErrG (K : PySem.W.Frag) : Prop where
  hn : PySem.W.specialIn K (.builtin "object.__class__") "__get__" = some (some (.builtin "getset_descriptor.__get__"))
  ht : PySem.W.takesIn K (.builtin "object.__class__") = some true
theorem errB_mk {K : PySem.W.Frag} {C CO fI : Addr} {nm q N bs bm sn sub ab col dd k0 k1 k2 k3 k5} (l : K.lookup C = some (excClassObj nm q C N bs bm true sn sub ab col dd k0 k1 k2 k3 k5 "ValueError.__new__"))
    (hb : bm = .ref CO :: veTail ∨ (C = CO ∧ bm = veTail))
    (sa : PySem.W.findIn K (.ref C) "__setattr__" = some (some (.builtin "object.__setattr__"))) (ga : PySem.W.findIn K (.ref C) "__getattribute__" = some (some (.builtin "BaseException.__getattribute__")))
    (gg : PySem.W.findIn K (.ref C) "__getattr__" = some none) (gc : PySem.W.findIn K (.ref C) "__class__" = some (some (.builtin "object.__class__"))) (no : PySem.W.findIn K (.ref C) "value" = some none)
    (iC : PySem.W.findIn K (.ref C) "__init__" = some (some (.ref fI))) (kC : PySem.W.keepIn K (.ref C) = true) (g : ErrG K) : ErrB K C CO fI := by
  have hv : refsVE bm = true := by rcases hb with rfl | ⟨_, rfl⟩ <;> rfl
  have hv' : refsVE (.ref C :: bm) = true := hv
  have hcl : PySem.W.clsIn K C = some { name := nm, bases := bs, mro := .ref C :: bm, ns := N, qualname := q, hasDict := true, slotNames := sn, subclasses := sub, abstract := ab, collection := col, hasDel := false } := by
    unfold PySem.W.clsIn
    rw [l] <;> rfl
  have hm : ∀ Y : String, PySem.W.mroIn K C (.type Y) = some (veTail.contains (.type Y)) := fun Y => by
    unfold PySem.W.mroIn
    rw [hcl, Option.bind_some, ← refsVE_contains Y _ hv']
    rfl
  have hd : PySem.W.hasDictIn K C = true := by
    unfold PySem.W.hasDictIn
    rw [hcl] <;> rfl
  have ty : PySem.W.typeIn K (.ref C) = some (.type "type") := by
    show (K.lookup C).map (·.cls) = _
    rw [l] <;> rfl
  have eb : PySem.W.subIn K (.ref C) (.type "BaseException") = some true := hm "BaseException"
  refine ⟨⟨⟨nm, q, N, bs, bm, sn, sub, ab, col, dd, k0, k1, k2, k3, k5, l, hv⟩, sa, eb, ty, kC⟩, ⟨ga, gg, eb, hd, gc, g.hn, g.ht, hm "object"⟩, no, iC, _, hcl, ?_⟩
  rcases hb with rfl | ⟨rfl, rfl⟩
  · exact .inl rfl
  · exact .inr ⟨rfl, rfl⟩
section
variable {K : PySem.W.Frag} {C D CO fI : Addr}
theorem ErrB.sub (A : ErrB K C CO fI) (base : Value) : PySem.W.subIn K (.ref C) base = some (base == .ref C || base == .ref CO || veTail.contains base) := by
  obtain ⟨cd, h, hm⟩ := A.cl
  show PySem.W.mroIn K C base = _
  unfold PySem.W.mroIn
  rw [h, Option.bind_some]
  rcases hm with hm | ⟨e, hm⟩
  · rw [hm]
    show some ((Value.ref C :: .ref CO :: veTail).contains base) = _
    rw [List.contains_cons, List.contains_cons, Bool.or_assoc]
  · rw [hm]
    show some ((Value.ref CO :: veTail).contains base) = _
    rw [List.contains_cons, e, Bool.or_self]
theorem ErrB.kit (A : ErrB K C CO fI) (B : ErrB K D CO fI) : PySem.W.kitOne K (.ref C) (.ref D) = some (decide (D = C) || decide (D = CO)) := by
  unfold PySem.W.kitOne
  by_cases e : C = D
  · subst e
    rw [if_pos (by simp)]
    simp
  · rw [if_neg (by simpa using e)]
    obtain ⟨cd, hcd, _⟩ := B.cl
    show (if ((PySem.W.clsIn K D).isSome && PySem.W.typeIn K (.ref D) == some (.type "type")) = true then PySem.W.subIn K (.ref C) (.ref D) else none) = _
    rw [if_pos (by rw [hcd, B.ox.tyC]; rfl), A.sub]
    have n : veTail.contains (Value.ref D) = false := rfl
    have q1 : (Value.ref D == Value.ref C) = decide (D = C) := by
      by_cases z : D = C <;> simp [z]
    have q2 : (Value.ref D == Value.ref CO) = decide (D = CO) := by
      by_cases z : D = CO <;> simp [z]
    rw [n, q1, q2, Bool.or_false]
theorem ErrB.kitO (A : ErrB K C CO fI) (B : ErrB K CO CO fI) : PySem.W.kitOne K (.ref C) (.ref CO) = some true := by
  rw [A.kit B, decide_eq_true (rfl : CO = CO), Bool.or_true]
theorem ErrB.kitV (A : ErrB K C CO fI) : PySem.W.kitOne K (.ref C) (.type "ValueError") = some true := by
  unfold PySem.W.kitOne
  rw [if_neg (by simp)]
  show (if PySem.W.kitMeta "ValueError" = true then PySem.W.subIn K (.ref C) (.type "ValueError") else none) = _
  rw [if_pos (by decide +kernel), A.sub]
  have n : veTail.contains (Value.type "ValueError") = true := by decide +kernel
  rw [n, Bool.or_true]
end
/-- OrderError.__init__ at a fresh error -/
def spInit (K : PySem.W.Frag) : Sp := fun vs H Q _ => ∃ (a C : Addr) (v : V), vs = [.ref a, v] ∧ H a = some (exo a C none) ∧ OexC K C ∧ PySem.W.findIn K (.ref C) "value" = some none ∧
  ∀ dx, H dx = none → dx ≠ a → Q .non (upd (upd H dx (exd dx [("value", v)])) a (exo a C (some dx)))
/-- an error of the class at C that keeps v -/
def ErrOf (H : Hp) (a C : Addr) (v : V) : Prop := ∃ dx, ErrAt H a C dx [("value", v)]
theorem ErrOf.same {H H' : Hp} {a C : Addr} {v : V} (s : Same H H') (e : ErrOf H a C v) : ErrOf H' a C v := by
  obtain ⟨dx, h1, h2⟩ := e
  exact ⟨dx, s _ _ h1, s _ _ h2⟩
theorem mkV_read {K : PySem.W.Frag} {C CO fI : Addr} {ta : TA} {σ : L2.St} {H : Hp} {Q : VK} {x : V} (B : ErrB K C CO fI) (h0 : ta σ H fun vs H1 => vs = [x] ∧ H1 = H)
    (hm : ∀ (σ : L2.St) (H : Hp) (P R : List V → Hp → Prop), ta σ H P → (∀ vs H, P vs H → R vs H) → ta σ H R)
    (k : ∀ a H', H a = none → Same H H' → ErrOf H' a C x → Q (.ref a) H') : tMkV C (spInit K) ta σ H Q := by
  refine hm σ H _ _ h0 fun vs H1 ⟨e1, e2⟩ => ?_
  subst e1 e2
  refine ⟨(by show 1 ≤ 1000; decide), fun a ha => ⟨a, C, x, rfl, upd_same, B.ox, B.no, fun dx hdx ne => ⟨rfl, ?_⟩⟩⟩
  have sm : Same H1 (upd (upd (upd H1 a (exo a C none)) dx (exd dx [("value", x)])) a (exo a C (some dx))) := fun b o e => by
    rw [upd_ne (ne_of_none e ha), upd_ne, upd_ne (ne_of_none e ha)]
    · exact e
    · intro z
      rw [z] at e
      rw [upd_ne ne, e] at hdx
      cases hdx
  exact k a _ ha sm ⟨dx, upd_same, by rw [upd_ne ne, upd_same]⟩
theorem cons_mono {te : TE} {tr : TA} (h1 : ∀ (σ : L2.St) (H : Hp) (P R : VK), te σ H P → (∀ v H, P v H → R v H) → te σ H R) (h2 : ∀ (σ : L2.St) (H : Hp) (P R : List V → Hp → Prop), tr σ H P → (∀ vs H, P vs H → R vs H) → tr σ H R) :
    ∀ (σ : L2.St) (H : Hp) (P R : List V → Hp → Prop), tCons te tr σ H P → (∀ vs H, P vs H → R vs H) → tCons te tr σ H R := fun σ H P R h f => h1 σ H _ _ h fun v H1 q => h2 σ H1 _ _ q fun vs H2 z => f _ _ z
theorem nil_mono : ∀ (σ : L2.St) (H : Hp) (P R : List V → Hp → Prop), tNil σ H P → (∀ vs H, P vs H → R vs H) → tNil σ H R := fun _ _ _ _ h f => f _ _ h
theorem var_mono (i : Nat) : ∀ (σ : L2.St) (H : Hp) (P R : VK), tVar i σ H P → (∀ v H, P v H → R v H) → tVar i σ H R := fun _ _ _ _ ⟨v, e, h⟩ f => ⟨v, e, f _ _ h⟩
/-- C(x), x the name in slot i -/
theorem mkV_var {K : PySem.W.Frag} {C CO fI : Addr} {i : Nat} {σ : L2.St} {H : Hp} {Q : VK} {x : V} (B : ErrB K C CO fI) (hx : σ[i]? = some (some x))
    (k : ∀ a H', H a = none → Same H H' → ErrOf H' a C x → Q (.ref a) H') : tMkV C (spInit K) (tCons (tVar i) tNil) σ H Q :=
  mkV_read B ⟨x, hx, rfl, rfl⟩ (cons_mono (var_mono i) nil_mono) k
end Kb
set_option Elab.async false
set_option linter.all false
set_option maxRecDepth 100000
set_option maxHeartbeats 4000000
namespace Kb
open PySem PySem.Spec PyProof.Rows L2
theorem room_wide {k m : Nat} {A : Around} (hr : Room k A) (h : m + 2 ≤ 16 * k + 200) : A.units + (m + 2) < cLine := by
  have := hr.un
  omega
/-! ### for at, x in enumerate(list) -/
theorem for_enumK {K : PySem.W.Frag} {a : Addr} {xs : List V} {g : TG} {tb : TS} {D : Ends} {σ : L2.St} {H : Hp} (Pv : Nat → L2.St → Hp → Prop) (h0 : Pv 0 σ H) (hl : ∀ i σ H, i ≤ xs.length → Pv i σ H → SqL K H a xs)
    (hs : ∀ i x σ H T, xs[i]? = some x → Pv i σ H → H T = none → g (.ref T) σ (upd H T (.tup [.int (i : Nat), x])) fun σ2 H2 => tb { D with nx := Pv (i + 1), ct := Pv (i + 1), bk := D.nx } σ2 H2)
    (hd : ∀ σ H, Pv xs.length σ H → D.nx σ H) :
    ∃ W : Nat → Nat → L2.St → Hp → Prop, (∃ m, W 0 m σ H) ∧ ∀ i m σ H, W i m σ H →
      ((Ite K a).stop i H ∧ D.nx σ H) ∨ ((Ite K a).go i H ∧ ∃ N : L2.St → Hp → Prop, (∀ σ' H', N σ' H' → ∃ m', m' < m ∧ W (i + 1) m' σ' H') ∧ ∀ x H', (Ite K a).yld i H x H' → g x σ H' fun σ2 H2 => tb { D with nx := N, ct := N, bk := D.nx } σ2 H2) := by
  refine ⟨fun i m σ H => m = xs.length - i ∧ i ≤ xs.length ∧ Pv i σ H, ⟨xs.length, rfl, Nat.zero_le _, h0⟩, ?_⟩
  rintro i m σ H ⟨rfl, hi, p⟩
  have q := hl i σ H hi p
  by_cases lt : i < xs.length
  · refine .inr ⟨⟨xs, xs[i], q, List.getElem?_eq_getElem lt⟩, Pv (i + 1), fun σ' H' p' => ⟨xs.length - (i + 1), by omega, rfl, lt, p'⟩, fun x H' y => ?_⟩
    obtain ⟨T, z, rfl, hT, rfl, hz⟩ := y
    exact hs i z σ H T (hz xs q) p hT
  · have e : i = xs.length := by omega
    subst e
    exact .inl ⟨⟨xs, q, Nat.le_refl _⟩, hd σ H p⟩
/-! ### lists of truth values as data -/
theorem dp_bools {K : PySem.W.Frag} {H : Hp} : ∀ bs : List Bool, DpAll K H (bs.map V.bl) (bs.map PyData.bool)
  | [] => .nil
  | b :: r => .cons (.bl b) (dp_bools r)
theorem lay_bools : ∀ bs : List Bool, PyData.canLayAll0 (bs.map PyData.bool) = true
  | [] => rfl
  | b :: r => by simp [PyData.canLayAll0, PyData.canLay0, lay_bools r]
theorem dep_bools : ∀ bs : List Bool, PyData.depthAll (bs.map PyData.bool) = 0
  | [] => rfl
  | b :: r => by simp [PyData.depthAll, PyData.depth, dep_bools r]
theorem shaped_bools (bs : List Bool) : SeqAt.shaped (.list (bs.map PyData.bool)) = true := by
  simp [SeqAt.shaped, PyData.canLay0, PyData.depth, lay_bools, dep_bools]
theorem eqv_bools : ∀ bs : List Bool, PyData.eqvAll (bs.map PyData.bool) (bs.map PyData.bool) = true
  | [] => rfl
  | b :: r => by simp [PyData.eqvAll, PyData.eqv, eqv_bools r]
/-- a new object is written once more -/
theorem Ext.fix {p q : Addr} {H H1 : Hp} {o u : HO} (h : H q = none) (x : Ext p (upd H q o) H1) : Ext p H (upd H1 q u) := .of fun b z e hb => by
  have n : b ≠ q := ne_of_none e h
  rw [upd_ne n]
  exact x.at hb (by rw [upd_ne n]; exact e)
/-! ### the law's own call, where nothing is being shown -/
theorem law_callQ {P : Program} {w : World} {K : PySem.W.Frag} {mg mb : Str → Option Value} {k : Nat} {fa a : Addr} {fd : FuncData} {x : Str} {sp : Sp} {s1 : Shared} {us : List Value} {ns : List Int}
    (KX : K.In s1.heap) (hns : s1.heap.Ns mainGlobals mg) (hb : s1.heap.Ns builtinsNs mb) (hbb : ∀ x : Str, x ≠ "__name__" → mb x = bootBuiltins x) (hlim : s1.heap.NoLimit) (hg : s1.gens = #[])
    (ha : s1.heap.get? a = some { cls := .type "list", data := .seq us.toArray }) (hi : IntsAre us ns) (hz : ns.length ≤ sizeLine) (hr : Room k callerA)
    (F : ∀ base : Heap, K.In base → base.Ns mainGlobals mg → FnQ P w K mg base CX0 k fa fd [x] sp) (hbind : ∀ (s : Shared) (u : Value), BindsTo s fd ⟨[u], []⟩ [(x, u)])
    (hsp : ∀ H : Hp, Only H → SqL K H a (ns.map V.int) → sp [.ref a] H (fun v _ => v = .bl true) E0) :
    codeAny (model P w) callerA (.call (.ref fa) ⟨[.ref a], []⟩) (fun r s' => r = .ok (.ret (.bool true)) ∧ OldK s1.heap s'.heap ∧ s'.os = s1.os ∧ AllBare s'.gens) s1 := by
  have rv := vals_ints hi
  have hlen := hi.length
  have main : ∀ H : Hp, Only H → SqL K H a (ns.map V.int) → HOk P w H s1.heap → (∀ b, H b ≠ none → b = a) → (H a ≠ none → K.lookup a = none) →
      codeAny (model P w) callerA (.call (.ref fa) ⟨[.ref a], []⟩) (fun r s' => r = .ok (.ret (.bool true)) ∧ OldK s1.heap s'.heap ∧ s'.os = s1.os ∧ AllBare s'.gens) s1 := by
    intro H hO hS hok hA hK
    have none_at : ∀ {b : Addr}, (∀ u, H b = some u → b = a → False) → H b = none := fun {b} f => by
      cases q : H b with
      | none => rfl
      | some u => exact (f u q (hA b (by rw [q]; simp))).elim
    have nsk : ∀ {b : Addr} {m : Str → Option Value}, s1.heap.Ns b m → (hidT s1.heap H).Ns b m := fun {b m} ⟨o, es, ep, e, d, r⟩ => ⟨o, es, ep, hidT_get e (none_at fun u _ z => by
      rw [z, ha] at e
      cases e
      cases d), d, r⟩
    have kin : K.In (hidT s1.heap H) := fun b o e => hidT_get (KX b o e) (none_at fun u q z => by
      rw [z] at q e
      rw [hK (by rw [q]; simp)] at e
      cases e)
    have md : Mod K mg (hidT s1.heap H) := ⟨kin, nsk hns, ⟨mb, nsk hb, hbb⟩, by obtain ⟨mc, h1, h2⟩ := hlim; exact ⟨mc, nsk h1, h2⟩⟩
    have ev : Env0 P w K mg (hidT s1.heap H) callerA [] s1 H := ⟨rfl, md, fun b o e => of_hidT e, Nat.le_of_eq (hidT_size _ _), trivial, fun b z => absurd (show b ∈ ([] : List Addr) from z) (by simp), hok, .of_eq hg⟩
    refine codeAny_mono ((F _ kin (nsk hns)).run callerA [] s1 H ⟨[.ref a], []⟩ [.ref a] [.ref a] _ _ rfl hr ev (hbind s1 (.ref a)) (.cons rfl .nil) (hsp H hO hS)) fun r s' h => ?_
    cases r with
    | error e => exact False.elim h
    | ok fl =>
      cases fl with
      | next => exact False.elim h
      | brk => exact False.elim h
      | cont => exact False.elim h
      | ret u =>
        obtain ⟨v, H', os, bare, un, hok', r', q⟩ := h
        obtain rfl : v = V.bl true := q
        obtain rfl : u = Value.bool true := r'
        refine ⟨rfl, OldK.of_keep fun b o e => ?_, os, bare⟩
        cases q : H b with
        | none => exact un.keep b o e q (by intro z; exact absurd (show b ∈ ([] : List Addr) from z) (by simp)) (by simp)
        | some u =>
          rcases hO b with z | ⟨ob, xs, z⟩
          · rw [q] at z
            cases z
          · obtain ⟨e1, _⟩ := hok b _ z
            obtain ⟨e2, _⟩ := hok' b _ (un.frzs b ob _ z)
            rw [e] at e1
            cases e1
            exact e2
  cases hk : K.lookup a with
  | some o =>
    have e := KX a o hk
    rw [ha] at e
    cases e
    refine main (fun _ => none) (fun _ => .inl rfl) (.inr ⟨_, us.toArray, _, hk, rfl, rfl, rfl, by rw [List.size_toArray, hlen]; exact hz, by simpa using rv⟩) (fun b u z => ?_) (fun b z => absurd rfl z) fun z => absurd rfl z
    cases (show (none : Option HO) = some u from z)
  | none =>
    refine main (fun b => if b = a then some (.frz { cls := .type "list", data := .seq us.toArray } (.lst (ns.map V.int))) else none) (fun b => ?_) (.inl (.inr ⟨_, if_pos rfl⟩)) (fun b u z => ?_) (fun b z => ?_) fun _ => hk
    · by_cases q : b = a
      · exact .inr ⟨_, _, if_pos q⟩
      · exact .inl (if_neg q)
    · by_cases q : b = a
      · have z' := (if_pos q).symm.trans z
        cases z'
        subst q
        exact ⟨ha, by rw [List.length_map]; exact hz, us, _, rv, ha⟩
      · have z' := (if_neg q).symm.trans z
        cases z'
    · by_cases q : b = a
      · exact q
      · exact absurd (if_neg q) z
theorem walk_ofQ {l : PySem.W.OpenLaw} {n k : Nat} {q : Program} {loose : List Str} {XP : (Str → Option Value) → Heap → Prop} {YP : World → Heap → Prop} {d : DefRec} {K : Params → PySem.W.Frag} {sp : World → Sp} {x : Str}
    (hn : l.most = some n) (hn2 : n ≤ sizeLine) (hdf : d.params.defaults = []) (hr : Room k callerA) (hY : ∀ (w : World) (h : Heap), YP w h → (K w.params).In h)
    (F : ∀ (w : World) (mg : Str → Option Value) (fa : Addr) (h : Heap), (K w.params).In h → h.Ns mainGlobals mg → mg d.name = some (.ref fa) →
      ∃ fd : FuncData, (∀ (s : Shared) (u : Value), BindsTo s fd ⟨[u], []⟩ [(x, u)]) ∧ ∀ base : Heap, (K w.params).In base → base.Ns mainGlobals mg → FnQ l.prog w (K w.params) mg base CX0 k fa fd [x] (sp w))
    (hsp : ∀ (w : World) (H : Hp) (a : Addr) (ns : List Int), ns.length ≤ n → Only H → SqL (K w.params) H a (ns.map V.int) → sp w [.ref a] H (fun v _ => v = .bl true) E0) :
    PySem.W.WalkO q loose XP YP l.row.toRowW d [] (fun f vs => PySem.call f vs) := by
  refine Att.attach_call hn hdf fun w s0 s1 mg mb fa o pm cd doc a us ns G Y ho hd hcd hmg hobj hints hlen hg => ?_
  have KX := hY w _ Y
  obtain ⟨fd, hb, hF⟩ := F w mg fa _ KX G.T.g hmg
  exact law_callQ KX G.T.g G.T.b G.T.builtins G.T.nolimit hg hobj hints (Nat.le_trans hlen hn2) hr hF hb fun H hO hS => hsp w H a ns hlen hO hS
end Kb
set_option Elab.async false
set_option linter.all false
set_option maxRecDepth 100000
set_option maxHeartbeats 4000000
namespace Kc
open PySem PySem.Spec PyProof.Rows L2 Kb
section
variable {prog : Program} {w : World} {A : Around}
theorem setAdd_str {E : Value → Shared → Prop} {s : Shared} {a : Addr} {S : Str → Bool} {n : Nat} {x : Str} {t : Tok} {Q : Bool → Shared → Prop}
    (hS : Heap.SetOf (PySem.strKind prog w) s.heap a S n) (hb : n + 1 < scanBound)
    (h : ∀ h' tk, Heap.SameBut a s.heap h' → s.toks ≤ tk → Heap.SetOf (PySem.strKind prog w) h' a (fun k' => S k' || decide (k' = x)) (if S x = true then n else n + 1) →
      Q (!S x) { s with heap := h', toks := tk }) : wpAny (model prog w) A (setAdd a (.str x t)) Q E s := by
  have hk : (PySem.strKind prog w).is x (.str x t) = true := by
    show Value.isStrOf x (.str x t) = true
    simp [Value.isStrOf]
  unfold setAdd
  try with_reducible refine wpAny_holding ?_
  refine wpAny_bind ((PySem.strKind prog w).pyHash hk ?_)
  refine wpAny_setAddHashed_of hk (by rfl) hS hb fun h' sb so => ?_
  exact h h' (s.toks + 1) sb (Nat.le_succ _) so
theorem setOf_moved {s s' : Shared} {S : Addr} {f : Str → Bool} {n : Nat} (h : Heap.SetOf (PySem.strKind prog w) s.heap S f n) (m : ∀ o, s.heap.get? S = some o → s'.heap.get? S = some o) :
    Heap.SetOf (PySem.strKind prog w) s'.heap S f n := by
  obtain ⟨o, es, ep, t, h1, h2⟩ := h
  exact ⟨o, es, ep, t, m o h1, h2⟩
theorem loopS {R : Result → Shared → Prop} {I : Addr} {fp wr : List Addr} {G : Array GenState → Array GenState → Prop} {n : Nat} {P : Nat → Value → Prop} {St : Nat → Shared → Prop}
    (W : WalksS prog w A.in1 I fp wr G n P St) (S : Addr) (hS : ¬ S ∈ fp) (xs : List Str) (hn : xs.length = n) (nd : xs.Nodup) (hb : n + 1 < scanBound)
    (hP : ∀ (i : Nat) (v : Value), P i v → ∃ t, v = .str (xs.getD i Str.empty) t) :
    ∀ (k i : Nat) (s : Shared), n - i = k → i ≤ n → St i s → Heap.SetOf (PySem.strKind prog w) s.heap S (fun k' => (xs.take i).any fun x => x == k') i →
      (∀ s' : Shared, Moved (S :: wr) G s s' → Heap.SetOf (PySem.strKind prog w) s'.heap S (fun k' => (xs.take n).any fun x => x == k') n → R (.ok (.ret .none)) s') →
      codeAny (model prog w) A (.builtin "set.update.loop" { pos := [.ref S, .ref I] }) R s := by
  intro k
  induction k with
  | zero =>
    intro i s hk hi hSt hO h
    have e : i = n := by omega
    subst e
    refine codeAny_builtin F.entry_set_update_loop ?_
    rw [Around.under_plainId F.plain_set_update_loop]
    refine wpAny_bind (W.done s _ _ hSt fun s' m => ?_)
    exact wpAny_pure (h s' (m.mono fun b z => .tail _ z) (setOf_moved hO fun o e => m.heap S o (fun z => hS (W.sub S z)) e))
  | succ k ih =>
    intro i s hk hi hSt hO h
    have lt : i < n := by omega
    refine codeAny_builtin F.entry_set_update_loop ?_
    rw [Around.under_plainId F.plain_set_update_loop]
    refine wpAny_bind (W.item i s _ _ lt hSt fun v s' p st m => ?_)
    obtain ⟨t, rfl⟩ := hP i v p
    have hO' := setOf_moved (s' := s') hO fun o e => m.heap S o (fun z => hS (W.sub S z)) e
    have gx : xs.getD i Str.empty = xs[i]'(by omega) := by
      rw [List.getD_eq_getElem?_getD, List.getElem?_eq_getElem (by omega)]
      rfl
    have nin : ((xs.take i).any fun x => x == xs.getD i Str.empty) = false := by
      rw [List.any_eq_false]
      intro y hy e
      have e' : y = xs.getD i Str.empty := by simpa using e
      obtain ⟨j, hj, ej⟩ := List.getElem_of_mem hy
      have hj' : j < i := by
        rw [List.length_take] at hj
        omega
      rw [List.getElem_take] at ej
      have := nd_ix nd (i := j) (j := i) (x := xs[i]'(by omega)) (by rw [List.getElem?_eq_getElem (by omega), ej, e', gx]) (List.getElem?_eq_getElem (by omega))
      omega
    refine wpAny_bind (m := holding [_] _) ?_
    try with_reducible refine wpAny_holding ?_
    refine setAdd_str hO' (by omega) fun h' tk sb tl so => ?_
    refine wpAny_pure ⟨plainId_quiet F.plain_set_update_loop _, ?_⟩
    have hb' : ∀ b o, b ≠ S → s'.heap.get? b = some o → h'.get? b = some o := fun b o nb e => by rw [sb.2 b nb]; exact e
    refine ih (i + 1) _ (by omega) (by omega) (W.frame (i + 1) s' h' tk st tl fun b hbf o e => hb' b o (fun z => hS (by rw [← z]; exact hbf)) e) ?_ fun s2 m2 so2 => ?_
    · have so' := so
      rw [if_neg (by rw [nin]; simp)] at so'
      refine SetOf_congr so' (fun k' => ?_) rfl
      rw [List.take_succ_eq_append_getElem (by omega), List.any_append, gx]
      simp only [List.any_cons, List.any_nil, Bool.or_false]
      congr 1
      by_cases z : k' = xs[i]'(by omega)
      · simp [z]
      · simp [z, Ne.symm z]
    · refine h s2 (Moved.trans W.gtrans (m.mono fun b z => .tail _ z) (Moved.trans W.gtrans (s' := { s' with heap := h', toks := tk }) ⟨fun b o nb e => hb' b o (fun z => nb (by rw [z]; exact .head _)) e, W.grefl _, rfl, rfl, tl⟩ m2)) so2
theorem isAny_no {E : Value → Shared → Prop} {s : Shared} {v : Value} {T : String} {Q : Bool → Shared → Prop} (ht : s.TypeIs v T) (h1 : isSubtype (.type T) (.type "set") = pure false) (h2 : isSubtype (.type T) (.type "frozenset") = pure false) (q : Q false s) :
    wpAny (model prog w) A (Builtin.Frozenset.isAnySet v) Q E s := by
  unfold Builtin.Frozenset.isAnySet isInstance orM
  refine wpAny_bind (wpAny_bind (wpAny_typeOf ht ?_))
  rw [h1]
  refine wpAny_pure ?_
  show wpAny _ _ (typeOf v >>= fun t => isSubtype t (.type "frozenset")) _ _ s
  refine wpAny_bind (wpAny_typeOf ht ?_)
  rw [h2]
  exact wpAny_pure q
theorem upd_from {E : Value → Shared → Prop} {s : Shared} {v : Value} {T : String} {Q : Unit → Shared → Prop} (S : Addr) (xs : List Str) (hA : A.handled = none) (nd : xs.Nodup) (hb : xs.length + 1 < scanBound)
    (ht : s.TypeIs v T) (hd : (Value.type T == Value.type "dict") = false) (h1 : isSubtype (.type T) (.type "set") = pure false) (h2 : isSubtype (.type T) (.type "frozenset") = pure false)
    (hS : Heap.SetOf (PySem.strKind prog w) s.heap S (fun _ => false) 0)
    (hI : ∀ (E' : Value → Shared → Prop) (Q' : Value → Shared → Prop), (∀ (o : Obj) (fp : List Addr) (P : Nat → Value → Prop) (St : Nat → Heap → Prop), (∀ (A' : Around), A'.handled = none → Walks prog w A' s.heap.objs.size fp [s.heap.objs.size] xs.length P St) →
        St 0 (s.heap.push o) → ¬ S ∈ fp → (∀ (i : Nat) (v : Value), P i v → ∃ t, v = .str (xs.getD i Str.empty) t) → Q' (.ref s.heap.objs.size) { s with heap := s.heap.push o }) → wpAny (model prog w) A (pyIter v) Q' E' s)
    (q : ∀ (h' : Heap) (tk : Nat), Heap.SetOf (PySem.strKind prog w) h' S (fun k' => xs.any fun x => x == k') xs.length → (∀ b o, b ≠ S → s.heap.get? b = some o → h'.get? b = some o) → Q () { s with heap := h', toks := tk }) :
    wpAny (model prog w) A (Builtin.Frozenset.updateFrom "set.__init__" S v) Q E s := by
  unfold Builtin.Frozenset.updateFrom
  refine wpAny_bind (isAny_no ht h1 h2 ?_)
  rw [if_neg (by simp)]
  refine wpAny_bind (wpAny_typeOf ht ?_)
  rw [if_neg (by rw [hd]; simp)]
  refine wpAny_bind (hI _ _ fun o fp P St Wk h0 nS hP => ?_)
  have lt : S < s.heap.objs.size := by
    obtain ⟨ob, es, ep, t, h1, _⟩ := hS
    exact Heap.lt_size h1
  refine wpAny_bind (wpAny_runValue (loopS (A := A) (Wk A.in1 hA).toS S nS xs rfl nd hb hP (xs.length - 0) 0 _ rfl (Nat.zero_le _) h0 ?_ fun s' m so => ?_))
  · obtain ⟨ob, es, ep, t, h1, h2⟩ := hS
    exact ⟨ob, es, ep, t, Heap.get?_push_of_some _ h1, by simpa using h2⟩
  · have e1 : s' = { s with heap := s'.heap, toks := s'.toks } := by
      have g := m.gens
      have d := m.drawn
      have os := m.os
      cases s'
      simp_all
    rw [List.take_length] at so
    refine wpAny_pure ?_
    rw [e1]
    refine q s'.heap s'.toks so fun b o nb e => m.heap b o ?_ (Heap.get?_push_of_some _ e)
    simp only [List.mem_cons, List.not_mem_nil, or_false, not_or]
    exact ⟨nb, Nat.ne_of_lt (Heap.lt_size e)⟩
theorem call_setG {E : Value → Shared → Prop} {s : Shared} {v : Value} {T : String} {Q : Value → Shared → Prop} (xs : List Str) (hA : A.handled = none) (nd : xs.Nodup) (hb : xs.length + 1 < scanBound)
    (ht : ∀ s1 : Shared, (∀ b o, s.heap.get? b = some o → s1.heap.get? b = some o) → s1.TypeIs v T) (hd : (Value.type T == Value.type "dict") = false) (h1 : isSubtype (.type T) (.type "set") = pure false) (h2 : isSubtype (.type T) (.type "frozenset") = pure false)
    (hc : checkTypeCall "set" { pos := [v] } = pure ())
    (hI : ∀ (A : Around) (s1 : Shared) (E' : Value → Shared → Prop) (Q' : Value → Shared → Prop), (∀ b o, s.heap.get? b = some o → s1.heap.get? b = some o) → (∀ (o : Obj) (fp : List Addr) (P : Nat → Value → Prop) (St : Nat → Heap → Prop), (∀ (A' : Around), A'.handled = none → Walks prog w A' s1.heap.objs.size fp [s1.heap.objs.size] xs.length P St) →
        St 0 (s1.heap.push o) → (∀ b ∈ fp, b = s1.heap.objs.size ∨ ∃ o, s.heap.get? b = some o) → (∀ (i : Nat) (v : Value), P i v → ∃ t, v = .str (xs.getD i Str.empty) t) → Q' (.ref s1.heap.objs.size) { s1 with heap := s1.heap.push o }) → wpAny (model prog w) A (pyIter v) Q' E' s1)
    (q : ∀ (h' : Heap) (tk : Nat), Heap.SetOf (PySem.strKind prog w) h' s.heap.objs.size (fun k' => xs.any fun x => x == k') xs.length → (∀ b o, s.heap.get? b = some o → h'.get? b = some o) → Q (.ref s.heap.objs.size) { s with heap := h', toks := tk }) :
    wpAny (model prog w) A (call (.type "set") [v]) Q E s := by
  refine wpAny_call ?_
  refine codeAny_of_tree ?_
  rw [Around.under_plain (by rfl) (by rfl)]
  refine wpAny_pure ⟨Code.quiet_builtin _ (by simp), ?_⟩
  refine codeAny_builtin F.entry_type_call ?_
  rw [Around.under_plain (weight_type_call_type "set" [v] []) rfl]
  unfold Builtin.«type.__call__»
  show wpAny _ _ (if (Value.type "set" == Value.type "type") = true then _ else _) _ _ _
  rw [if_neg (by rw [F.called_set.notType]; simp)]
  show wpAny _ _ (if _ = true then _ else _) _ _ _
  rw [if_neg (by rw [F.called_set.canCreate]; simp)]
  show wpAny _ _ (checkTypeCall "set" { pos := [v] } >>= _) _ _ _
  rw [hc]
  obtain ⟨c, tl, hm⟩ := F.called_set.mro
  refine wpAny_bind (wpAny_pure ?_)
  show wpAny _ _ (mroOf (Value.type "set") >>= _) _ _ _
  rw [hm]
  refine wpAny_bind (wpAny_pure ?_)
  show wpAny _ _ (Bind.madeBy (Value.type "set") >>= _) _ _ _
  rw [F.called_set.made]
  refine wpAny_bind (wpAny_pure (wpAny_bind (wpAny_pure ?_)))
  refine wpAny_bind (m := holding [_] _) ?_
  try with_reducible refine wpAny_holding ?_
  refine wpAny_call (code_set_new_1 v (Q₁ := fun obj s₁ => _) fun led => ?_)
  have g : (s.heap.push { cls := .type "set", data := .set #[] 0 (SetTable.fresh 0 0 led) }).get? s.heap.objs.size = some { cls := .type "set", data := .set #[] 0 (SetTable.fresh 0 0 led) } := by simp [Heap.get?, Heap.push]
  have tS : Shared.TypeIs { s with heap := s.heap.push { cls := .type "set", data := .set #[] 0 (SetTable.fresh 0 0 led) } } (.ref s.heap.objs.size) "set" := ⟨_, g, rfl⟩
  have keep : ∀ b o, s.heap.get? b = some o → (s.heap.push { cls := .type "set", data := .set #[] 0 (SetTable.fresh 0 0 led) }).get? b = some o := fun b o e => Heap.get?_push_of_some _ e

  unfold isInstance
  refine wpAny_bind (wpAny_bind (wpAny_typeOf tS ?_))
  rw [F.called_set.sub]
  refine wpAny_pure ?_
  show wpAny _ _ (holding [Value.ref s.heap.objs.size] _ >>= _) _ _ _
  refine wpAny_bind (m := holding [_] _) ?_
  try with_reducible refine wpAny_holding ?_
  refine wpAny_callSpecial?_slot tS F.slot_set_init (wpAny_call (codeAny_call_builtin (by decide +kernel) F.entry_set_init (check_set_init_1 tS ?_)))
  show wpAny _ _ (Builtin.«set.__init__» _) _ _ _
  unfold Builtin.«set.__init__»
  refine wpAny_bind (wpAny_pure ?_)
  refine wpAny_bind ?_
  unfold typeNameOfCut shownTypeOf
  refine wpAny_bind (wpAny_bind (wpAny_typeOf tS (wpAny_pure ?_)))
  rw [show typeNameCut 200 (Value.type "set") = pure "set" from rfl]
  refine wpAny_pure ?_
  rw [show checkCount "set" 0 1 [v].length = pure () from rfl]
  refine wpAny_bind (wpAny_pure (wpAny_bind (wpAny_pure (wpAny_bind ?_))))
  unfold setUsed
  refine wpAny_bind (wpAny_setState_of g rfl (by rfl) (wpAny_pure ?_))
  show wpAny _ _ (Builtin.Frozenset.updateFrom "set.__init__" s.heap.objs.size v >>= fun _ => ret .none) _ _ _
  refine wpAny_bind (upd_from (A := A.in1.in1) _ xs hA nd hb (ht _ keep) hd h1 h2 ?_ (fun E' Q' hq => hI _ _ E' Q' keep fun o fp P St a b c d => hq o fp P St a b (fun z => ?_) d) fun h' tk so kp => wpAny_pure (wpAny_pure (q h' tk so fun b o e => kp b o (Nat.ne_of_lt (Heap.lt_size e)) (keep b o e))))
  · exact (setObjOf_fresh (knd := PySem.strKind prog w) led).setOf g (by decide)
  · rcases c _ z with y | ⟨ob, y⟩
    · have := y
      simp [Heap.push] at this
    · exact absurd (Heap.lt_size y) (Nat.lt_irrefl _)
end
/-- a set of n texts that nobody looks into -/
def SetS (P : Program) (w : World) (a : Addr) (n : Nat) : HO := .ext fun h => ∃ S, Heap.SetOf (PySem.strKind P w) h a S n
theorem setS_ok {P : Program} {w : World} {H : Hp} {h : Heap} {a : Addr} {n : Nat} {S : Str → Bool} (x : Heap.SetOf (PySem.strKind P w) h a S n) : ObjOk P w H h a (SetS P w a n) := by
  unfold SetS
  refine ⟨⟨S, x⟩, ?_, fun h1 h2 ⟨S', o, es, ep, t, e1, e2⟩ k => ⟨S', o, es, ep, t, k o e1, e2⟩⟩
  obtain ⟨o, es, ep, t, e1, _⟩ := x
  exact ⟨o, e1⟩
def signsOf (z : Str) : List Str := z.cps.toList.map fun c => ⟨#[c]⟩
theorem call_setS {X : Cx} (hc : X.calm = true) : CallR X (.type "set") (fun xs H Q => ∃ ys : List Str, ((∃ p, xs = [.ref p] ∧ (SqL X.K H p (ys.map V.str) ∨ SqT X.K H p (ys.map V.str))) ∨ ∃ z, xs = [.str z] ∧ ys = signsOf z) ∧ ys.Nodup ∧ ys.length ≤ 4000 ∧
    ∀ q, H q = none → Q (.ref q) (upd H q (SetS X.prog X.w q ys.length))) := by
  intro pins s σ H xs us Q I r h
  obtain ⟨ys, hx, nd, hl, q⟩ := h
  have hb : ys.length + 1 < scanBound := by
    show ys.length + 1 < 4096
    omega
  have fin : ∀ (h' : Heap) (tk : Nat), Heap.SetOf (PySem.strKind X.prog X.w) h' s.heap.objs.size (fun k' => ys.any fun x => x == k') ys.length →
      (∀ b o, s.heap.get? b = some o → h'.get? b = some o) → EP X pins σ Q (.ref s.heap.objs.size) { s with heap := h', toks := tk } := fun h' tk so kp =>
    ⟨.ref s.heap.objs.size, _, I.laid (t' := tk) kp (Nat.le_refl _) (setS_ok so), rfl, q _ (I.hok.fresh (Nat.le_refl _))⟩
  rcases hx with ⟨p, rfl, hq | hq⟩ | ⟨z, rfl, rfl⟩
  · obtain ⟨u, rfl, rx⟩ := vals1 r
    cases rx
    obtain ⟨its, r', pl, hz⟩ := I.list hq
    have hs := strs_of_vals r'
    have hlen := r'.length
    rw [List.length_map] at hlen
    have il : s.heap.IsList p its.toArray := pl.isList
    refine call_setG (T := "list") ys (I.ok.hd hc) nd hb (fun s1 k => ?_) (by decide) F.sub_list_set F.sub_list_frozenset (by rfl) (fun A s1 E' Q' k hq' => ?_) fin
    · obtain ⟨o, e, c, _⟩ := il
      exact ⟨o, k _ _ e, c⟩
    · have il1 : s1.heap.IsList p its.toArray := by
        obtain ⟨o, e, c⟩ := il
        exact ⟨o, k _ _ e, c⟩
      have lt : p < s1.heap.objs.size := by
        obtain ⟨o, e, _⟩ := il1
        exact Heap.lt_size e
      refine wpAny_pyIter_list il1 (hq' _ [s1.heap.objs.size, p] (fun i v => its.toArray[i]? = some v) (fun i h => h.IsListIter s1.heap.objs.size p i ∧ h.IsList p its.toArray) (fun A' hA' => ?_) ?_ (fun b hb => ?_) fun i v e => ?_)
      · have W := Walks.list (prog := X.prog) (w := X.w) hA' s1.heap.objs.size p (Nat.ne_of_lt lt) its.toArray
        have e : its.toArray.size = ys.length := by rw [List.size_toArray]; exact hlen.symm
        rw [e] at W
        exact W
      · refine ⟨⟨_, by simp [Heap.get?, Heap.push]; rfl, rfl, rfl⟩, ?_⟩
        obtain ⟨o, e, c⟩ := il1
        exact ⟨o, Heap.get?_push_of_some _ e, c⟩
      · simp only [List.mem_cons, List.not_mem_nil, or_false] at hb
        rcases hb with rfl | rfl
        · exact .inl rfl
        · obtain ⟨o, e, _⟩ := il
          exact .inr ⟨o, e⟩
      · exact SS.strs_at hs i v (by simpa using e)
  · obtain ⟨u, rfl, rx⟩ := vals1 r
    cases rx
    obtain ⟨its, r', pl, hz⟩ := I.tuple hq
    have hs := strs_of_vals r'
    have hlen := r'.length
    rw [List.length_map] at hlen
    have il : s.heap.IsTuple p its.toArray := pl
    refine call_setG (T := "tuple") ys (I.ok.hd hc) nd hb (fun s1 k => ?_) (by decide) F.sub_tuple_set F.sub_tuple_frozenset (by rfl) (fun A s1 E' Q' k hq' => ?_) fin
    · obtain ⟨o, e, c, _⟩ := il
      exact ⟨o, k _ _ e, c⟩
    · have il1 : s1.heap.IsTuple p its.toArray := by
        obtain ⟨o, e, c⟩ := il
        exact ⟨o, k _ _ e, c⟩
      have lt : p < s1.heap.objs.size := by
        obtain ⟨o, e, _⟩ := il1
        exact Heap.lt_size e
      refine wpAny_pyIter_tuple il1 (hq' _ [s1.heap.objs.size, p] (fun i v => its.toArray[i]? = some v) (fun i h => h.IsTupleIter s1.heap.objs.size p i ∧ h.IsTuple p its.toArray) (fun A' hA' => ?_) ?_ (fun b hb => ?_) fun i v e => ?_)
      · have W := Walks.tuple (prog := X.prog) (w := X.w) hA' s1.heap.objs.size p (Nat.ne_of_lt lt) its.toArray
        have e : its.toArray.size = ys.length := by rw [List.size_toArray]; exact hlen.symm
        rw [e] at W
        exact W
      · refine ⟨⟨_, by simp [Heap.get?, Heap.push]; rfl, rfl, rfl⟩, ?_⟩
        obtain ⟨o, e, c⟩ := il1
        exact ⟨o, Heap.get?_push_of_some _ e, c⟩
      · simp only [List.mem_cons, List.not_mem_nil, or_false] at hb
        rcases hb with rfl | rfl
        · exact .inl rfl
        · obtain ⟨o, e, _⟩ := il
          exact .inr ⟨o, e⟩
      · exact SS.strs_at hs i v (by simpa using e)
  · obtain ⟨u, rfl, rx⟩ := vals1 r
    obtain ⟨t, rfl⟩ : ∃ t, u = .str z t := rx
    refine call_setG (T := "str") (signsOf z) (I.ok.hd hc) nd hb (fun s1 k => ?_) (by decide) F.sub_str_set F.sub_str_frozenset (by rfl) (fun A s1 E' Q' k hq' => ?_) fin
    · exact rfl
    · refine wpAny_pyIter_str fun o St Wk h0 => hq' o [s1.heap.objs.size] (SignAt z) St (fun A' hA' => ?_) h0 (fun b hb => ?_) fun i v e => ?_
      · have e : z.cps.size = (signsOf z).length := by simp [signsOf]
        rw [← e]
        exact Wk A' hA'
      · exact .inl (by simpa using hb)
      · obtain ⟨c, u, e1, rfl⟩ := e
        refine ⟨u, ?_⟩
        have e2 : (signsOf z)[i]? = some ⟨#[c]⟩ := by
          simp [signsOf, e1]
        rw [List.getD_eq_getElem?_getD, e2]
        rfl
theorem call_lenS {X : Cx} : CallR X (.builtin "len") (fun xs H Q => ∃ a n, xs = [.ref a] ∧ H a = some (SetS X.prog X.w a n) ∧ n ≤ 4000 ∧ Q (.int (n : Nat)) H) := by
  intro pins s σ H xs us Q I r h
  obtain ⟨a, n, rfl, hH, hn, q⟩ := h
  obtain ⟨u, rfl, rx⟩ := vals1 r
  cases rx
  have ok := I.hok a _ hH
  unfold SetS at ok
  obtain ⟨⟨S, o, es, ep, t, e1, e2, e3, _, _, _, e4, e5⟩, _⟩ := ok
  subst e5
  refine call_len_set e1 e2 e3 e4 (by omega) ⟨.int (es.size : Nat), H, I.kept (t' := s.toks + 1 + 1) fun b o e => e, ?_, q⟩
  exact ⟨_, rfl⟩
end Kc
set_option Elab.async false
set_option linter.all false
set_option maxRecDepth 100000
set_option maxHeartbeats 4000000
namespace Kc
open PySem PySem.Spec PyProof.Rows L2 Kb
/-! ### join and split by one sign -/
theorem cut_unique {c : Nat} : ∀ {x y r t : List Nat}, ¬ c ∈ x → ¬ c ∈ y → x ++ c :: r = y ++ c :: t → x = y ∧ r = t
  | [], [], _, _, _, _, e => ⟨rfl, by simpa using e⟩
  | [], b :: y, _, _, _, hy, e => by
    simp only [List.nil_append, List.cons_append, List.cons.injEq] at e
    exact absurd (by rw [e.1]; exact .head _) hy
  | a :: x, [], _, _, hx, _, e => by
    simp only [List.nil_append, List.cons_append, List.cons.injEq] at e
    exact absurd (by rw [e.1]; exact .head _) hx
  | a :: x, b :: y, _, _, hx, hy, e => by
    simp only [List.cons_append, List.cons.injEq] at e
    obtain ⟨rfl, e⟩ := e
    obtain ⟨rfl, rfl⟩ := cut_unique (fun z => hx (.tail _ z)) (fun z => hy (.tail _ z)) e
    exact ⟨rfl, rfl⟩
def free (c : Nat) (w : Str) : Prop := ¬ c ∈ w.cps.toList
theorem str_ext {a b : Str} (h : a.cps.toList = b.cps.toList) : a = b := by
  cases a
  cases b
  simp only [Str.mk.injEq]
  exact Array.toList_inj.mp h
theorem join_cons2 (sep x y : Str) (r : List Str) : (sep.join (x :: y :: r)).cps.toList = x.cps.toList ++ (sep.cps.toList ++ (sep.join (y :: r)).cps.toList) := by
  show (x ++ sep ++ sep.join (y :: r)).cps.toList = _
  show ((x.cps ++ sep.cps) ++ (sep.join (y :: r)).cps).toList = _
  simp
theorem join_one (sep x : Str) : sep.join [x] = x := rfl
theorem join_unique {c : Nat} : ∀ {ws vs : List Str}, ws ≠ [] → vs ≠ [] → (∀ w ∈ ws, free c w) → (∀ v ∈ vs, free c v) → Str.join ⟨#[c]⟩ ws = Str.join ⟨#[c]⟩ vs → ws = vs
  | [], _, h, _, _, _, _ => absurd rfl h
  | _, [], _, h, _, _, _ => absurd rfl h
  | [x], [y], _, _, _, _, e => by
    rw [join_one, join_one] at e
    rw [e]
  | [x], y :: z :: r, _, _, hx, _, e => by
    have e' := congrArg (fun s : Str => s.cps.toList) e
    simp only [join_one, join_cons2] at e'
    exact absurd (by rw [e']; simp) (hx x (.head _))
  | x :: y :: r, [z], _, _, _, hz, e => by
    have e' := congrArg (fun s : Str => s.cps.toList) e
    simp only [join_one, join_cons2] at e'
    exact absurd (by rw [← e']; simp) (hz z (.head _))
  | x :: y :: r, z :: u :: t, _, _, hw, hv, e => by
    have e' := congrArg (fun s : Str => s.cps.toList) e
    simp only [join_cons2] at e'
    obtain ⟨e1, e2⟩ := cut_unique (hw x (.head _)) (hv z (.head _)) (by simpa using e')
    have e3 := join_unique (ws := y :: r) (vs := u :: t) (by simp) (by simp) (fun w h => hw w (.tail _ h)) (fun v h => hv v (.tail _ h)) (str_ext e2)
    rw [e3, str_ext e1]
theorem split_ne (x y : Str) : Txt.split x y ≠ [] := by
  unfold Txt.split
  split
  · simp
  · split
    · simp
    · intro e
      have := congrArg List.length e
      rw [PySem.length_partsBetween] at this
      simp at this
theorem split_join {c : Nat} {ws : List Str} (h : ws ≠ []) (hf : ∀ w ∈ ws, free c w) : Txt.split (Str.join ⟨#[c]⟩ ws) ⟨#[c]⟩ = ws :=
  join_unique (split_ne _ _) h (fun w hw => StrLaws.split_free _ _ w hw) hf (StrLaws.join_split _ _)
theorem txt_join (sep : Str) (ws : List Str) : Txt.join sep ws = sep.join ws := StrLaws.glued_eq_join sep ws
/-! ### sorted texts are told by their items -/
theorem ltC_step (a b : Nat) (r t : List Nat) : ltCps (a :: r) (b :: t) = (decide (a < b) || (a == b && ltCps r t)) := by
  rfl
theorem ltC_asymm : ∀ {a b : List Nat}, ltCps a b = false → ltCps b a = false → a = b
  | [], [], _, _ => rfl
  | [], _ :: _, h, _ => by simp [ltCps] at h
  | _ :: _, [], _, h => by simp [ltCps] at h
  | a :: r, b :: t, h1, h2 => by
    rw [ltC_step] at h1 h2
    simp only [Bool.or_eq_false_iff, decide_eq_false_iff_not, Bool.and_eq_false_iff, beq_eq_false_iff_ne, ne_eq] at h1 h2
    have e : a = b := by omega
    subst e
    rw [ltC_asymm (h1.2.resolve_left (by simp)) (h2.2.resolve_left (by simp))]
theorem ltC_trans : ∀ {a b c : List Nat}, ltCps b a = false → ltCps c b = false → ltCps c a = false
  | [], [], [], _, _ => rfl
  | [], [], _ :: _, _, h => rfl
  | [], _ :: _, [], _, h => by simp [ltCps] at h
  | [], _ :: _, _ :: _, _, _ => rfl
  | _ :: _, [], _, h, _ => by simp [ltCps] at h
  | _ :: _, _ :: _, [], _, h => by simp [ltCps] at h
  | a :: r, b :: t, c :: u, h1, h2 => by
    rw [ltC_step] at h1 h2 ⊢
    simp only [Bool.or_eq_false_iff, decide_eq_false_iff_not, Bool.and_eq_false_iff, beq_eq_false_iff_ne, ne_eq] at h1 h2 ⊢
    refine ⟨by omega, ?_⟩
    by_cases e : c = a
    · refine .inr (ltC_trans (h1.2.resolve_left (by omega)) (h2.2.resolve_left (by omega)))
    · exact .inl e
theorem risingS_le : ∀ {x : Str} {r : List Str}, risingS x r = true → ∀ y ∈ r, ltCps y.cps.toList x.cps.toList = false
  | x, z :: r, h, y, hy => by
    have h' : (!ltCps z.cps.toList x.cps.toList && risingS z r) = true := h
    simp only [Bool.and_eq_true, Bool.not_eq_true'] at h'
    rcases List.mem_cons.mp hy with rfl | m
    · exact h'.1
    · exact ltC_trans h'.1 (risingS_le h'.2 y m)
theorem ltC_irr : ∀ a : List Nat, ltCps a a = false
  | [] => rfl
  | a :: r => by
    rw [ltC_step, ltC_irr r]
    simp
theorem sorted_tail {x : Str} {r : List Str} (h : risingS x r = true) : sortedS r = true := by
  cases r with
  | nil => rfl
  | cons y t =>
    have h' : (!ltCps y.cps.toList x.cps.toList && risingS y t) = true := h
    simp only [Bool.and_eq_true] at h'
    exact h'.2
theorem sorted_unique : ∀ {xs ys : List Str}, xs.Perm ys → sortedS xs = true → sortedS ys = true → xs = ys
  | [], ys, p, _, _ => (List.Perm.nil_eq p).symm ▸ rfl
  | x :: r, [], p, _, _ => absurd p.length_eq (by simp)
  | x :: r, y :: t, p, hx, hy => by
    have e : x = y := by
      have m1 : x ∈ y :: t := p.subset (.head _)
      have m2 : y ∈ x :: r := p.symm.subset (.head _)
      rcases List.mem_cons.mp m1 with e | m1
      · exact e
      rcases List.mem_cons.mp m2 with e | m2
      · exact e.symm
      exact str_ext (ltC_asymm (risingS_le hy x m1) (risingS_le hx y m2))
    subst e
    rw [sorted_unique (List.Perm.cons_inv p) (sorted_tail hx) (sorted_tail hy)]
/-! ### sorted of a tuple of texts -/
section
variable {prog : Program} {w : World} {A : Around} {E : Value → Shared → Prop} {s : Shared}
theorem collect_tuple {l : Addr} {vs : List Value} {Q : List Value → Shared → Prop} (hl : s.heap.IsTuple l vs.toArray)
    (q : Q vs { s with heap := (s.heap.push (seqObj "list" #[] 0)).update s.heap.objs.size (Obj.mapSeq fun x => x ++ vs.toArray) }) (hz : vs.length ≤ sizeLine) : wpAny (model prog w) A (collect (.ref l)) Q E s := by
  obtain ⟨o, ho, hc, n, hd⟩ := hl
  have hz' : vs.toArray.size ≤ sizeLine := by simpa using hz
  unfold collect
  refine wpAny_bind (wpAny_runValue (codeAny_builtin entry_proto_collect' ?_))
  unfold Builtin.«proto.collect»
  refine wpAny_bind (wpAny_newList (wpAny_pure ⟨Code.quiet_builtin _ (by simp), ?_⟩))
  refine codeAny_builtin entry_list_iadd' ?_
  unfold Builtin.«list.__iadd__»
  refine wpAny_bind (wpAny_pure ?_)
  show wpAny _ _ (Builtin.List.listExtendWith (.ref s.heap.objs.size) (.ref l) (.ref s.heap.objs.size)) _ _ _
  unfold Builtin.List.listExtendWith
  have g : (s.heap.push (seqObj "list" #[] 0)).get? s.heap.objs.size = some (seqObj "list" #[] 0) := by simp [Heap.get?, Heap.push]
  have g2 : (s.heap.push (seqObj "list" #[] 0)).get? l = some o := Heap.get?_push_of_some _ ho
  have tl : Shared.TypeIs { s with heap := s.heap.push (seqObj "list" #[] 0) } (.ref l) "tuple" := ⟨o, g2, hc⟩
  refine wpAny_bind (wpAny_typeOf tl ?_)
  rw [if_pos (by simp)]
  refine wpAny_bind (listItems_at g2 hd (wpAny_bind (listItems_at g (by rfl) ?_)))
  show wpAny _ _ (if (!(#[] : Array Value).isEmpty && _) = true then _ else _) _ _ _
  rw [if_neg (by simp)]
  refine wpAny_bind (listUpdate_at g (by rfl) ?_ (by simp) (by simpa using Nat.le_succ_of_le hz))
  refine wpAny_pure ?_
  refine wpAny_bind (wpAny_load (get?_update_seq g _) ?_)
  refine wpAny_pure ?_
  have e : ((#[] : Array Value) ++ vs.toArray).toList = vs := by simp
  show Q ((#[] : Array Value) ++ vs.toArray).toList _
  rw [e]
  exact q
theorem sorted_tuple {l : Addr} {vs : List Value} {ss : List Str} {Q : Value → Shared → Prop} (hl : s.heap.IsTuple l vs.toArray) (hs : StrsAre vs ss) (h64 : vs.length < 64)
    (q : ∀ (out : Array Value) (ss' : List Str), StrsAre out.toList ss' → ss'.Perm ss → sortedS ss' = true → Q (.ref (s.heap.objs.size + 1)) { s with heap := sortedAll s.heap vs out }) :
    wpAny (model prog w) A (call (.builtin "sorted") [.ref l]) Q E s := by
  refine call_function_any kind_sorted plain_sorted entry_sorted (args_sorted1 _) ?_
  unfold Builtin.sorted
  refine wpAny_bind (wpAny_pure ?_)
  refine wpAny_bind (collect_tuple hl ?_ (Nat.le_trans (Nat.le_of_lt h64) (by decide)))
  refine wpAny_bind (wpAny_newList ?_ (Nat.le_trans (Nat.le_of_lt h64) (by decide)))
  have ez : ((s.heap.push (seqObj "list" #[] 0)).update s.heap.objs.size (Obj.mapSeq fun x => x ++ vs.toArray)).objs.size = s.heap.objs.size + 1 := by simp [Heap.update, Heap.push]
  show wpAny _ _ (holding [.ref ((s.heap.push (seqObj "list" #[] 0)).update s.heap.objs.size (Obj.mapSeq fun x => x ++ vs.toArray)).objs.size] (call (.builtin "list.sort") [.ref ((s.heap.push (seqObj "list" #[] 0)).update s.heap.objs.size (Obj.mapSeq fun x => x ++ vs.toArray)).objs.size]) >>= _) _ _ { s with heap := ((s.heap.push (seqObj "list" #[] 0)).update s.heap.objs.size (Obj.mapSeq fun x => x ++ vs.toArray)).push (seqObj "list" vs.toArray 0) }
  rw [ez]
  have g : (((s.heap.push (seqObj "list" #[] 0)).update s.heap.objs.size (Obj.mapSeq fun x => x ++ vs.toArray)).push (seqObj "list" vs.toArray 0)).get? (s.heap.objs.size + 1) = some (seqObj "list" vs.toArray 0) := by
    rw [← ez]
    exact Heap.get?_push_size _ (by rfl)
  refine wpAny_bind (m := holding [_] _) ?_
  try with_reducible refine wpAny_holding ?_
  refine wpAny_call_entry slot_list_sort ⟨_, g, rfl⟩ entry_list_sort ?_ (args_list_sort _)
  refine list_sort_treeK strKind_oneLt g (StrsAre.keysOf hs) (fun v1 v2 rest e => ?_) h64 fun st' p1 p2 => ?_
  · subst e
    exact keyKind_strs hs
  · obtain ⟨ss', a1, a2, a3⟩ := sorted_out_str hs p1 p2
    exact ⟨_, rfl, wpAny_pure (q _ ss' a1 a2 a3)⟩
end
def rSortedTS (K : PySem.W.Frag) : List V → Hp → VK → Prop := fun vs H Q => ∃ (a : Addr) (xs : List Str), vs = [.ref a] ∧ SqT K H a (xs.map V.str) ∧ xs.length < 64 ∧ ∀ (ys : List Str) (p : Addr), ys.Perm xs → sortedS ys = true → H p = none → Q (.ref p) (upd H p (.lst (ys.map V.str)))
theorem cr_sortedTS {X : Cx} : CallR X (.builtin "sorted") (rSortedTS X.K) := by
  intro pins s σ H xs us Q I r h
  obtain ⟨a, zs, rfl, hq, h64, q⟩ := h
  obtain ⟨u, rfl, rx⟩ := vals1 r
  cases rx
  obtain ⟨its, r', pl, hz⟩ := I.tuple hq
  have hs := strs_of_vals r'
  have hlen := r'.length
  rw [List.length_map] at hlen
  refine sorted_tuple pl hs (by omega) fun out ss' s1 p1 so => ?_
  obtain ⟨e, he⟩ := sortedAll_at s.heap its out
  have r2 := vals_of_strs s1
  refine ⟨.ref (s.heap.objs.size + 1), _, I.laid (t' := s.toks) (o := .lst (ss'.map V.str)) (fun b o e => sortedAll_old e) (Nat.le_succ _) ⟨?_, out.toList, e, r2, by simpa using he⟩, rfl, q ss' _ p1 so (I.hok.fresh (Nat.le_succ _))⟩
  rw [List.length_map, p1.length_eq]
  exact Nat.le_trans (Nat.le_of_lt h64) (by decide)
end Kc
set_option Elab.async false
set_option linter.all false
set_option maxRecDepth 100000
set_option maxHeartbeats 4000000
namespace Kc
open PySem PySem.Spec PyProof.Rows L2 Kb
/-! ### the part of a heap in which a value lives: what was given (G, a part of H) and what is new since H -/
def Grow (G H H' : Hp) : Hp := fun a => if H a = none then H' a else G a
section
variable {G H H1 H2 : Hp}
theorem grow_old (g : Same G H) : Same G (Grow G H H1) := fun b o e => by
  have h : ¬ H b = none := by rw [g b o e]; simp
  show (if H b = none then H1 b else G b) = some o
  rw [if_neg h]
  exact e
theorem grow_in (g : Same G H) (s : Same H H1) : Same (Grow G H H1) H1 := fun b o e => by
  by_cases h : H b = none
  · exact (if_pos h).symm.trans e
  · exact s b o (g b o ((if_neg h).symm.trans e))
theorem grow_new {b : Addr} {o : HO} (h : H b = none) (e : H1 b = some o) : Grow G H H1 b = some o := (if_pos h).trans e
theorem grow_self (g : Same G H) : Same (Grow G H H) G := fun b o e => by
  by_cases h : H b = none
  · have z := (if_pos h).symm.trans e
    rw [h] at z
    cases z
  · exact (if_neg h).symm.trans e
theorem grow_trans (s : Same H H1) (s2 : Same H1 H2) : Same (Grow (Grow G H H1) H1 H2) (Grow G H H2) := fun b o e => by
  by_cases h1 : H1 b = none
  · have h : H b = none := s.free h1
    exact grow_new h ((if_pos h1).symm.trans e)
  · have e' : Grow G H H1 b = some o := (if_neg h1).symm.trans e
    by_cases h : H b = none
    · exact grow_new h (s2 b o ((if_pos h).symm.trans e'))
    · exact (if_neg h).trans ((if_neg h).symm.trans e')
theorem grow_mono (s : Same H1 H2) : Same (Grow G H H1) (Grow G H H2) := fun b o e => by
  by_cases h : H b = none
  · exact grow_new h (s b o ((if_pos h).symm.trans e))
  · exact (if_neg h).trans ((if_neg h).symm.trans e)
end
/-- a list under construction at D: D itself stands outside -/
theorem grow_step {G1 H1 H2 H4 : Hp} {D : Addr} {ys zs : List V} (nD : H1 D = none) (s12 : Same H1 H2) (hD : H2 D = some (.lst ys)) (s24 : Same H2 H4) :
    Same (Grow (Grow G1 (upd H1 D (.lst [])) H2) H2 H4) (Grow G1 (upd H1 D (.lst [])) (upd H4 D (.lst zs))) := fun b o e => by
  by_cases h2 : H2 b = none
  · have nb : b ≠ D := fun z => by
      rw [z, hD] at h2
      cases h2
    have h1 : (upd H1 D (.lst [])) b = none := by
      rw [upd_ne nb]
      exact s12.free h2
    refine grow_new h1 ?_
    rw [upd_ne nb]
    exact (if_pos h2).symm.trans e
  · have e' := (if_neg h2).symm.trans e
    by_cases h1 : (upd H1 D (.lst [])) b = none
    · have nb : b ≠ D := fun z => by
        rw [z, upd_same] at h1
        cases h1
      refine grow_new h1 ?_
      rw [upd_ne nb]
      exact s24 b o ((if_pos h1).symm.trans e')
    · exact (if_neg h1).trans ((if_neg h1).symm.trans e')
theorem grow_D {G1 H1 : Hp} {D : Addr} {H2 : Hp} (g : Same G1 H1) (nD : H1 D = none) : Grow G1 (upd H1 D (.lst [])) H2 D = none := by
  have h : ¬ (upd H1 D (.lst [])) D = none := by rw [upd_same]; simp
  refine (if_neg h).trans ?_
  cases e : G1 D with
  | none => rfl
  | some o =>
    have := g D o e
    rw [nD] at this
    cases this
theorem grow_part {G1 H1 H2 : Hp} {D : Addr} (g : Same G1 H1) (nD : H1 D = none) (s : Same H1 H2) : Same (Grow G1 (upd H1 D (.lst [])) H2) H2 := fun b o e => by
  by_cases h : (upd H1 D (.lst [])) b = none
  · exact (if_pos h).symm.trans e
  · exact s b o (g b o ((if_neg h).symm.trans e))
theorem grow_first {G1 H1 H2 : Hp} {D : Addr} (g : Same G1 H1) (nD : H1 D = none) : Same G1 (Grow G1 (upd H1 D (.lst [])) H2) := fun b o e => by
  have n : b ≠ D := ne_of_none (g b o e) nD
  have h : ¬ (upd H1 D (.lst [])) b = none := by
    rw [upd_ne n, g b o e]
    simp
  exact (if_neg h).trans e
theorem grow_last {G1 H1 H2 : Hp} {D : Addr} (g : Same G1 H1) (nD : H1 D = none) : Same (Grow G1 (upd H1 D (.lst [])) H2) (Grow G1 H1 H2) := fun b o e => by
  by_cases n : b = D
  · subst n
    have h : ¬ (upd H1 b (.lst [])) b = none := by rw [upd_same]; simp
    have e' : G1 b = some o := (if_neg h).symm.trans e
    have := g b o e'
    rw [nD] at this
    cases this
  · show (if H1 b = none then H2 b else G1 b) = some o
    have z : (if (upd H1 D (.lst [])) b = none then H2 b else G1 b) = some o := e
    rw [upd_ne n] at z
    exact z
/-! ### [e for x in xs], e only makes new objects: item j is told by R j -/
def RelL (R : Hp → Nat → V → Prop) (H : Hp) (ys : List V) : Prop := ∀ j y, ys[j]? = some y → R H j y
theorem RelL.snoc {R : Hp → Nat → V → Prop} {H : Hp} {ys : List V} {y : V} (h : RelL R H ys) (hy : R H ys.length y) : RelL R H (ys ++ [y]) := fun j z e => by
  by_cases lt : j < ys.length
  · rw [List.getElem?_append_left lt] at e
    exact h j z e
  · have le : ys.length ≤ j := by omega
    rw [List.getElem?_append_right le] at e
    have : j - ys.length = 0 := by
      have := (List.getElem?_eq_some_iff.mp e).1
      simp at this
      omega
    rw [this] at e
    have ez : y = z := by simpa using e
    subst ez
    have ej : j = ys.length := by omega
    rw [ej]
    exact hy
theorem lc_mapT {K : PySem.W.Frag} {a : Addr} {xs : List V} {g : TG} {te : TE} {vs : List Nat} {σ : L2.St} {H1 : Hp} {D : Addr} {Qd : Hp → Prop} {G1 : Hp} (R : Hp → Nat → V → Prop)
    (mono : ∀ H H' j y, Same H H' → R H j y → R H' j y) (gS : Same G1 H1) (nD : H1 D = none) (hS : SqT K H1 a xs) (hz : xs.length < sizeLine)
    (hs : ∀ j x H2 G2 Q, xs[j]? = some x → Same H1 H2 → Same G1 G2 → Same G2 H2 → (∀ H4 y, Same H2 H4 → R (Grow G2 H2 H4) j y → Q y H4) → g x (wipe σ vs) H2 fun σ2 H3 => wipe σ2 vs = wipe σ vs ∧ te σ2 H3 Q)
    (gmono : ∀ x σ H P P', g x σ H P → (∀ σ2 H2, P σ2 H2 → P' σ2 H2) → g x σ H P')
    (hd : ∀ H' ys, Same H1 H' → H' D = some (.lst ys) → ys.length = xs.length → RelL R (Grow G1 (upd H1 D (.lst [])) H') ys → Qd H') :
    ∃ W : Nat → Nat → Hp → Prop, (∃ m, W 0 m (upd H1 D (.lst []))) ∧ ∀ i m H, W i m H → ((Itt K a).stop i H ∧ Qd H) ∨ ((Itt K a).go i H ∧ ∃ Nx : Hp → Prop, (∀ H', Nx H' → ∃ m', m' < m ∧ W (i + 1) m' H') ∧ ∀ x H', (Itt K a).yld i H x H' →
      g x (wipe σ vs) H' fun σ2 H2 => wipe σ2 vs = wipe σ vs ∧ tYes σ2 H2 fun b H3 => if b = true then te σ2 H3 fun y H4 => ∃ acc, H4 D = some (.lst acc) ∧ acc.length < sizeLine ∧ Nx (upd H4 D (.lst (acc ++ [y]))) else Nx H3) := by
  refine lc_tup (K := K) (a := a) (xs := xs) (fun j H2 => Same H1 H2 ∧ ∃ ys, H2 D = some (.lst ys) ∧ ys.length = j ∧ RelL R (Grow G1 (upd H1 D (.lst [])) H2) ys)
    ⟨Kb.same_upd nD, [], upd_same, rfl, fun j y e => by simp at e⟩ (fun j H2 _ ⟨s, _⟩ => ?_) (fun j x H2 hj ⟨s12, ys, hD, ely, rl⟩ => ?_) (fun H' ⟨s, ys, hD, ely, rl⟩ => hd H' ys s hD ely rl)
  · exact Kb.Same.seqT s hS
  · have lt : j < xs.length := (List.getElem?_eq_some_iff.mp hj).1
    refine gmono _ _ _ _ _ (hs j x H2 (Grow G1 (upd H1 D (.lst [])) H2) (fun y H4 => ∃ acc, H4 D = some (.lst acc) ∧ acc.length < sizeLine ∧ Same H1 (upd H4 D (.lst (acc ++ [y]))) ∧ ∃ zs, (upd H4 D (.lst (acc ++ [y]))) D = some (.lst zs) ∧ zs.length = j + 1 ∧ RelL R (Grow G1 (upd H1 D (.lst [])) (upd H4 D (.lst (acc ++ [y])))) zs)
      hj s12 (grow_first gS nD) (grow_part gS nD s12) fun H4 y s24 r => ?_) fun σ2 H3 ⟨e, h⟩ => ⟨e, h⟩
    refine ⟨ys, s24 _ _ hD, by omega, fun b o e => ?_, ys ++ [y], upd_same, by simp [ely], ?_⟩
    · rw [upd_ne (ne_of_none e nD)]
      exact s24 b o (s12 b o e)
    · have st := grow_step (G1 := G1) (zs := ys ++ [y]) nD s12 hD s24
      refine RelL.snoc (fun i z e => mono _ _ i z st (mono _ _ i z (grow_old (grow_part gS nD s12)) (rl i z e))) ?_
      rw [ely]
      exact mono _ _ j y st r
theorem lc_mapL {K : PySem.W.Frag} {a : Addr} {xs : List V} {g : TG} {te : TE} {vs : List Nat} {σ : L2.St} {H1 : Hp} {D : Addr} {Qd : Hp → Prop} {G1 : Hp} (R : Hp → Nat → V → Prop)
    (mono : ∀ H H' j y, Same H H' → R H j y → R H' j y) (gS : Same G1 H1) (nD : H1 D = none) (hS : SqL K H1 a xs) (hz : xs.length < sizeLine)
    (hs : ∀ j x H2 G2 Q, xs[j]? = some x → Same H1 H2 → Same G1 G2 → Same G2 H2 → (∀ H4 y, Same H2 H4 → R (Grow G2 H2 H4) j y → Q y H4) → g x (wipe σ vs) H2 fun σ2 H3 => wipe σ2 vs = wipe σ vs ∧ te σ2 H3 Q)
    (gmono : ∀ x σ H P P', g x σ H P → (∀ σ2 H2, P σ2 H2 → P' σ2 H2) → g x σ H P')
    (hd : ∀ H' ys, Same H1 H' → H' D = some (.lst ys) → ys.length = xs.length → RelL R (Grow G1 (upd H1 D (.lst [])) H') ys → Qd H') :
    ∃ W : Nat → Nat → Hp → Prop, (∃ m, W 0 m (upd H1 D (.lst []))) ∧ ∀ i m H, W i m H → ((Itl K a).stop i H ∧ Qd H) ∨ ((Itl K a).go i H ∧ ∃ Nx : Hp → Prop, (∀ H', Nx H' → ∃ m', m' < m ∧ W (i + 1) m' H') ∧ ∀ x H', (Itl K a).yld i H x H' →
      g x (wipe σ vs) H' fun σ2 H2 => wipe σ2 vs = wipe σ vs ∧ tYes σ2 H2 fun b H3 => if b = true then te σ2 H3 fun y H4 => ∃ acc, H4 D = some (.lst acc) ∧ acc.length < sizeLine ∧ Nx (upd H4 D (.lst (acc ++ [y]))) else Nx H3) := by
  refine lc_list (K := K) (a := a) (xs := xs) (fun j H2 => Same H1 H2 ∧ ∃ ys, H2 D = some (.lst ys) ∧ ys.length = j ∧ RelL R (Grow G1 (upd H1 D (.lst [])) H2) ys)
    ⟨Kb.same_upd nD, [], upd_same, rfl, fun j y e => by simp at e⟩ (fun j H2 _ ⟨s, _⟩ => ?_) (fun j x H2 hj ⟨s12, ys, hD, ely, rl⟩ => ?_) (fun H' ⟨s, ys, hD, ely, rl⟩ => hd H' ys s hD ely rl)
  · exact Same.seq s hS
  · have lt : j < xs.length := (List.getElem?_eq_some_iff.mp hj).1
    refine gmono _ _ _ _ _ (hs j x H2 (Grow G1 (upd H1 D (.lst [])) H2) (fun y H4 => ∃ acc, H4 D = some (.lst acc) ∧ acc.length < sizeLine ∧ Same H1 (upd H4 D (.lst (acc ++ [y]))) ∧ ∃ zs, (upd H4 D (.lst (acc ++ [y]))) D = some (.lst zs) ∧ zs.length = j + 1 ∧ RelL R (Grow G1 (upd H1 D (.lst [])) (upd H4 D (.lst (acc ++ [y])))) zs)
      hj s12 (grow_first gS nD) (grow_part gS nD s12) fun H4 y s24 r => ?_) fun σ2 H3 ⟨e, h⟩ => ⟨e, h⟩
    refine ⟨ys, s24 _ _ hD, by omega, fun b o e => ?_, ys ++ [y], upd_same, by simp [ely], ?_⟩
    · rw [upd_ne (ne_of_none e nD)]
      exact s24 b o (s12 b o e)
    · have st := grow_step (G1 := G1) (zs := ys ++ [y]) nD s12 hD s24
      refine RelL.snoc (fun i z e => mono _ _ i z st (mono _ _ i z (grow_old (grow_part gS nD s12)) (rl i z e))) ?_
      rw [ely]
      exact mono _ _ j y st r
theorem lc_str {z : Str} {g : TG} {tt : TT} {te : TE} {vs : List Nat} {σ : L2.St} {H1 : Hp} {D : Addr} {Qd : Hp → Prop} (Pv : Nat → Hp → Prop) (h0 : Pv 0 (upd H1 D (.lst [])))
    (hs : ∀ (i : Nat) (s : Str) (H : Hp), (signsOf z)[i]? = some s → Pv i H → g (.str s) (wipe σ vs) H fun σ2 H2 => wipe σ2 vs = wipe σ vs ∧ tt σ2 H2 fun b H3 => if b = true then te σ2 H3 fun y H4 => ∃ acc, H4 D = some (.lst acc) ∧ acc.length < sizeLine ∧ Pv (i + 1) (upd H4 D (.lst (acc ++ [y]))) else Pv (i + 1) H3)
    (hd : ∀ H, Pv z.cps.size H → Qd H) :
    ∃ W : Nat → Nat → Hp → Prop, (∃ m, W 0 m (upd H1 D (.lst []))) ∧ ∀ i m H, W i m H → ((Its z).stop i H ∧ Qd H) ∨ ((Its z).go i H ∧ ∃ Nx : Hp → Prop, (∀ H', Nx H' → ∃ m', m' < m ∧ W (i + 1) m' H') ∧ ∀ x H', (Its z).yld i H x H' →
      g x (wipe σ vs) H' fun σ2 H2 => wipe σ2 vs = wipe σ vs ∧ tt σ2 H2 fun b H3 => if b = true then te σ2 H3 fun y H4 => ∃ acc, H4 D = some (.lst acc) ∧ acc.length < sizeLine ∧ Nx (upd H4 D (.lst (acc ++ [y]))) else Nx H3) := by
  refine ⟨fun i m H => m = z.cps.size - i ∧ i ≤ z.cps.size ∧ Pv i H, ⟨z.cps.size, rfl, Nat.zero_le _, h0⟩, ?_⟩
  rintro i m H ⟨rfl, hi, p⟩
  by_cases lt : i < z.cps.size
  · refine .inr ⟨lt, Pv (i + 1), fun H' p' => ⟨z.cps.size - (i + 1), by omega, rfl, lt, p'⟩, ?_⟩
    rintro x H' ⟨rfl, c, hc, rfl⟩
    exact hs i ⟨#[c]⟩ _ (by simp [signsOf, hc]) p
  · have e : i = z.cps.size := by omega
    subst e
    exact .inl ⟨Nat.le_refl _, hd H p⟩
theorem lc_mapS {z : Str} {g : TG} {te : TE} {vs : List Nat} {σ : L2.St} {H1 : Hp} {D : Addr} {Qd : Hp → Prop} {G1 : Hp} (R : Hp → Nat → V → Prop)
    (mono : ∀ H H' j y, Same H H' → R H j y → R H' j y) (gS : Same G1 H1) (nD : H1 D = none) (hz : z.cps.size < sizeLine)
    (hs : ∀ j x s H2 G2 Q, (signsOf z)[j]? = some s ∧ x = V.str s → Same H1 H2 → Same G1 G2 → Same G2 H2 → (∀ H4 y, Same H2 H4 → R (Grow G2 H2 H4) j y → Q y H4) → g x (wipe σ vs) H2 fun σ2 H3 => wipe σ2 vs = wipe σ vs ∧ te σ2 H3 Q)
    (gmono : ∀ x σ H P P', g x σ H P → (∀ σ2 H2, P σ2 H2 → P' σ2 H2) → g x σ H P')
    (hd : ∀ H' ys, Same H1 H' → H' D = some (.lst ys) → ys.length = z.cps.size → RelL R (Grow G1 (upd H1 D (.lst [])) H') ys → Qd H') :
    ∃ W : Nat → Nat → Hp → Prop, (∃ m, W 0 m (upd H1 D (.lst []))) ∧ ∀ i m H, W i m H → ((Its z).stop i H ∧ Qd H) ∨ ((Its z).go i H ∧ ∃ Nx : Hp → Prop, (∀ H', Nx H' → ∃ m', m' < m ∧ W (i + 1) m' H') ∧ ∀ x H', (Its z).yld i H x H' →
      g x (wipe σ vs) H' fun σ2 H2 => wipe σ2 vs = wipe σ vs ∧ tYes σ2 H2 fun b H3 => if b = true then te σ2 H3 fun y H4 => ∃ acc, H4 D = some (.lst acc) ∧ acc.length < sizeLine ∧ Nx (upd H4 D (.lst (acc ++ [y]))) else Nx H3) := by
  refine lc_str (z := z) (fun j H2 => Same H1 H2 ∧ ∃ ys, H2 D = some (.lst ys) ∧ ys.length = j ∧ RelL R (Grow G1 (upd H1 D (.lst [])) H2) ys)
    ⟨Kb.same_upd nD, [], upd_same, rfl, fun j y e => by simp at e⟩ (fun j s H2 hj ⟨s12, ys, hD, ely, rl⟩ => ?_) (fun H' ⟨s, ys, hD, ely, rl⟩ => hd H' ys s hD ely rl)
  have lt : j < z.cps.size := by
    have := (List.getElem?_eq_some_iff.mp hj).1
    simpa [signsOf] using this
  refine gmono _ _ _ _ _ (hs j (V.str s) s H2 (Grow G1 (upd H1 D (.lst [])) H2) (fun y H4 => ∃ acc, H4 D = some (.lst acc) ∧ acc.length < sizeLine ∧ Same H1 (upd H4 D (.lst (acc ++ [y]))) ∧ ∃ zs, (upd H4 D (.lst (acc ++ [y]))) D = some (.lst zs) ∧ zs.length = j + 1 ∧ RelL R (Grow G1 (upd H1 D (.lst [])) (upd H4 D (.lst (acc ++ [y])))) zs)
      ⟨hj, rfl⟩ s12 (grow_first gS nD) (grow_part gS nD s12) fun H4 y s24 r => ?_) fun σ2 H3 ⟨e, h⟩ => ⟨e, h⟩
  refine ⟨ys, s24 _ _ hD, by omega, fun b o e => ?_, ys ++ [y], upd_same, by simp [ely], ?_⟩
  · rw [upd_ne (ne_of_none e nD)]
    exact s24 b o (s12 b o e)
  · have st := grow_step (G1 := G1) (zs := ys ++ [y]) nD s12 hD s24
    refine RelL.snoc (fun i z e => mono _ _ i z st (mono _ _ i z (grow_old (grow_part gS nD s12)) (rl i z e))) ?_
    rw [ely]
    exact mono _ _ j y st r
end Kc
set_option Elab.async false
set_option linter.all false
set_option maxRecDepth 100000
set_option maxHeartbeats 4000000
namespace K1
open PySem PySem.Spec PyProof.Rows L2 Kb Kc
def top (i : Nat) : Stmt := PySem.Challenge.pw_trustsorted_k01_houses_as_they_are_told.main.body.getD i (.Pass ⟨0, 0, 0, 0⟩)
structure Bl (mg : Str → Option Value) : Prop where
  len : mg "len" = none
  int : mg "int" = none
  abs : mg "abs" = none
  list : mg "list" = none
  range : mg "range" = none
  max : mg "max" = none
  min : mg "min" = none
  isinstance : mg "isinstance" = none
  tuple : mg "tuple" = none
  bool : mg "bool" = none
  str : mg "str" = none
  any : mg "any" = none
  all : mg "all" = none
  enumerate : mg "enumerate" = none
  repr : mg "repr" = none
  set : mg "set" = none
  sorted : mg "sorted" = none
  sum : mg "sum" = none
/-- the texts and numbers that the top keeps -/
structure Gb (K : PySem.W.Frag) (mg : Str → Option Value) : Prop where
  LETTERS : ∃ t, mg "LETTERS" = some (.str "abcdefghijklmnopqrstuvwxyz" t)
  CAPITALS : ∃ t, mg "CAPITALS" = some (.str "ABCDEFGHIJKLMNOPQRSTUVWXYZ" t)
  FIGURES : ∃ t, mg "FIGURES" = some (.str "0123456789" t)
  OTHERS : ∃ a, mg "OTHERS" = some (.ref a) ∧ ∀ H, SqT K H a [.str "-", .str "_", .str "."]
  FACTS : ∃ a, mg "FACTS" = some (.ref a) ∧ ∀ H, SqT K H a [.str "<", .str "<=", .str "=", .str "!="]
  MOST_SIGNS : ∃ t, mg "MOST_SIGNS" = some (.int 8 t)
  MOST_FORMS : ∃ t, mg "MOST_FORMS" = some (.int 2 t)
  MOST_ITEMS : ∃ t, mg "MOST_ITEMS" = some (.int 6 t)
  MOST_RULES : ∃ t, mg "MOST_RULES" = some (.int 4 t)
  MOST_PASSES : ∃ t, mg "MOST_PASSES" = some (.int 3 t)
  MOST_FACTS : ∃ t, mg "MOST_FACTS" = some (.int 12 t)
/-- the signs that the law draws -/
def SG : List Str := ["a", "b", "A", "1", "2", "-", "B", "0", "z", "_", ".", "Z", "9"]
/-- its words -/
def WD : List Str := ["shell", "phone", "cloud", "known", "length", "of", "by", "a", "zzzzzzzz", "back", "ranks", "rule"]
abbrev s_is_sign : Stmt := top 18
theorem sc_is_sign : FnScope ["word"] ["word"] (defScope s_is_sign) := ⟨rfl, rfl, rfl, by decide +kernel, rfl, by decide +kernel, by decide +kernel⟩
abbrev s_is_word : Stmt := top 19
theorem sc_is_word : FnScope ["word", "letter"] ["word"] (defScope s_is_word) := ⟨rfl, rfl, rfl, by decide +kernel, rfl, by decide +kernel, by decide +kernel⟩
def spIsSign : Sp := fun vs H Q _ => ∃ s, vs = [.str s] ∧ s ∈ SG ∧ Q (.bl true) H
def spIsWord : Sp := fun vs H Q _ => ∃ s, vs = [.str s] ∧ s ∈ WD ∧ ∀ H', Same H H' → Q (.bl true) H'
theorem iteD {c A B : Prop} [Decidable c] (hc : c) (h : A) : if decide c = true then A else B := by
  rw [decide_eq_true hc]
  exact iteT h
theorem iteND {c A B : Prop} [Decidable c] (hc : c) (h : B) : if (!decide c) = true then A else B := by
  rw [decide_eq_true hc]
  exact iteF h
theorem iteNS {A B : Prop} {x y : V} (e : x = y) (h : B) : if (!decide (x = y)) = true then A else B := iteND e h
section
variable {P : Program} {w : World} {K : PySem.W.Frag} {mg : Str → Option Value} {base : Heap}
theorem sg_one : ∀ s ∈ SG, ∃ c, s = ⟨#[c]⟩ ∧ (decide (c ∈ ("abcdefghijklmnopqrstuvwxyz" : Str).cps.toList) || decide (c ∈ ("ABCDEFGHIJKLMNOPQRSTUVWXYZ" : Str).cps.toList) || decide (c ∈ ("0123456789" : Str).cps.toList) || inV (.str s) [.str "-", .str "_", .str "."]) = true := by
  intro s hs
  simp only [SG, List.mem_cons, List.not_mem_nil, or_false] at hs
  rcases hs with rfl | rfl | rfl | rfl | rfl | rfl | rfl | rfl | rfl | rfl | rfl | rfl | rfl <;> exact ⟨_, rfl, by decide +kernel⟩
theorem ok_is_sign {f : Addr} {fd : FuncData} (F : Fun K "is_sign" "is_sign" s_is_sign f fd) (B : Bl mg) (C : Gb K mg) : FnOk P w K mg base CX0 1 f fd ["word"] spIsSign := by
  obtain ⟨t1, gLETTERS⟩ := C.LETTERS
  obtain ⟨t2, gCAPITALS⟩ := C.CAPITALS
  obtain ⟨t3, gFIGURES⟩ := C.FIGURES
  obtain ⟨aO, gOTHERS, hO⟩ := C.OTHERS
  refine F.ok sc_is_sign (fun vs H Q E h => ?_) (fun cdv A outer s H vs Q E hr h => ?_)
  · obtain ⟨s, rfl, _⟩ := h
    rfl
  · obtain ⟨s, rfl, hs, k⟩ := h
    obtain ⟨c, rfl, h4⟩ := sg_one s hs
    refine ⟨_, (pss_cons (ps_if (pt_cmpR op_ne (pe_callB call_len_str (by rfl) B.len (by decide +kernel) (pa_cons (pv 0) pa_nil)) pe_int (nomark _))
        (pss_one (ps_ret pe_bl))
        pss_nil)
      (pss_one (ps_ret (pe_or (pe_cmpR op_in_sign (pv 0) (pe_glob (v := .str _) (by rfl) gLETTERS ⟨_, rfl⟩) rfl) (pe_or (pe_cmpR op_in_sign (pv 0) (pe_glob (v := .str _) (by rfl) gCAPITALS ⟨_, rfl⟩) rfl) (pe_or (pe_cmpR op_in_sign (pv 0) (pe_glob (v := .str _) (by rfl) gFIGURES ⟨_, rfl⟩) rfl) (pe_one (pe_cmpR op_in_seq (pv 0) (pe_glob (v := .ref aO) (by rfl) gOTHERS rfl) rfl)))))))), ?_⟩
    refine ⟨_, rfl, _, rfl, (by show 1 ≤ sizeLine; decide), rfl, _, rfl, iteF ?_⟩
    refine ⟨_, rfl, c, _, rfl, rfl, _, rfl, ?_⟩
    by_cases e1 : c ∈ ("abcdefghijklmnopqrstuvwxyz" : Str).cps.toList
    · rw [decide_eq_true e1]
      exact k
    rw [decide_eq_false e1]
    refine ⟨_, rfl, c, _, rfl, rfl, _, rfl, ?_⟩
    by_cases e2 : c ∈ ("ABCDEFGHIJKLMNOPQRSTUVWXYZ" : Str).cps.toList
    · rw [decide_eq_true e2]
      exact k
    rw [decide_eq_false e2]
    refine ⟨_, rfl, c, _, rfl, rfl, _, rfl, ?_⟩
    by_cases e3 : c ∈ ("0123456789" : Str).cps.toList
    · rw [decide_eq_true e3]
      exact k
    rw [decide_eq_false e3]
    refine ⟨_, rfl, aO, _, rfl, .inr (hO H), by rfl, by rfl, ?_⟩
    rw [decide_eq_false e1, decide_eq_false e2, decide_eq_false e3, Bool.false_or, Bool.false_or, Bool.false_or] at h4
    show Q (V.bl (inV _ _)) H
    rw [h4]
    exact k
theorem wd_one : ∀ s ∈ WD, (decide (1 ≤ s.length) && decide (s.length ≤ 8) && s.cps.toList.all fun c => decide (c ∈ ("abcdefghijklmnopqrstuvwxyz" : Str).cps.toList)) = true := by decide +kernel
def okB (b : Bool) : Hp → Nat → V → Prop := fun _ _ y => y = .bl b
theorem gname_mono (i : Nat) : ∀ (x : V) (σ : L2.St) (H : Hp) (P P' : L2.St → Hp → Prop), gName i x σ H P → (∀ σ2 H2, P σ2 H2 → P' σ2 H2) → gName i x σ H P' := fun _ _ _ _ _ h f => f _ _ h
theorem all_bl {b : Bool} {G : Hp} {ys : List V} (h : RelL (okB b) G ys) : ys = (List.replicate ys.length b).map V.bl := by
  refine List.ext_getElem? fun i => ?_
  by_cases lt : i < ys.length
  · rw [List.getElem?_eq_getElem lt, h i _ (List.getElem?_eq_getElem lt)]
    simp [List.getElem?_replicate, lt]
  · rw [List.getElem?_eq_none (by omega), List.getElem?_eq_none (by simpa using by omega)]
theorem ok_is_word {f : Addr} {fd : FuncData} (F : Fun K "is_word" "is_word" s_is_word f fd) (B : Bl mg) (C : Gb K mg) : FnOk P w K mg base CX0 1 f fd ["word"] spIsWord := by
  obtain ⟨t1, gLETTERS⟩ := C.LETTERS
  refine F.ok sc_is_word (fun vs H Q E h => ?_) (fun cdv A outer s H vs Q E hr h => ?_)
  · obtain ⟨s, rfl, _⟩ := h
    rfl
  · obtain ⟨z, rfl, hz, k⟩ := h
    have hw := wd_one z hz
    simp only [Bool.and_eq_true, decide_eq_true_eq, List.all_eq_true] at hw
    obtain ⟨⟨l1, l8⟩, hc⟩ := hw
    have hl : z.length ≤ sizeLine := Nat.le_trans l8 (by decide)
    refine ⟨_, (pss_one (ps_ret (pe_and (pe_chain op_le op_le pe_int (pe_callB call_len_str (by rfl) B.len (by decide +kernel) (pa_cons (pv 0) pa_nil)) pe_int) (pe_one (pe_callB (cr_all rfl) (by rfl) B.all (by decide +kernel) (pa_cons (pe_lc (own := [("letter", 1)]) (g := gName 1) (tt := tYes) rfl sc_is_word.nd (pi_str (pv 0)) (blkOk_by (own := [("letter", 1)]) (N := ["word", "letter"]) (sc := defScope s_is_word) (by decide +kernel)) (fun _ _ _ _ _ => (pg_name (i := 1) sc_is_word.nd rfl (Or.inl rfl))) (fun _ _ _ _ _ => pts_nil) (fun _ _ _ _ _ => (pe_cmpR op_in_sign (pv 1) (pe_glob (v := .str _) (by rfl) gLETTERS ⟨_, rfl⟩) rfl))) pa_nil)))))), ?_⟩
    refine ⟨_, rfl, _, rfl, hl, _, _, rfl, rfl, _, rfl, iteD (by omega) ⟨_, _, rfl, rfl, _, rfl, iteD (by omega) ?_⟩⟩
    refine ⟨_, rfl, _, rfl, fun D hD => lc_mapS (okB true) (fun _ _ _ _ _ h => h) (Same.refl H) hD (Nat.lt_of_le_of_lt l8 (by decide)) (fun j x s H2 G2 Q2 ⟨hj, ex⟩ _ _ _ k2 => ?_) (gname_mono 1) fun H' ys sm hy hl rl => ?_⟩
    · subst ex
      obtain ⟨c, hc2, rfl⟩ : ∃ c, c ∈ z.cps.toList ∧ s = ⟨#[c]⟩ := by
        have m := List.mem_of_getElem? hj
        obtain ⟨c, h1, h2⟩ := List.mem_map.mp m
        exact ⟨c, h1, h2.symm⟩
      refine ⟨rfl, _, rfl, c, _, rfl, rfl, ?_⟩
      rw [decide_eq_true (hc c hc2)]
      exact k2 _ _ (Same.refl _) rfl
    · have e := all_bl rl
      refine ⟨D, List.replicate ys.length true, rfl, .of (by rw [← e]; exact hy), ?_⟩
      have ha : (List.replicate ys.length true).all id = true := by simp
      rw [ha]
      exact k H' sm
end
end K1
set_option Elab.async false
set_option linter.all false
set_option maxRecDepth 100000
set_option maxHeartbeats 4000000
namespace K1
open PySem PySem.Spec PyProof.Rows L2 Kb Kc
def SgOk (sg : List Str) : Prop := sg ≠ [] ∧ sg.length ≤ 8 ∧ sg.Nodup ∧ ∀ s ∈ sg, s ∈ SG
/-- texts that hold no sign c -/
theorem sp_eq : (" " : Str) = ⟨#[32]⟩ := by decide +kernel
theorem nl_eq : ("\n" : Str) = ⟨#[10]⟩ := by decide +kernel
theorem sg_len : ∀ s ∈ SG, s.length = 1 := by decide +kernel
theorem sg_free : ∀ s ∈ SG, free 32 s ∧ free 10 s ∧ free 61 s := by
  intro s hs
  have h : (SG.all fun s => decide (¬ 32 ∈ s.cps.toList) && decide (¬ 10 ∈ s.cps.toList) && decide (¬ 61 ∈ s.cps.toList)) = true := by decide +kernel
  have := List.all_eq_true.mp h s hs
  simp only [Bool.and_eq_true, decide_eq_true_eq] at this
  exact ⟨this.1.1, this.1.2, this.2⟩
theorem sum_le {m : Nat} : ∀ {ws : List Str}, (∀ w ∈ ws, w.length ≤ m) → (ws.map (·.length)).sum ≤ ws.length * m
  | [], _ => Nat.zero_le _
  | w :: r, h => by
    have a := h w (.head _)
    have b := sum_le (ws := r) fun x hx => h x (.tail _ hx)
    simp only [List.map_cons, List.sum_cons, List.length_cons, Nat.add_mul]
    omega
theorem join_small {sep : Str} {ws : List Str} {m n : Nat} (h : ∀ w ∈ ws, w.length ≤ m) (hn : ws.length ≤ n) : (sep.join ws).length ≤ n * (m + sep.length) := by
  refine Nat.le_trans (StrLaws.join_length_le sep ws) ?_
  have a := sum_le h
  have b := Nat.mul_le_mul_right (m + sep.length) hn
  rw [Nat.mul_add] at b
  omega
theorem cut_from {x : V} {r : List V} : cutV (x :: r) (some 1) none = r := by
  simp [cutV, HT.sIx]
theorem sp_split {ws : List Str} (h : ws ≠ []) (hf : ∀ w ∈ ws, free 32 w) : Txt.split ((" " : Str).join ws) " " = ws := by
  rw [sp_eq]
  exact split_join h hf
def signsLine (sg : List Str) : Str := (" " : Str).join ("signs" :: sg)
/-- the tuple of the signs, a built-in tuple without a dict of its own -/
def SgT (H : Hp) (a : Addr) (sg : List Str) : Prop := ∃ o : Obj, o.cls = .type "tuple" ∧ o.dict = none ∧ H a = some (.frz o (.tup (sg.map V.str)))
theorem SgT.same {H H' : Hp} {a : Addr} {sg : List Str} (s : Same H H') (h : SgT H a sg) : SgT H' a sg := by
  obtain ⟨o, h1, h2, e⟩ := h
  exact ⟨o, h1, h2, s _ _ e⟩
theorem SgT.sq {K : PySem.W.Frag} {H : Hp} {a : Addr} {sg : List Str} (h : SgT H a sg) : SqT K H a (sg.map V.str) := by
  obtain ⟨o, _, _, e⟩ := h
  exact .inl (.inr ⟨o, e⟩)
/-- tuple(list): the new tuple's object is known -/
def kTupF (K : PySem.W.Frag) (x : V) (H : Hp) (Q : VK) : Prop := ∃ p xs, x = .ref p ∧ SqL K H p xs ∧ ∀ q (o : Obj), H q = none → o.cls = .type "tuple" → o.dict = none → Q (.ref q) (upd H q (.frz o (.tup xs)))
theorem pe_tupleOfF {X : Cx} {a : Expr} {ta : TE} {p pos : Pos} (hg : Gl X "tuple") (hm : X.mg "tuple" = none) (ha : PE X a ta) (na : starEach [a] X.env = (false, eval a X.env) :: starEach [] X.env := by rfl) :
    PE X (.Call (.Name "tuple" p) [a] [] pos) (tThen ta (kTupF X.K)) := by
  refine ⟨fun pins s σ H Q I h => ?_⟩
  refine Call_ (ld_blt I hg hm boot_tuple (PyProof.Rows.callWith_type1 (one_arg ha I h (fun v s2 x H2 I2 r q => ?_) na) na))
  obtain ⟨p, xs, rfl, hs, q⟩ := q
  obtain rfl : v = .ref p := r
  obtain ⟨its, rv, pl, hz⟩ := I2.list hs
  refine call_tuple_list pl.isList (fun h' hk => ?_) (by rw [List.size_toArray, ← rv.length]; exact hz)
  have I1 : Inv X pins σ H2 { s2 with heap := h' } := I2.kept (t' := s2.toks) hk
  have I3 : Inv X pins σ (upd H2 h'.objs.size (.frz { cls := .type "tuple", data := .seq its.toArray } (.tup xs))) { s2 with heap := h'.push { cls := .type "tuple", data := .seq its.toArray } } :=
    I1.laid (t' := s2.toks) (fun b o e => Heap.get?_push_of_some _ e) (Nat.le_refl _) (show ObjOk X.prog X.w _ _ _ (.frz _ (.tup xs)) from ⟨Heap.get?_push_size _ rfl, hz, its, rv, IsTup.new _ _⟩)
  exact ⟨.ref h'.objs.size, _, I3, rfl, q _ _ (I1.hok.fresh (Nat.le_refl _)) rfl rfl⟩
/-- a method of such a tuple -/
def tBMF (r : V → List V → Hp → VK → Prop) (to : TE) (t : TA) : TE := fun σ H Q => to σ H fun x H1 => (∃ (p : Addr) (o : Obj) (u : HO), x = .ref p ∧ H1 p = some (.frz o u) ∧ o.cls = .type "tuple" ∧ o.dict = none) ∧ t σ H1 fun xs H2 => r x xs H2 Q
theorem pe_bmF {X : Cx} {o e : Expr} {es : List Expr} {to : TE} {t : TA} {name : Str} {apos cpos : Pos} {id : String} {r : V → List V → Hp → VK → Prop} (pa : PlainAttrs "tuple") (slot : Slot "tuple" name id) (hty : typeOf (.builtin id) = pure (.type "method_descriptor")) (hm : MtR X id r) (ho : PE X o to) (ha : PA X (e :: es) t)
    (hbase : attributeBase o name X.env (eval o X.env) = eval o X.env := by rfl)
    (hfew : ((backTo cpos (starEach (e :: es) X.env)).all (fun x => !x.1) && (backToKw cpos (keywordEach [] X.env)).all (fun x => x.1.isSome)
      && decide ((e :: es).length + ([] : List Keyword).length + (if ([] : List Keyword).isEmpty then 0 else 1) < 30)) = true := by rfl)
    (hline : (apos.endLine == cpos.line) = true := by rfl) (hs : starEach (e :: es) X.env = (false, eval e X.env) :: starEach es X.env := by rfl) (hplain : (backTo cpos (starEach es X.env)).any (·.1) = false := by rfl) :
    PE X (.Call (.Attribute o name apos) (e :: es) [] cpos) (tBMF r to t) := by
  refine ⟨fun pins s σ H Q I h => ?_⟩
  refine wpAny_Call_method_late hbase hfew hline rfl (thn (ho.run pins s σ H _ I h) fun v s1 ⟨x, H1, I1, r1, ⟨p, ob, u, ex, hp, oc, od⟩, q1⟩ => ?_)
  subst ex
  obtain rfl : v = .ref p := r1
  obtain ⟨hg, _⟩ := I1.hok p _ hp
  refine ⟨"tuple", id, pa, slot, hty, ⟨ob, hg, oc⟩, fun a ea => ?_, ?_⟩
  · cases ea
    exact ⟨ob, hg, od⟩
  have hA := ha.run cpos pins s1 σ H1 _ I1 q1
  rw [hs] at hA ⊢
  refine Calls.callWith_builtin (by show (false || (backTo cpos (starEach es X.env)).any (·.1)) = false; rw [hplain] <;> rfl) (Calls.evalArgs_plain ?_)
  exact thn hA fun us s2 ⟨vs, H2, I2, r2, q2⟩ => hm pins s2 σ H2 (.ref p) vs (.ref p) us Q I2 rfl r2 q2
abbrev s_read_signs : Stmt := top 36
theorem sc_read_signs : FnScope ["line", "words", "signs", "sign"] ["line"] (defScope s_read_signs) := ⟨rfl, rfl, rfl, by decide +kernel, rfl, by decide +kernel, by decide +kernel⟩
def spReadSigns : Sp := fun vs H Q _ => ∃ sg, vs = [.str (signsLine sg)] ∧ SgOk sg ∧ ∀ H' a, Same H H' → H a = none → SgT H' a sg → Q (.ref a) H'
section
variable {P : Program} {w : World} {K : PySem.W.Frag} {mg : Str → Option Value} {base : Heap}
theorem ok_read_signs {f fis_sign : Addr} {fd fdis_sign : FuncData} (F : Fun K "read_signs" "read_signs" s_read_signs f fd) (B : Bl mg) (C : Gb K mg)
    (Fis_sign : Fun K "is_sign" "is_sign" s_is_sign fis_sign fdis_sign) (bis_sign : Binds K fdis_sign ["word"] []) (gis_sign : mg "is_sign" = some (.ref fis_sign)) : FnOk P w K mg base CX0 2 f fd ["line"] spReadSigns := by
  have Gis_sign : FnOk P w K mg base CX0 1 fis_sign fdis_sign ["word"] spIsSign := ok_is_sign Fis_sign B C
  obtain ⟨t1, gMOST_SIGNS⟩ := C.MOST_SIGNS
  refine F.ok sc_read_signs (fun vs H Q E h => ?_) (fun cdv A outer s H vs Q E hr h => ?_)
  · obtain ⟨sg, rfl, _⟩ := h
    rfl
  · obtain ⟨sg, rfl, ⟨ne, l8, nd, hs⟩, k⟩ := h
    have hf : ∀ w ∈ (("signs" : Str) :: sg), free 32 w := by
      intro w hw
      rcases List.mem_cons.mp hw with rfl | m
      · show ¬ 32 ∈ ("signs" : Str).cps.toList
        decide +kernel
      · exact (sg_free w (hs w m)).1
    have hl : (signsLine sg).length ≤ 9 * (5 + 1) := by
      refine join_small (sep := " ") (m := 5) (n := 9) (fun w hw => ?_) (by rw [List.length_cons]; omega)
      rcases List.mem_cons.mp hw with rfl | m
      · decide +kernel
      · rw [sg_len w (hs w m)]
        decide
    have es : Txt.split (signsLine sg) " " = ("signs" : Str) :: sg := sp_split (by simp) hf
    refine ⟨_, (pss_cons (ps_set (i := 1) sc_read_signs.nd rfl (Or.inl rfl) (pe_split (pv 0) pe_str))
      (pss_cons (ps_set (i := 2) sc_read_signs.nd rfl (Or.inl rfl) (pe_tupleOfF (by rfl) B.tuple (pe_slice sl_list (pv 1) (po_some pe_int) po_none)))
      (pss_cons (ps_if (PW.pt (pw_or (pt_cmpR op_ne (pe_ix ix_list (pv 1) pe_int (fun _ _ => rfl)) pe_str (nomark _)) (pw_or1 (pt_not (pt_chain op_le op_le pe_int (pe_callB call_len_seq (by rfl) B.len (by decide +kernel) (pa_cons (pv 2) pa_nil)) (pe_glob (v := .int _) (by rfl) gMOST_SIGNS ⟨_, rfl⟩))))))
        (pss_one (ps_ret pe_non))
        pss_nil)
      (pss_cons (ps_if (PW.pt (pw_or (pt_not (pt_val (pe_callB (cr_all rfl) (by rfl) B.all (by decide +kernel) (pa_cons (pe_lc (own := [("sign", 3)]) (g := gName 3) (tt := tYes) rfl sc_read_signs.nd (pi_tup (pv 2)) (blkOk_by (own := [("sign", 3)]) (N := ["line", "words", "signs", "sign"]) (sc := defScope s_read_signs) (by decide +kernel)) (fun _ _ _ _ _ => (pg_name (i := 3) sc_read_signs.nd rfl (Or.inl rfl))) (fun _ _ _ _ _ => pts_nil) (fun _ _ _ _ _ => (pe_call Gis_sign hr (by rfl) gis_sign Fis_sign.kp bis_sign .nil pass0 (pa_cons (pv 3) pa_nil)))) pa_nil)))) (pw_or1 (pt_cmpR op_lt (pe_callB call_lenS (by rfl) B.len (by decide +kernel) (pa_cons (pe_callTy (call_setS rfl) (by rfl) B.set (by decide +kernel) (pa_cons (pv 2) pa_nil)) pa_nil)) (pe_callB call_len_seq (by rfl) B.len (by decide +kernel) (pa_cons (pv 2) pa_nil)) (nomark _)))))
        (pss_one (ps_ret pe_non))
        pss_nil)
      (pss_one (ps_ret (pv 2))))))), ?_⟩
    refine ⟨_, rfl, ⟨_, rfl⟩, _, _, rfl, rfl, by decide +kernel, Nat.le_trans (Nat.add_le_add_right hl 2) (by decide), fun p hp => ?_⟩
    rw [es]
    have e1 : (upd H p (.lst (((("signs" : Str) :: sg)).map V.str))) p = some (.lst (((("signs" : Str) :: sg)).map V.str)) := upd_same
    have S1 : Same H (upd H p (.lst (((("signs" : Str) :: sg)).map V.str))) := Kb.same_upd hp
    obtain ⟨J1, q1⟩ : ∃ z, z = upd H p (.lst (((("signs" : Str) :: sg)).map V.str)) := ⟨_, rfl⟩
    rw [← q1] at e1 S1 ⊢
    refine ⟨_, rfl, _, rfl, p, _, rfl, .of e1, fun p2 hp2 => ⟨p2, _, rfl, .of upd_same, fun a o ha oc od => ?_⟩⟩
    rw [show ((("signs" : Str) :: sg)).map V.str = V.str "signs" :: sg.map V.str from rfl, cut_from] at ha ⊢
    have ea : SgT (upd (upd J1 p2 (HO.lst (List.map V.str sg))) a (HO.frz o (HO.tup (List.map V.str sg)))) a sg := ⟨o, oc, od, upd_same⟩
    have S2 : Same J1 (upd (upd J1 p2 (HO.lst (List.map V.str sg))) a (HO.frz o (HO.tup (List.map V.str sg)))) := Same.trans (Kb.same_upd hp2) (Kb.same_upd ha)
    have na : H a = none := (Same.trans S1 (Kb.same_upd hp2)).free ha
    obtain ⟨J2, q2⟩ : ∃ z, z = (upd (upd J1 p2 (HO.lst (List.map V.str sg))) a (HO.frz o (HO.tup (List.map V.str sg)))) := ⟨_, rfl⟩
    rw [← q2] at ea S2 ⊢
    have S3 : Same H J2 := Same.trans S1 S2
    have l1 : 1 ≤ sg.length := by
      cases sg with
      | nil => exact absurd rfl ne
      | cons => simp
    refine ⟨_, rfl, p, _, _, _, rfl, rfl, .of (S2 _ _ e1), atI_nat' (by decide) (by rfl), rfl, _, rfl, iteNS rfl ?_⟩
    refine ⟨_, rfl, a, _, rfl, .inr ea.sq, _, _, rfl, rfl, _, rfl, iteD (by rw [List.length_map]; omega) ⟨_, _, rfl, rfl, _, rfl, iteND (by rw [List.length_map]; omega) ?_⟩⟩
    refine ⟨_, rfl, a, rfl, ⟨_, ea.sq⟩, fun D hD => lc_mapT (okB true) (fun _ _ _ _ _ h => h) (Same.refl J2) hD ea.sq (by rw [List.length_map]; exact Nat.lt_of_le_of_lt l8 (by decide)) (fun j x H2 G2 Q2 hj _ _ _ k2 => ?_) (gname_mono 3) fun H3 ys s23 hy hl2 rl => ?_⟩
    · obtain ⟨s, hs', rfl⟩ : ∃ s, s ∈ sg ∧ x = V.str s := by
        rw [List.getElem?_map] at hj
        cases e : sg[j]? with
        | none =>
          rw [e] at hj
          cases hj
        | some s =>
          rw [e] at hj
          exact ⟨s, List.mem_of_getElem? e, (Option.some.inj hj).symm⟩
      exact ⟨rfl, _, rfl, s, rfl, hs s hs', k2 _ _ (Same.refl _) rfl⟩
    · have e := all_bl rl
      refine ⟨D, List.replicate ys.length true, rfl, .of (by rw [← e]; exact hy), ?_⟩
      have hall : (List.replicate ys.length true).all id = true := by simp
      rw [hall]
      refine ⟨_, rfl, iteF ?_⟩
      have ea3 := ea.same s23
      refine ⟨_, rfl, sg, .inl ⟨a, rfl, .inr ea3.sq⟩, nd, by omega, fun q hq => ⟨q, _, rfl, upd_same, by omega, ?_⟩⟩
      refine ⟨_, rfl, a, _, rfl, .inr (ea3.same (Kb.same_upd hq)).sq, _, _, rfl, rfl, _, rfl, ?_⟩
      rw [List.length_map, decide_eq_false (by omega)]
      refine iteF ⟨_, rfl, ?_⟩
      exact k _ a (Same.trans S3 (Same.trans s23 (Kb.same_upd hq))) na (ea3.same (Kb.same_upd hq))
end
end K1
set_option Elab.async false
set_option linter.all false
set_option maxRecDepth 100000
set_option maxHeartbeats 4000000
namespace K1
open PySem PySem.Spec PyProof.Rows L2 Kb Kc
def cat (ss : List Str) : Str := ⟨(ss.flatMap fun s => s.cps.toList).toArray⟩
def MK : List Str := ["", "?", "+", "*"]
def ItemOk (sg ss : List Str) (m : Str) : Prop := ss ≠ [] ∧ ss.Nodup ∧ (∀ s ∈ ss, s ∈ sg) ∧ m ∈ MK
theorem cut_last (l : List Nat) (c : Nat) : cutS ⟨(l ++ [c]).toArray⟩ (some (-1)) none = ⟨#[c]⟩ := by
  have e : HT.sIx (Str.length ⟨(l ++ [c]).toArray⟩) 0 (some (-1)) = l.length := by
    show (-1 + ((Str.length ⟨(l ++ [c]).toArray⟩ : Nat) : Int)).toNat = l.length
    have : Str.length ⟨(l ++ [c]).toArray⟩ = l.length + 1 := by simp [Str.length]
    rw [this]
    omega
  have e2 : HT.sIx (Str.length ⟨(l ++ [c]).toArray⟩) (Str.length ⟨(l ++ [c]).toArray⟩) none = l.length + 1 := by
    show Str.length ⟨(l ++ [c]).toArray⟩ = l.length + 1
    simp [Str.length]
  unfold cutS
  rw [e, e2]
  simp
theorem cut_init (l : List Nat) (c : Nat) : cutS ⟨(l ++ [c]).toArray⟩ none (some (-1)) = ⟨l.toArray⟩ := by
  have e : HT.sIx (Str.length ⟨(l ++ [c]).toArray⟩) (Str.length ⟨(l ++ [c]).toArray⟩) (some (-1)) = l.length := by
    show (-1 + ((Str.length ⟨(l ++ [c]).toArray⟩ : Nat) : Int)).toNat = l.length
    have : Str.length ⟨(l ++ [c]).toArray⟩ = l.length + 1 := by simp [Str.length]
    rw [this]
    omega
  have e2 : HT.sIx (Str.length ⟨(l ++ [c]).toArray⟩) 0 none = 0 := rfl
  unfold cutS
  rw [e, e2]
  simp
theorem signs_cat : ∀ {ss : List Str}, (∀ s ∈ ss, s ∈ SG) → signsOf (cat ss) = ss
  | [], _ => rfl
  | s :: r, h => by
    obtain ⟨c, rfl, _⟩ := sg_one s (h s (.head _))
    have ih := signs_cat (ss := r) fun x hx => h x (.tail _ hx)
    unfold signsOf cat at ih ⊢
    simp only [List.flatMap_cons, List.map_append, List.toList_toArray] at ih ⊢
    rw [ih]
    rfl
theorem cat_len {ss : List Str} (h : ∀ s ∈ ss, s ∈ SG) : (cat ss).length = ss.length := by
  have := congrArg List.length (signs_cat h)
  simpa [signsOf, Str.length] using this
theorem cat_snoc (ss : List Str) (c : Nat) : cat (ss ++ [⟨#[c]⟩]) = ⟨((ss.flatMap fun s => s.cps.toList) ++ [c]).toArray⟩ := by
  simp [cat]
theorem list_snoc {α : Type} : ∀ {l : List α}, l ≠ [] → ∃ i x, l = i ++ [x]
  | [], h => absurd rfl h
  | [x], _ => ⟨[], x, rfl⟩
  | x :: y :: r, _ => by
    obtain ⟨i, z, e⟩ := list_snoc (l := y :: r) (by simp)
    exact ⟨x :: i, z, by rw [e]; rfl⟩
theorem sg_nomark : ∀ s ∈ SG, inV (.str s) [.str "?", .str "+", .str "*"] = false := by decide +kernel
/-- word[-1:], word[:-1] of an item's word -/
theorem item_ends {ss : List Str} {m : Str} (ne : ss ≠ []) (h : ∀ s ∈ ss, s ∈ SG) (hm : m ∈ MK) :
    (m = "" ∧ ∃ s ∈ SG, cutS (cat ss ++ m) (some (-1)) none = s) ∨ (inV (.str m) [.str "?", .str "+", .str "*"] = true ∧ cutS (cat ss ++ m) (some (-1)) none = m ∧ cutS (cat ss ++ m) none (some (-1)) = cat ss) := by
  simp only [MK, List.mem_cons, List.not_mem_nil, or_false] at hm
  have key : ∀ c : Nat, cat ss ++ (⟨#[c]⟩ : Str) = ⟨((ss.flatMap fun s => s.cps.toList) ++ [c]).toArray⟩ := fun c => by
    show (Str.mk _) = _
    simp [cat]
  rcases hm with rfl | rfl | rfl | rfl
  · left
    obtain ⟨i, x, rfl⟩ := list_snoc ne
    have hx := h x (by simp)
    obtain ⟨c, rfl, _⟩ := sg_one x hx
    refine ⟨rfl, _, hx, ?_⟩
    have e : cat (i ++ [⟨#[c]⟩]) ++ ("" : Str) = cat (i ++ [⟨#[c]⟩]) := by
      apply str_ext
      show ((cat (i ++ [⟨#[c]⟩])).cps ++ ("" : Str).cps).toList = _
      have z : ("" : Str).cps = #[] := by decide +kernel
      rw [z]
      simp
    rw [e, cat_snoc]
    exact cut_last _ _
  all_goals right
  · have e : ("?" : Str) = ⟨#[63]⟩ := by decide +kernel
    refine ⟨by decide +kernel, ?_, ?_⟩
    · rw [e, key]
      exact cut_last _ _
    · rw [e, key]
      exact cut_init _ _
  · have e : ("+" : Str) = ⟨#[43]⟩ := by decide +kernel
    refine ⟨by decide +kernel, ?_, ?_⟩
    · rw [e, key]
      exact cut_last _ _
    · rw [e, key]
      exact cut_init _ _
  · have e : ("*" : Str) = ⟨#[42]⟩ := by decide +kernel
    refine ⟨by decide +kernel, ?_, ?_⟩
    · rw [e, key]
      exact cut_last _ _
    · rw [e, key]
      exact cut_init _ _
abbrev s_read_item : Stmt := top 6
theorem sc_read_item : FnScope ["word", "signs", "body", "mark", "sign"] ["word", "signs"] (defScope s_read_item) := ⟨rfl, rfl, rfl, by decide +kernel, rfl, by decide +kernel, by decide +kernel⟩
def isItem (K : PySem.W.Frag) (H : Hp) (y : V) : Prop := ∃ (t : Addr) (b m : Str), y = .ref t ∧ SqT K H t [.str b, .str m]
def spReadItem (K : PySem.W.Frag) : Sp := fun vs H Q _ => ∃ ss m sg a, vs = [.str (cat ss ++ m), .ref a] ∧ SqT K H a (sg.map V.str) ∧ SgOk sg ∧ ItemOk sg ss m ∧ ∀ H' t b m', Same H H' → H t = none → H' t = some (.tup [.str b, .str m']) → Q (.ref t) H'
theorem nodup_sub : ∀ {xs ys : List Str}, xs.Nodup → (∀ x ∈ xs, x ∈ ys) → xs.length ≤ ys.length
  | [], _, _, _ => Nat.zero_le _
  | x :: r, ys, nd, h => by
    have m := h x (.head _)
    have nd' := List.nodup_cons.mp nd
    have := nodup_sub (ys := ys.erase x) nd'.2 fun y hy => (List.mem_erase_of_ne (fun z => nd'.1 (by rw [← z]; exact hy))).mpr (h y (.tail _ hy))
    rw [List.length_erase_of_mem m] at this
    have pos : 0 < ys.length := List.length_pos_of_mem m
    rw [List.length_cons]
    omega
theorem mk_len : ∀ m ∈ MK, m.length ≤ 1 := by decide +kernel
theorem op_nsK {X : Cx} {K : PySem.W.Frag} (h : X.K = K) : OpR X (compareOp .NotIn) (rIn K true) := h ▸ op_notIn_seq
theorem op_isK {X : Cx} {K : PySem.W.Frag} (h : X.K = K) : OpR X (compareOp .In) (rIn K false) := h ▸ op_in_seq
section
variable {P : Program} {w : World} {K : PySem.W.Frag} {mg : Str → Option Value} {base : Heap}
theorem in_sg {sg : List Str} {s : Str} (h : s ∈ sg) : inV (.str s) (sg.map V.str) = true := by
  unfold inV
  rw [List.any_eq_true]
  exact ⟨V.str s, List.mem_map.mpr ⟨s, h, rfl⟩, by simp [eqV]⟩
theorem flat_sg (sg : List Str) : (sg.map V.str).all flatV = true := by
  rw [List.all_eq_true]
  intro x hx
  obtain ⟨s, _, rfl⟩ := List.mem_map.mp hx
  rfl
theorem ok_read_item {f : Addr} {fd : FuncData} (F : Fun K "read_item" "read_item" s_read_item f fd) (B : Bl mg) : FnOk P w K mg base CX0 1 f fd ["word", "signs"] (spReadItem K) := by
  refine F.ok sc_read_item (fun vs H Q E h => ?_) (fun cdv A outer s H vs Q E hr h => ?_)
  · obtain ⟨ss, m, sg, a, rfl, _⟩ := h
    rfl
  · obtain ⟨ss, m, sg, a, rfl, hS, ⟨gne, g8, gnd, gs⟩, ⟨ne, nd, hs, hm⟩, k⟩ := h
    have hG : ∀ s ∈ ss, s ∈ SG := fun s h => gs s (hs s h)
    refine ⟨_, (pss_cons (ps_par (i := 2) (j := 3) (by rfl) sc_read_item.nd rfl rfl (by decide) rfl rfl (pa_cons (pv 0) (pa_cons pe_str pa_nil)) (by rfl))
      (pss_cons (ps_if (pt_cmpR op_in_seq (pe_slice sl_str (pv 0) (po_some (pe_un un_neg pe_int)) po_none) (pe_tup (pa_cons pe_str (pa_cons pe_str (pa_cons pe_str pa_nil)))) rfl)
        (pss_one (ps_par (i := 2) (j := 3) (by rfl) sc_read_item.nd rfl rfl (by decide) rfl rfl (pa_cons (pe_slice sl_str (pv 0) po_none (po_some (pe_un un_neg pe_int))) (pa_cons (pe_slice sl_str (pv 0) (po_some (pe_un un_neg pe_int)) po_none) pa_nil)) (by rfl)))
        pss_nil)
      (pss_cons (ps_if (PW.pt (pw_or (pt_not (pt_truth (pv 2) (by intro _; rfl))) (pw_or1 (pt_val (pe_callB (cr_any rfl) (by rfl) B.any (by decide +kernel) (pa_cons (pe_lc (own := [("sign", 4)]) (g := gName 4) (tt := tYes) rfl sc_read_item.nd (pi_str (pv 2)) (blkOk_by (own := [("sign", 4)]) (N := ["word", "signs", "body", "mark", "sign"]) (sc := defScope s_read_item) (by decide +kernel)) (fun _ _ _ _ _ => (pg_name (i := 4) sc_read_item.nd rfl (Or.inl rfl))) (fun _ _ _ _ _ => pts_nil) (fun _ _ _ _ _ => (pe_cmpR (op_nsK (K := K) rfl) (pv 4) (pv 1) rfl))) pa_nil))))))
        (pss_one (ps_ret pe_non))
        pss_nil)
      (pss_cons (ps_if (pt_cmpR op_lt (pe_callB call_lenS (by rfl) B.len (by decide +kernel) (pa_cons (pe_callTy (call_setS rfl) (by rfl) B.set (by decide +kernel) (pa_cons (pv 2) pa_nil)) pa_nil)) (pe_callB call_len_str (by rfl) B.len (by decide +kernel) (pa_cons (pv 2) pa_nil)) (nomark _))
        (pss_one (ps_ret pe_non))
        pss_nil)
      (pss_one (ps_ret (pe_tup (pa_cons (pv 2) (pa_cons (pv 3) pa_nil))))))))), ?_⟩
    have hlen : (cat ss).length = ss.length := cat_len hG
    have l8 : ss.length ≤ 8 := Nat.le_trans (nodup_sub nd hs) g8
    have hm1 : m.length ≤ 1 := mk_len m hm
    have hb1 : (cat ss ++ m).length ≤ sizeLine := by
      have e : (cat ss ++ m).length = (cat ss).length + m.length := Array.size_append ..
      rw [e, hlen]
      exact Nat.le_trans (show ss.length + m.length ≤ 9 by omega) (by decide)
    have l1 : 1 ≤ ss.length := by
      cases ss with
      | nil => exact absurd rfl ne
      | cons => simp
    refine ⟨_, rfl, _, _, rfl, ?_⟩
    refine ⟨_, rfl, _, rfl, _, rfl, _, rfl, hb1, (by show 3 ≤ sizeLine; decide), fun t ht => ⟨t, _, rfl, .inr (.of upd_same), rfl, by rfl, _, rfl, ?_⟩⟩
    rcases item_ends ne hG hm with ⟨rfl, x, hx, e1⟩ | ⟨e0, e1, e2⟩
    · have eI : inV (V.str (cutS (cat ss ++ ("" : Str)) (some (-1)) none)) [.str "?", .str "+", .str "*"] = false := by rw [e1]; exact sg_nomark x hx
      show if inV (V.str (cutS (cat ss ++ ("" : Str)) (some (-1)) none)) [.str "?", .str "+", .str "*"] = true then _ else _
      rw [eI]
      refine iteF ?_
      have ec : cat ss ++ ("" : Str) = cat ss := by
        apply str_ext
        show ((cat ss).cps ++ ("" : Str).cps).toList = _
        have z : ("" : Str).cps = #[] := by decide +kernel
        rw [z]
        simp
      rw [ec]
      have Sx : Same H (upd H t (.tup [.str "?", .str "+", .str "*"])) := Kb.same_upd ht
      obtain ⟨J, qJ⟩ : ∃ z, z = upd H t (.tup [.str "?", .str "+", .str "*"]) := ⟨_, rfl⟩
      rw [← qJ] at Sx ⊢
      refine ⟨_, rfl, _, ⟨Nat.le_trans (by rw [hlen]; exact l8) (by decide), rfl⟩, ?_⟩
      have nz : (((cat ss).length : Int) != 0) = true := by
        rw [hlen]
        simp only [bne_iff_ne, ne_eq]
        omega
      rw [nz]
      refine iteF ?_
      refine ⟨_, rfl, _, rfl, fun D hD => lc_mapS (okB false) (fun _ _ _ _ _ h => h) (Same.refl J) hD (Nat.lt_of_le_of_lt (Nat.le_of_eq hlen) (Nat.lt_of_le_of_lt l8 (by decide))) (fun j x s H2 G2 Q2 ⟨hj, ex⟩ s12 _ _ k2 => ?_) (gname_mono 4) fun H' ys sm hy hl rl => ?_⟩
      · subst ex
        have hm2 : s ∈ ss := by
          rw [signs_cat hG] at hj
          exact List.mem_of_getElem? hj
        refine ⟨rfl, _, rfl, _, rfl, a, _, rfl, .inr (Kb.Same.seqT s12 (Kb.Same.seqT Sx hS)), rfl, flat_sg sg, ?_⟩
        have e : (!inV (V.str s) (sg.map V.str)) = false := by rw [in_sg (hs s hm2)]; rfl
        show Q2 (V.bl (!inV (V.str s) (sg.map V.str))) H2
        rw [e]
        exact k2 _ _ (Same.refl _) rfl
      · have e := all_bl rl
        refine ⟨D, List.replicate ys.length false, rfl, .of (by rw [← e]; exact hy), ?_⟩
        have hany : (List.replicate ys.length false).any id = false := by simp
        rw [hany]
        refine ⟨_, rfl, iteF ?_⟩
        refine ⟨_, rfl, ss, .inr ⟨_, rfl, (signs_cat hG).symm⟩, nd, by omega, fun q hq => ⟨q, _, rfl, upd_same, by omega, ?_⟩⟩
        refine ⟨_, rfl, _, rfl, Nat.le_trans (by rw [hlen]; exact l8) (by decide), _, _, rfl, rfl, _, rfl, ?_⟩
        rw [hlen, decide_eq_false (by omega)]
        refine iteF ⟨_, rfl, _, rfl, (by show 2 ≤ sizeLine; decide), fun t2 ht2 => ?_⟩
        have S5 : Same H (upd H' q (SetS P w q ss.length)) := Same.trans Sx (Same.trans sm (Kb.same_upd hq))
        exact k _ t2 _ _ (Same.trans S5 (Kb.same_upd ht2)) (S5.free ht2) upd_same
    · have eI : inV (V.str (cutS (cat ss ++ m) (some (-1)) none)) [.str "?", .str "+", .str "*"] = true := by rw [e1]; exact e0
      show if inV (V.str (cutS (cat ss ++ m) (some (-1)) none)) [.str "?", .str "+", .str "*"] = true then _ else _
      rw [eI]
      refine iteT ?_
      refine ⟨_, rfl, _, rfl, _, rfl, _, rfl, hb1, _, rfl, _, rfl, _, rfl, _, rfl, hb1, _, _, rfl, ?_⟩
      rw [e1, e2]
      have Sx : Same H (upd H t (.tup [.str "?", .str "+", .str "*"])) := Kb.same_upd ht
      obtain ⟨J, qJ⟩ : ∃ z, z = upd H t (.tup [.str "?", .str "+", .str "*"]) := ⟨_, rfl⟩
      rw [← qJ] at Sx ⊢
      refine ⟨_, rfl, _, ⟨Nat.le_trans (by rw [hlen]; exact l8) (by decide), rfl⟩, ?_⟩
      have nz : (((cat ss).length : Int) != 0) = true := by
        rw [hlen]
        simp only [bne_iff_ne, ne_eq]
        omega
      rw [nz]
      refine iteF ?_
      refine ⟨_, rfl, _, rfl, fun D hD => lc_mapS (okB false) (fun _ _ _ _ _ h => h) (Same.refl J) hD (Nat.lt_of_le_of_lt (Nat.le_of_eq hlen) (Nat.lt_of_le_of_lt l8 (by decide))) (fun j x s H2 G2 Q2 ⟨hj, ex⟩ s12 _ _ k2 => ?_) (gname_mono 4) fun H' ys sm hy hl rl => ?_⟩
      · subst ex
        have hm2 : s ∈ ss := by
          rw [signs_cat hG] at hj
          exact List.mem_of_getElem? hj
        refine ⟨rfl, _, rfl, _, rfl, a, _, rfl, .inr (Kb.Same.seqT s12 (Kb.Same.seqT Sx hS)), rfl, flat_sg sg, ?_⟩
        have e : (!inV (V.str s) (sg.map V.str)) = false := by rw [in_sg (hs s hm2)]; rfl
        show Q2 (V.bl (!inV (V.str s) (sg.map V.str))) H2
        rw [e]
        exact k2 _ _ (Same.refl _) rfl
      · have e := all_bl rl
        refine ⟨D, List.replicate ys.length false, rfl, .of (by rw [← e]; exact hy), ?_⟩
        have hany : (List.replicate ys.length false).any id = false := by simp
        rw [hany]
        refine ⟨_, rfl, iteF ?_⟩
        refine ⟨_, rfl, ss, .inr ⟨_, rfl, (signs_cat hG).symm⟩, nd, by omega, fun q hq => ⟨q, _, rfl, upd_same, by omega, ?_⟩⟩
        refine ⟨_, rfl, _, rfl, Nat.le_trans (by rw [hlen]; exact l8) (by decide), _, _, rfl, rfl, _, rfl, ?_⟩
        rw [hlen, decide_eq_false (by omega)]
        refine iteF ⟨_, rfl, _, rfl, (by show 2 ≤ sizeLine; decide), fun t2 ht2 => ?_⟩
        have S5 : Same H (upd H' q (SetS P w q ss.length)) := Same.trans Sx (Same.trans sm (Kb.same_upd hq))
        exact k _ t2 _ _ (Same.trans S5 (Kb.same_upd ht2)) (S5.free ht2) upd_same
end
end K1
set_option Elab.async false
set_option linter.all false
set_option maxRecDepth 100000
set_option maxHeartbeats 4000000
namespace K1
open PySem PySem.Spec PyProof.Rows L2 Kb Kc
/-- what is new in H' -/
def Nw (H H' : Hp) : Hp := Grow (fun _ => none) H H'
theorem nw_none {H : Hp} : Same (fun _ => none : Hp) H := fun b o e => by cases e
theorem nw_in {H H' : Hp} (s : Same H H') : Same (Nw H H') H' := grow_in nw_none s
theorem nw_mk {H H' : Hp} {b : Addr} {o : HO} (h : H b = none) (e : H' b = some o) : Nw H H' b = some o := grow_new h e
theorem nw_right {H H1 H2 : Hp} (s : Same H1 H2) : Same (Nw H H1) (Nw H H2) := grow_mono s
theorem nw_left {H H1 H2 : Hp} (s : Same H H1) : Same (Nw H1 H2) (Nw H H2) := fun b o e => by
  by_cases h : H1 b = none
  · exact nw_mk (s.free h) ((if_pos h).symm.trans e)
  · have z := (if_neg h).symm.trans e
    cases z
theorem nw_lst {H1 H2 : Hp} {D : Addr} (nD : H1 D = none) : Same (Grow (fun _ => none) (upd H1 D (.lst [])) H2) (Nw H1 H2) := grow_last nw_none nD
abbrev Item : Type := List Str × Str
def itemW (i : Item) : Str := cat i.1 ++ i.2
abbrev s_read_items : Stmt := top 7
theorem sc_read_items : FnScope ["words", "signs", "items", "word", "item"] ["words", "signs"] (defScope s_read_items) := ⟨rfl, rfl, rfl, by decide +kernel, rfl, by decide +kernel, by decide +kernel⟩
abbrev s_read_form : Stmt := top 37
theorem sc_read_form : FnScope ["line", "signs", "words"] ["line", "signs"] (defScope s_read_form) := ⟨rfl, rfl, rfl, by decide +kernel, rfl, by decide +kernel, by decide +kernel⟩
def spReadItems (K : PySem.W.Frag) : Sp := fun vs H Q _ => ∃ (p a : Addr) (its : List Item) (sg : List Str), vs = [.ref p, .ref a] ∧ SqL K H p (its.map fun i => V.str (itemW i)) ∧ SqT K H a (sg.map V.str) ∧ SgOk sg ∧ (∀ i ∈ its, ItemOk sg i.1 i.2) ∧ its.length ≤ 6 ∧
  ∀ H' t ys, Same H H' → H t = none → H' t = some (.tup ys) → ys.length = its.length → (∀ y ∈ ys, isItem K (Nw H H') y) → Q (.ref t) H'
def formLine (its : List Item) : Str := (" " : Str).join (("names" : Str) :: its.map itemW)
def spReadForm (K : PySem.W.Frag) : Sp := fun vs H Q _ => ∃ (z : Str) (a : Addr), vs = [.str z, .ref a] ∧
  ((∃ its sg, z = formLine its ∧ SqT K H a (sg.map V.str) ∧ SgOk sg ∧ (∀ i ∈ its, ItemOk sg i.1 i.2) ∧ its ≠ [] ∧ its.length ≤ 6 ∧
    ∀ H' t ys, Same H H' → H t = none → H' t = some (.tup ys) → ys.length = its.length → (∀ y ∈ ys, isItem K (Nw H H') y) → Q (.ref t) H')
  ∨ (∃ w ws, z = (" " : Str).join (w :: ws) ∧ (∀ x ∈ w :: ws, free 32 x) ∧ w ≠ "names" ∧ z.length ≤ 1000 ∧ ∀ H', Same H H' → Q .non H'))
section
variable {P : Program} {w : World} {K : PySem.W.Frag} {mg : Str → Option Value} {base : Heap}
theorem isItem.same {H H' : Hp} {y : V} (s : Same H H') (h : isItem K H y) : isItem K H' y := by
  obtain ⟨t, b, m, e, q⟩ := h
  exact ⟨t, b, m, e, Kb.Same.seqT s q⟩
theorem ok_read_items {f fread_item : Addr} {fd fdread_item : FuncData} (F : Fun K "read_items" "read_items" s_read_items f fd) (B : Bl mg)
    (Fread_item : Fun K "read_item" "read_item" s_read_item fread_item fdread_item) (bread_item : Binds K fdread_item ["word", "signs"] []) (gread_item : mg "read_item" = some (.ref fread_item)) : FnOk P w K mg base CX0 2 f fd ["words", "signs"] (spReadItems K) := by
  have Gread_item : FnOk P w K mg base CX0 1 fread_item fdread_item ["word", "signs"] (spReadItem K) := ok_read_item Fread_item B
  refine F.ok sc_read_items (fun vs H Q E h => ?_) (fun cdv A outer s H vs Q E hr h => ?_)
  · obtain ⟨p, a, its, sg, rfl, _⟩ := h
    rfl
  · obtain ⟨p, a, its, sg, rfl, hP, hS, hsg, hit, l6, k⟩ := h
    refine ⟨_, (pss_cons (ps_setLc (i := 2) (own := [("word", 3)]) (g := gName 3) (tt := tYes) rfl sc_read_items.nd rfl rfl (sw_true rfl rfl rfl (by decide +kernel)) (pi_list (pv 0)) (blkOk_by (own := [("word", 3)]) (N := ["words", "signs", "items", "word", "item"]) (sc := defScope s_read_items) (by decide +kernel)) (fun _ _ _ _ _ => (pg_name (i := 3) sc_read_items.nd rfl (Or.inl rfl))) (fun _ _ _ _ _ => pts_nil) (fun _ _ _ _ _ => (pe_call Gread_item hr (by rfl) gread_item Fread_item.kp bread_item .nil pass0 (pa_cons (pv 3) (pa_cons (pv 1) pa_nil)))))
      (pss_cons (ps_if (pt_val (pe_callB (cr_any rfl) (by rfl) B.any (by decide +kernel) (pa_cons (pe_lc (own := [("item", 4)]) (g := gName 4) (tt := tYes) rfl sc_read_items.nd (pi_list (pv 2)) (blkOk_by (own := [("item", 4)]) (N := ["words", "signs", "items", "word", "item"]) (sc := defScope s_read_items) (by decide +kernel)) (fun _ _ _ _ _ => (pg_name (i := 4) sc_read_items.nd rfl (Or.inl rfl))) (fun _ _ _ _ _ => pts_nil) (fun _ _ _ _ _ => (pe_cmp (pc_isN (pv 4)) rfl))) pa_nil)))
        (pss_one (ps_ret pe_non))
        pss_nil)
      (pss_one (ps_ret (pe_tupleOf (by rfl) B.tuple (pv 2)))))), ?_⟩
    refine ⟨_, rfl, p, rfl, ⟨_, hP⟩, fun D hD => lc_mapL (fun H _ y => isItem K H y) (fun _ _ _ _ s h => h.same s) (G1 := fun _ => none) nw_none hD hP (by rw [List.length_map]; exact Nat.lt_of_le_of_lt l6 (by decide)) (fun j x H2 G2 Q2 hj s12 g12 g2 k2 => ?_) (gname_mono 3) fun H3 ys s13 hy hl rl => ?_⟩
    · obtain ⟨i, hi, rfl⟩ : ∃ i, i ∈ its ∧ x = V.str (itemW i) := by
        rw [List.getElem?_map] at hj
        cases e : its[j]? with
        | none =>
          rw [e] at hj
          cases hj
        | some i =>
          rw [e] at hj
          exact ⟨i, List.mem_of_getElem? e, (Option.some.inj hj).symm⟩
      refine ⟨rfl, _, rfl, _, rfl, i.1, i.2, sg, a, rfl, Kb.Same.seqT s12 hS, hsg, hit i hi, fun H4 t b m' s24 nt e4 => k2 H4 _ s24 ⟨t, b, m', rfl, .of (grow_new nt e4)⟩⟩
    · have hN : ∀ y ∈ ys, isItem K (Nw H H3) y := fun y m => by
        obtain ⟨j, hj, e⟩ := List.getElem_of_mem m
        exact (rl j y (by rw [List.getElem?_eq_getElem hj, e])).same (nw_lst hD)
      have hI : ∀ y ∈ ys, isItem K H3 y := fun y m => (hN y m).same (nw_in s13)
      have hl' : ys.length ≤ 6 := by rw [hl, List.length_map]; exact l6
      refine ⟨_, rfl, D, rfl, ⟨_, .of hy⟩, fun D2 hD2 => lc_mapL (okB false) (fun _ _ _ _ _ h => h) (Same.refl H3) hD2 (.of hy) (Nat.lt_of_le_of_lt hl' (by decide)) (fun j x H4 G2 Q2 hj s34 g12 g2 k2 => ?_) (gname_mono 4) fun H5 zs s35 hz hl2 rl2 => ?_⟩
      · obtain ⟨t, b, m, rfl, _⟩ := hI x (List.mem_of_getElem? hj)
        refine ⟨rfl, _, rfl, ?_⟩
        show Q2 (V.bl (decide (V.ref t = V.non))) H4
        rw [decide_eq_false (by intro z; cases z)]
        exact k2 _ _ (Same.refl _) rfl
      · have e := all_bl rl2
        refine ⟨D2, List.replicate zs.length false, rfl, .of (by rw [← e]; exact hz), ?_⟩
        have hany : (List.replicate zs.length false).any id = false := by simp
        rw [hany]
        refine ⟨_, rfl, iteF ?_⟩
        refine ⟨_, rfl, .inl ⟨D, ys, rfl, .of (s35 _ _ hy), fun t ht => ?_⟩⟩
        have S : Same H H5 := Same.trans s13 s35
        exact k _ t ys (Same.trans S (Kb.same_upd ht)) (S.free ht) upd_same (by rw [hl, List.length_map]) fun y m => ((hN y m).same (nw_right s35)).same (nw_right (Kb.same_upd ht))
theorem item_free {sg : List Str} {i : Item} (hs : ∀ s ∈ sg, s ∈ SG) (h : ItemOk sg i.1 i.2) : free 32 (itemW i) ∧ free 10 (itemW i) := by
  obtain ⟨_, _, h2, hm⟩ := h
  have e : (itemW i).cps.toList = (i.1.flatMap fun s => s.cps.toList) ++ i.2.cps.toList := by
    show ((cat i.1).cps ++ i.2.cps).toList = _
    simp [cat]
  have mk : ∀ m ∈ MK, (decide (¬ 32 ∈ m.cps.toList) && decide (¬ 10 ∈ m.cps.toList)) = true := by decide +kernel
  have mk' := mk _ hm
  simp only [Bool.and_eq_true, decide_eq_true_eq] at mk'
  constructor
  · intro z
    rw [e] at z
    rcases List.mem_append.mp z with z | z
    · obtain ⟨s, h3, h4⟩ := List.mem_flatMap.mp z
      exact (sg_free s (hs s (h2 s h3))).1 h4
    · exact mk'.1 z
  · intro z
    rw [e] at z
    rcases List.mem_append.mp z with z | z
    · obtain ⟨s, h3, h4⟩ := List.mem_flatMap.mp z
      exact (sg_free s (hs s (h2 s h3))).2.1 h4
    · exact mk'.2 z
theorem item_len {sg : List Str} {i : Item} (hs : SgOk sg) (h : ItemOk sg i.1 i.2) : (itemW i).length ≤ 9 := by
  obtain ⟨_, nd, h2, hm⟩ := h
  have e : (itemW i).length = (cat i.1).length + i.2.length := Array.size_append ..
  rw [e, cat_len fun s h => hs.2.2.2 s (h2 s h)]
  have := nodup_sub nd h2
  have := hs.2.1
  have := mk_len _ hm
  omega
theorem ok_read_form {f fread_items fread_item : Addr} {fd fdread_items fdread_item : FuncData} (F : Fun K "read_form" "read_form" s_read_form f fd) (B : Bl mg) (C : Gb K mg)
    (Fread_item : Fun K "read_item" "read_item" s_read_item fread_item fdread_item) (bread_item : Binds K fdread_item ["word", "signs"] []) (gread_item : mg "read_item" = some (.ref fread_item))
    (Fread_items : Fun K "read_items" "read_items" s_read_items fread_items fdread_items) (bread_items : Binds K fdread_items ["words", "signs"] []) (gread_items : mg "read_items" = some (.ref fread_items)) : FnOk P w K mg base CX0 3 f fd ["line", "signs"] (spReadForm K) := by
  have Gread_items : FnOk P w K mg base CX0 2 fread_items fdread_items ["words", "signs"] (spReadItems K) := ok_read_items Fread_items B Fread_item bread_item gread_item
  obtain ⟨t1, gMOST_ITEMS⟩ := C.MOST_ITEMS
  refine F.ok sc_read_form (fun vs H Q E h => ?_) (fun cdv A outer s H vs Q E hr h => ?_)
  · obtain ⟨z, a, rfl, _⟩ := h
    rfl
  · obtain ⟨z, a, rfl, h⟩ := h
    refine ⟨_, (pss_cons (ps_set (i := 2) sc_read_form.nd rfl (Or.inl rfl) (pe_split (pv 0) pe_str))
      (pss_cons (ps_if (PW.pt (pw_or (pt_cmpR op_ne (pe_ix ix_list (pv 2) pe_int (fun _ _ => rfl)) pe_str (nomark _)) (pw_or1 (pt_not (pt_chain op_le op_le pe_int (pe_op op_sub (pe_callB call_len_seq (by rfl) B.len (by decide +kernel) (pa_cons (pv 2) pa_nil)) pe_int) (pe_glob (v := .int _) (by rfl) gMOST_ITEMS ⟨_, rfl⟩))))))
        (pss_one (ps_ret pe_non))
        pss_nil)
      (pss_one (ps_ret (pe_call Gread_items hr (by rfl) gread_items Fread_items.kp bread_items .nil pass0 (pa_cons (pe_slice sl_list (pv 2) (po_some pe_int) po_none) (pa_cons (pv 1) pa_nil))))))), ?_⟩
    rcases h with ⟨its, sg, rfl, hS, hsg, hit, ne, l6, k⟩ | ⟨w1, ws, rfl, hf, hw, hl, k⟩
    · have hf : ∀ w ∈ (("names" : Str) :: its.map itemW), free 32 w := by
        intro w hw
        rcases List.mem_cons.mp hw with rfl | m
        · show ¬ 32 ∈ ("names" : Str).cps.toList
          decide +kernel
        · obtain ⟨i, hi, rfl⟩ := List.mem_map.mp m
          exact (item_free hsg.2.2.2 (hit i hi)).1
      have hl : (formLine its).length ≤ 7 * (9 + 1) := by
        refine join_small (sep := " ") (m := 9) (n := 7) (fun w hw => ?_) (by rw [List.length_cons, List.length_map]; omega)
        rcases List.mem_cons.mp hw with rfl | m
        · decide +kernel
        · obtain ⟨i, hi, rfl⟩ := List.mem_map.mp m
          exact item_len hsg (hit i hi)
      have es : Txt.split (formLine its) " " = ("names" : Str) :: its.map itemW := sp_split (by simp) hf
      refine ⟨_, rfl, ⟨_, rfl⟩, _, _, rfl, rfl, by decide +kernel, Nat.le_trans (Nat.add_le_add_right hl 2) (by decide), fun p hp => ?_⟩
      rw [es]
      have e1 : (upd H p (.lst ((("names" : Str) :: its.map itemW).map V.str))) p = some (.lst ((("names" : Str) :: its.map itemW).map V.str)) := upd_same
      have S1 : Same H (upd H p (.lst ((("names" : Str) :: its.map itemW).map V.str))) := Kb.same_upd hp
      obtain ⟨J1, q1⟩ : ∃ z, z = upd H p (.lst ((("names" : Str) :: its.map itemW).map V.str)) := ⟨_, rfl⟩
      rw [← q1] at e1 S1 ⊢
      have l1 : 1 ≤ its.length := by
        cases its with
        | nil => exact absurd rfl ne
        | cons => simp
      refine ⟨_, rfl, p, _, _, _, rfl, rfl, .of e1, atI_nat' (by decide) (by rfl), rfl, _, rfl, iteNS rfl ?_⟩
      refine ⟨_, rfl, p, _, rfl, .inl (.of e1), _, _, rfl, rfl, _, _, rfl, rfl, _, rfl, iteD ?_ ⟨_, _, rfl, rfl, _, rfl, iteND ?_ ?_⟩⟩
      · simp only [List.map_cons, List.length_cons, List.length_map]
        omega
      · simp only [List.map_cons, List.length_cons, List.length_map]
        omega
      · refine ⟨_, rfl, _, rfl, p, _, rfl, .of e1, fun p2 hp2 => ?_⟩
        rw [show ((("names" : Str) :: its.map itemW)).map V.str = V.str "names" :: (its.map itemW).map V.str from rfl, cut_from]
        have e2 : (upd J1 p2 (.lst ((its.map itemW).map V.str))) p2 = some (.lst (its.map fun i => V.str (itemW i))) := by
          rw [upd_same, List.map_map]
          rfl
        have S2 : Same H (upd J1 p2 (.lst ((its.map itemW).map V.str))) := Same.trans S1 (Kb.same_upd hp2)
        exact ⟨_, rfl, p2, a, its, sg, rfl, .of e2, Kb.Same.seqT S2 hS, hsg, hit, l6, fun H' t ys s3 nt e hy hi => k H' t ys (Same.trans S2 s3) (S2.free nt) e hy fun y m => (hi y m).same (nw_left S2)⟩
    · have es : Txt.split ((" " : Str).join (w1 :: ws)) " " = w1 :: ws := sp_split (by simp) hf
      refine ⟨_, rfl, ⟨_, rfl⟩, _, _, rfl, rfl, by decide +kernel, Nat.le_trans (Nat.add_le_add_right hl 2) (by decide), fun p hp => ?_⟩
      rw [es]
      refine ⟨_, rfl, p, _, _, _, rfl, rfl, .of upd_same, atI_nat' (by decide) (by rfl), rfl, _, rfl, ?_⟩
      have en : (!decide (V.str w1 = V.str "names")) = true := by
        rw [decide_eq_false (fun z => hw (by injection z))]
        rfl
      show if (!decide (V.str w1 = V.str "names")) = true then _ else _
      rw [en]
      refine iteT ?_
      exact k _ (Kb.same_upd hp)
end
end K1
set_option Elab.async false
set_option linter.all false
set_option maxRecDepth 100000
set_option maxHeartbeats 4000000
namespace K1
open PySem PySem.Spec PyProof.Rows L2 Kb Kc
def ruleLine (nm : Str) : Str := (" " : Str).join [("rule" : Str), nm]
abbrev s_read_rule : Stmt := top 38
theorem sc_read_rule : FnScope ["line", "earlier", "words"] ["line", "earlier"] (defScope s_read_rule) := ⟨rfl, rfl, rfl, by decide +kernel, rfl, by decide +kernel, by decide +kernel⟩
def spReadRule : Sp := fun vs H Q _ => ∃ (nm : Str) (d : Addr) (kvs : List (Key × V)), vs = [.str (ruleLine nm), .ref d] ∧ nm ∈ WD ∧ H d = some (.dK kvs) ∧ valV kvs (Sum.inr nm) = none ∧ kvs.length < 4 ∧ ∀ H', Same H H' → Q (.str nm) H'
theorem wd_free : ∀ s ∈ WD, free 32 s ∧ free 10 s := by
  intro s hs
  have h : (WD.all fun s => decide (¬ 32 ∈ s.cps.toList) && decide (¬ 10 ∈ s.cps.toList)) = true := by decide +kernel
  have := List.all_eq_true.mp h s hs
  simp only [Bool.and_eq_true, decide_eq_true_eq] at this
  exact this
theorem wd_len : ∀ s ∈ WD, s.length ≤ 8 := by decide +kernel
section
variable {P : Program} {w : World} {K : PySem.W.Frag} {mg : Str → Option Value} {base : Heap}
theorem ok_read_rule {f fis_word : Addr} {fd fdis_word : FuncData} (F : Fun K "read_rule" "read_rule" s_read_rule f fd) (B : Bl mg) (C : Gb K mg)
    (Fis_word : Fun K "is_word" "is_word" s_is_word fis_word fdis_word) (bis_word : Binds K fdis_word ["word"] []) (gis_word : mg "is_word" = some (.ref fis_word)) : FnOk P w K mg base CX0 2 f fd ["line", "earlier"] spReadRule := by
  have Gis_word : FnOk P w K mg base CX0 1 fis_word fdis_word ["word"] spIsWord := ok_is_word Fis_word B C
  obtain ⟨t1, gMOST_RULES⟩ := C.MOST_RULES
  refine F.ok sc_read_rule (fun vs H Q E h => ?_) (fun cdv A outer s H vs Q E hr h => ?_)
  · obtain ⟨nm, d, kvs, rfl, _⟩ := h
    rfl
  · obtain ⟨nm, d, kvs, rfl, hw, hd, hv, hk, k⟩ := h
    have hf : ∀ w ∈ [("rule" : Str), nm], free 32 w := by
      intro w hw'
      simp only [List.mem_cons, List.not_mem_nil, or_false] at hw'
      rcases hw' with rfl | rfl
      · show ¬ 32 ∈ ("rule" : Str).cps.toList
        decide +kernel
      · exact (wd_free _ hw).1
    have hl : (ruleLine nm).length ≤ 2 * (8 + 1) := by
      refine join_small (sep := " ") (m := 8) (n := 2) (fun w hw' => ?_) (by simp)
      simp only [List.mem_cons, List.not_mem_nil, or_false] at hw'
      rcases hw' with rfl | rfl
      · decide +kernel
      · exact wd_len _ hw
    have es : Txt.split (ruleLine nm) " " = [("rule" : Str), nm] := sp_split (by simp) hf
    refine ⟨_, (pss_cons (ps_set (i := 2) sc_read_rule.nd rfl (Or.inl rfl) (pe_split (pv 0) pe_str))
      (pss_cons (ps_if (PW.pt (pw_or (pt_cmpR op_ne (pe_callB call_len_seq (by rfl) B.len (by decide +kernel) (pa_cons (pv 2) pa_nil)) pe_int (nomark _)) (pw_or (pt_cmpR op_ne (pe_ix ix_list (pv 2) pe_int (fun _ _ => rfl)) pe_str (nomark _)) (pw_or1 (pt_not (pt_val (pe_call Gis_word hr (by rfl) gis_word Fis_word.kp bis_word .nil pass0 (pa_cons (pe_ix ix_list (pv 2) pe_int (fun _ _ => rfl)) pa_nil))))))))
        (pss_one (ps_ret pe_non))
        pss_nil)
      (pss_cons (ps_if (PW.pt (pw_or (pt_cmp (pc_din (hu_of hr) (pe_ix ix_list (pv 2) pe_int (fun _ _ => rfl)) (pv 1)) rfl) (pw_or1 (pt_cmpR op_eq (pe_callB call_lenD (by rfl) B.len (by decide +kernel) (pa_cons (pv 1) pa_nil)) (pe_glob (v := .int _) (by rfl) gMOST_RULES ⟨_, rfl⟩) (nomark _)))))
        (pss_one (ps_ret pe_non))
        pss_nil)
      (pss_one (ps_ret (pe_ix ix_list (pv 2) pe_int (fun _ _ => rfl))))))), ?_⟩
    refine ⟨_, rfl, ⟨_, rfl⟩, _, _, rfl, rfl, by decide +kernel, Nat.le_trans (Nat.add_le_add_right hl 2) (by decide), fun p hp => ?_⟩
    rw [es]
    have e1 : (upd H p (.lst ([("rule" : Str), nm].map V.str))) p = some (.lst ([("rule" : Str), nm].map V.str)) := upd_same
    have S1 : Same H (upd H p (.lst ([("rule" : Str), nm].map V.str))) := Kb.same_upd hp
    obtain ⟨J1, q1⟩ : ∃ z, z = upd H p (.lst ([("rule" : Str), nm].map V.str)) := ⟨_, rfl⟩
    rw [← q1] at e1 S1 ⊢
    refine ⟨_, rfl, p, _, rfl, .inl (.of e1), rfl, _, rfl, iteNS rfl ?_⟩
    refine ⟨_, rfl, p, _, _, _, rfl, rfl, .of e1, atI_nat' (by decide) (by rfl), rfl, _, rfl, iteNS rfl ?_⟩
    refine ⟨_, rfl, p, _, _, _, rfl, rfl, .of e1, atI_nat' (by decide) (by rfl), nm, rfl, hw, fun J2 S2 => ⟨_, rfl, iteF ?_⟩⟩
    refine ⟨_, rfl, p, _, _, _, rfl, rfl, .of (S2 _ _ e1), atI_nat' (by decide) (by rfl), _, rfl, d, _, rfl, .inl ⟨kvs, Sum.inr nm, .of (S2 _ _ (S1 _ _ hd)), rfl, rfl⟩, _, rfl, ?_⟩
    rw [hv]
    refine iteF ?_
    refine ⟨_, rfl, d, kvs, rfl, S2 _ _ (S1 _ _ hd), rfl, _, rfl, ?_⟩
    have ne4 : decide (V.int (kvs.length : Nat) = V.int 4) = false := decide_eq_false fun z => by
      have := V.int.inj z
      omega
    show if decide (V.int (kvs.length : Nat) = V.int 4) = true then _ else _
    rw [ne4]
    refine iteF ?_
    refine ⟨_, rfl, p, _, _, _, rfl, rfl, .of (S2 _ _ e1), atI_nat' (by decide) (by rfl), k J2 (Same.trans S1 S2)⟩
end
end K1
set_option Elab.async false
set_option linter.all false
set_option maxRecDepth 100000
set_option maxHeartbeats 4000000
namespace K1
open PySem PySem.Spec PyProof.Rows L2 Kb Kc
theorem pi_listK {X : Cx} {K : PySem.W.Frag} {tg e : Expr} {te : TE} (h : X.K = K) (p : PE X e te) : PI X tg e (iList K te) := h ▸ pi_list p
theorem pi_tupK {X : Cx} {K : PySem.W.Frag} {tg e : Expr} {te : TE} (h : X.K = K) (p : PE X e te) : PI X tg e (iTup K te) := h ▸ pi_tup p
theorem tupK {X : Cx} {K : PySem.W.Frag} {e : Expr} {ta : TE} (h : X.K = K) (p : PE X e (tThen ta (kTup X.K))) : PE X e (tThen ta (kTup K)) := h ▸ p
theorem cr_sortedSK {X : Cx} {K : PySem.W.Frag} (h : X.K = K) : CallR X (.builtin "sorted") (rSortedS K) := h ▸ cr_sortedS
/-! ### lists of texts as data -/
theorem dp_strs {K : PySem.W.Frag} {H : Hp} : ∀ zs : List Str, DpAll K H (zs.map V.str) (zs.map PyData.str)
  | [] => .nil
  | b :: r => .cons (.str b) (dp_strs r)
theorem sg_ok : ∀ s ∈ SG, PyData.strOk s = true := by decide +kernel
theorem lay_strs : ∀ {zs : List Str}, (∀ s ∈ zs, s ∈ SG) → PyData.canLayAll0 (zs.map PyData.str) = true
  | [], _ => rfl
  | b :: r, h => by simp [PyData.canLayAll0, PyData.canLay0, lay_strs (zs := r) fun s m => h s (.tail _ m), sg_ok b (h b (.head _))]
theorem dep_strs : ∀ zs : List Str, PyData.depthAll (zs.map PyData.str) = 0
  | [] => rfl
  | b :: r => by simp [PyData.depthAll, PyData.depth, dep_strs r]
theorem shaped_strs {zs : List Str} (h : ∀ s ∈ zs, s ∈ SG) : SeqAt.shaped (.list (zs.map PyData.str)) = true := by
  simp [SeqAt.shaped, PyData.canLay0, PyData.depth, lay_strs h, dep_strs]
theorem eqv_strs : ∀ zs : List Str, PyData.eqvAll (zs.map PyData.str) (zs.map PyData.str) = true
  | [] => rfl
  | b :: r => by simp [PyData.eqvAll, PyData.eqv, eqv_strs r]
abbrev s_read_classes : Stmt := top 39
theorem sc_read_classes : FnScope ["words", "signs", "parts", "told", "word", "part", "sign"] ["words", "signs"] (defScope s_read_classes) := ⟨rfl, rfl, rfl, by decide +kernel, rfl, by decide +kernel, by decide +kernel⟩
/-- classes: rows of signs, told one behind the other -/
def ClsOk (sg : List Str) (rows : List (List Str)) : Prop := (∀ r ∈ rows, r ≠ []) ∧ rows.flatten.Perm sg
def rowW (r : List Str) : Str := ("=" : Str).join r
/-- a tuple of the row's signs, sorted -/
def isRow (K : PySem.W.Frag) (H : Hp) (r : List Str) (y : V) : Prop := ∃ (t : Addr) (zs : List Str), y = .ref t ∧ SqT K H t (zs.map V.str) ∧ zs.Perm r ∧ sortedS zs = true
def spReadClasses (K : PySem.W.Frag) : Sp := fun vs H Q _ => ∃ (p a : Addr) (rows : List (List Str)) (sg : List Str), vs = [.ref p, .ref a] ∧ SqL K H p (rows.map fun r => V.str (rowW r)) ∧ SqT K H a (sg.map V.str) ∧ SgOk sg ∧ ClsOk sg rows ∧
  ∀ H' t ys, Same H H' → H t = none → H' t = some (.tup ys) → ys.length = rows.length → (∀ (i : Nat) (y : V) (r : List Str), ys[i]? = some y → rows[i]? = some r → isRow K (Nw H H') r y) → Q (.ref t) H'
theorem eq_eq : ("=" : Str) = ⟨#[61]⟩ := by decide +kernel
theorem row_split {r : List Str} (h : r ≠ []) (hf : ∀ s ∈ r, s ∈ SG) : Txt.split (rowW r) "=" = r := by
  unfold rowW
  rw [eq_eq]
  exact split_join h fun w hw => (sg_free w (hf w hw)).2.2
theorem row_len {r : List Str} (hf : ∀ s ∈ r, s ∈ SG) (h8 : r.length ≤ 8) : (rowW r).length ≤ 8 * (1 + 1) := by
  refine join_small (sep := "=") (m := 1) (n := 8) (fun w hw => ?_) h8
  rw [sg_len w (hf w hw)]
  decide
section
variable {P : Program} {w : World} {K : PySem.W.Frag} {mg : Str → Option Value} {base : Heap}
theorem ok_read_classes {f : Addr} {fd : FuncData} (F : Fun K "read_classes" "read_classes" s_read_classes f fd) (B : Bl mg) : FnOk P w K mg base CX0 1 f fd ["words", "signs"] (spReadClasses K) := by
  refine F.ok sc_read_classes (fun vs H Q E h => ?_) (fun cdv A outer s H vs Q E hr h => ?_)
  · obtain ⟨p, a, rows, sg, rfl, _⟩ := h
    rfl
  · obtain ⟨p, a, rows, sg, rfl, hP, hS, hsg, ⟨hne, hperm⟩, k⟩ := h
    have hin : ∀ r ∈ rows, ∀ s ∈ r, s ∈ SG := fun r hr s hs => hsg.2.2.2 s (hperm.subset (List.mem_flatten.mpr ⟨r, hr, hs⟩))
    have hfl : rows.flatten.length ≤ 8 := by rw [hperm.length_eq]; exact hsg.2.1
    have hr8 : ∀ r ∈ rows, r.length ≤ 8 := fun r hr => Nat.le_trans (List.Sublist.length_le (List.sublist_flatten_of_mem hr)) hfl
    have hrows : rows.length ≤ 8 := by
      refine Nat.le_trans ?_ hfl
      clear hP hperm hfl hr8 hin k
      induction rows with
      | nil => exact Nat.zero_le _
      | cons r t ih =>
        have h1 : 1 ≤ r.length := by
          cases r with
          | nil => exact absurd rfl (hne [] (.head _))
          | cons => simp
        have := ih fun x hx => hne x (.tail _ hx)
        simp only [List.length_cons, List.flatten_cons, List.length_append]
        omega
    refine ⟨_, (pss_cons (ps_setLc (i := 2) (own := [("word", 4)]) (g := gName 4) (tt := tYes) rfl sc_read_classes.nd rfl rfl (sw_true rfl rfl rfl (by decide +kernel)) (pi_list (pv 0)) (blkOk_by (own := [("word", 4)]) (N := ["words", "signs", "parts", "told", "word", "part", "sign"]) (sc := defScope s_read_classes) (by decide +kernel)) (fun _ _ _ _ _ => (pg_name (i := 4) sc_read_classes.nd rfl (Or.inl rfl))) (fun _ _ _ _ _ => pts_nil) (fun _ _ _ _ _ => (pe_split (pv 4) pe_str)))
      (pss_cons (ps_setLc2 (i := 3) (own := [("part", 5), ("sign", 6)]) (vs1 := [6]) (g := gName 5) (g1 := gName 6) (tt := tYes) (tt1 := tYes) rfl sc_read_classes.nd rfl rfl (sw_true rfl rfl rfl (by decide +kernel)) (pi_list (pv 2)) (blkOk_by (own := [("part", 5), ("sign", 6)]) (N := ["words", "signs", "parts", "told", "word", "part", "sign"]) (sc := defScope s_read_classes) (by decide +kernel)) (by decide) (fun _ _ _ _ _ => (pg_name (i := 5) sc_read_classes.nd rfl (Or.inl rfl))) (fun _ _ _ _ _ => pts_nil) (fun _ _ _ _ _ => (pi_listK (K := K) rfl (pv 5))) (fun _ _ _ _ _ => (pg_name (i := 6) sc_read_classes.nd rfl (Or.inl rfl))) (fun _ _ _ _ _ => pts_nil) (fun _ _ _ _ _ => (pv 6)))
      (pss_cons (ps_if (pt_cmpR (op_neD hr.units) (pe_callB cr_sortedS (by rfl) B.sorted (by decide +kernel) (pa_cons (pv 3) pa_nil)) (pe_callB cr_sortedTS (by rfl) B.sorted (by decide +kernel) (pa_cons (pv 1) pa_nil)) (nomark _))
        (pss_one (ps_ret pe_non))
        pss_nil)
      (pss_one (ps_ret (pe_tupleOf (by rfl) B.tuple (pe_lc (own := [("part", 5)]) (g := gName 5) (tt := tYes) rfl sc_read_classes.nd (pi_list (pv 2)) (blkOk_by (own := [("part", 5)]) (N := ["words", "signs", "parts", "told", "word", "part", "sign"]) (sc := defScope s_read_classes) (by decide +kernel)) (fun _ _ _ _ _ => (pg_name (i := 5) sc_read_classes.nd rfl (Or.inl rfl))) (fun _ _ _ _ _ => pts_nil) (fun _ _ _ _ _ => (tupK (K := K) rfl (pe_tupleOf (by rfl) B.tuple (pe_callB (cr_sortedSK (K := K) rfl) (by rfl) B.sorted (by decide +kernel) (pa_cons (pv 5) pa_nil)))))))))))), ?_⟩
    -- parts
    refine ⟨_, rfl, p, rfl, ⟨_, hP⟩, fun D hD => lc_mapL (fun H j y => ∃ l r, y = V.ref l ∧ rows[j]? = some r ∧ SqL K H l (r.map V.str)) (fun _ _ _ _ s ⟨l, r, e1, e2, q⟩ => ⟨l, r, e1, e2, Same.seq s q⟩) (Same.refl H) hD hP (by rw [List.length_map]; exact Nat.lt_of_le_of_lt hrows (by decide)) (fun j x H2 G2 Q2 hj s12 g12 g2 k2 => ?_) (gname_mono 4) fun H3 ys s13 hy hl rl => ?_⟩
    · obtain ⟨r, hrj, rfl⟩ : ∃ r, rows[j]? = some r ∧ x = V.str (rowW r) := by
        rw [List.getElem?_map] at hj
        cases e : rows[j]? with
        | none =>
          rw [e] at hj
          cases hj
        | some r =>
          rw [e] at hj
          exact ⟨r, rfl, (Option.some.inj hj).symm⟩
      have hm := List.mem_of_getElem? hrj
      refine ⟨rfl, _, rfl, ⟨_, rfl⟩, _, _, rfl, rfl, by decide +kernel, Nat.le_trans (Nat.add_le_add_right (row_len (hin r hm) (hr8 r hm)) 2) (by decide), fun q hq => ?_⟩
      rw [row_split (hne r hm) (hin r hm)]
      exact k2 _ _ (Kb.same_upd hq) ⟨q, r, rfl, hrj, .of (grow_new hq upd_same)⟩
    · have hl' : ys.length = rows.length := by rw [hl, List.length_map]
      have hI : ∀ (i : Nat) (y : V) (r : List Str), ys[i]? = some y → rows[i]? = some r → ∃ l, y = V.ref l ∧ SqL K H3 l (r.map V.str) := fun i y r e1 e2 => by
        obtain ⟨l, r', e3, e4, q⟩ := rl i y e1
        rw [e2] at e4
        cases e4
        exact ⟨l, e3, Same.seq (grow_part (Same.refl H) hD s13) q⟩
      -- told
      refine ⟨_, rfl, D, rfl, ⟨_, .of hy⟩, fun D2 hD2 => ?_⟩
      refine ⟨fun i m H' => m = rows.length - i ∧ i ≤ rows.length ∧ Same H3 H' ∧ H' D2 = some (.lst ((rows.take i).flatten.map V.str)), ⟨rows.length, rfl, Nat.zero_le _, Kb.same_upd hD2, upd_same⟩, ?_⟩
      rintro i m H4 ⟨rfl, hi, s34, eD⟩
      by_cases lt : i < rows.length
      · obtain ⟨r, hri⟩ : ∃ r, rows[i]? = some r := ⟨_, List.getElem?_eq_getElem lt⟩
        obtain ⟨y, hyi⟩ : ∃ y, ys[i]? = some y := ⟨_, List.getElem?_eq_getElem (by omega)⟩
        obtain ⟨l, rfl, hL⟩ := hI i y r hyi hri
        have et : (rows.take (i + 1)).flatten = (rows.take i).flatten ++ r := by
          rw [List.take_succ, hri, List.flatten_append]
          simp
        refine .inr ⟨⟨ys, _, .of (s34 _ _ hy), hyi⟩, fun H' => Same H3 H' ∧ H' D2 = some (.lst ((rows.take (i + 1)).flatten.map V.str)), fun H' ⟨s, e⟩ => ⟨rows.length - (i + 1), by omega, rfl, lt, s, e⟩, ?_⟩
        rintro x H5 ⟨rfl, hx⟩
        have ex := hx ys (.of (s34 _ _ hy))
        rw [hyi] at ex
        cases ex
        refine ⟨rfl, _, rfl, l, rfl, ⟨_, Same.seq s34 hL⟩, fun j q H' => q = r.length - j ∧ j ≤ r.length ∧ Same H3 H' ∧ H' D2 = some (.lst (((rows.take i).flatten ++ r.take j).map V.str)), ⟨r.length, rfl, Nat.zero_le _, s34, by simpa using eD⟩, ?_⟩
        rintro j q H6 ⟨rfl, hj, s36, eD6⟩
        by_cases lj : j < r.length
        · refine .inr ⟨⟨r.map V.str, V.str (r[j]), Same.seq s36 hL, by rw [List.getElem?_map, List.getElem?_eq_getElem lj]; rfl⟩, fun H' => Same H3 H' ∧ H' D2 = some (.lst (((rows.take i).flatten ++ r.take (j + 1)).map V.str)), fun H' ⟨s, e⟩ => ⟨r.length - (j + 1), by omega, rfl, lj, s, e⟩, ?_⟩
          rintro x H7 ⟨rfl, hx⟩
          have ex := hx _ (Same.seq s36 hL)
          rw [List.getElem?_map, List.getElem?_eq_getElem lj] at ex
          cases ex
          refine ⟨rfl, _, rfl, _, eD6, ?_, fun b o e => ?_, ?_⟩
          · rw [List.length_map, List.length_append]
            have h1 : (rows.take i).flatten.length ≤ 8 := by
              have e := congrArg (fun l : List (List Str) => l.flatten.length) (List.take_append_drop i rows)
              simp only [List.flatten_append, List.length_append] at e
              omega
            have h2 : (r.take j).length ≤ 8 := Nat.le_trans (List.length_take_le' _ _) (hr8 r (List.mem_of_getElem? hri))
            exact small1000 (by omega)
          · rw [upd_ne (ne_of_none e hD2)]
            exact s36 _ _ e
          · have ej : r.take (j + 1) = r.take j ++ [r[j]] := by
              rw [List.take_succ, List.getElem?_eq_getElem lj]
              rfl
            rw [upd_same, ej]
            simp only [List.map_append, List.append_assoc]
            rfl
        · have ej : j = r.length := by omega
          subst ej
          refine .inl ⟨⟨r.map V.str, Same.seq s36 hL, by simp⟩, s36, ?_⟩
          rw [eD6, et, List.take_length]
      · have ei : i = rows.length := by omega
        subst ei
        rw [List.take_length] at eD
        refine .inl ⟨⟨ys, .of (s34 _ _ hy), by omega⟩, ?_⟩
        -- sorted(told) != sorted(signs)
        have h64 : rows.flatten.length < 64 := Nat.lt_of_le_of_lt hfl (by decide)
        have S04 : Same H H4 := Same.trans s13 s34
        refine ⟨_, rfl, D2, rows.flatten, rfl, .of eD, h64, fun zs q1 pz sz hq1 => ?_⟩
        refine ⟨_, rfl, a, sg, rfl, Kb.Same.seqT (Kb.same_upd hq1) (Kb.Same.seqT S04 hS), Nat.lt_of_le_of_lt hsg.2.1 (by decide), fun zs2 q2 pz2 sz2 hq2 => ?_⟩
        have ez : zs = zs2 := sorted_unique (pz.trans (hperm.trans pz2.symm)) sz sz2
        subst ez
        have eq1 : (upd (upd H4 q1 (.lst (zs.map V.str))) q2 (.lst (zs.map V.str))) q1 = some (.lst (zs.map V.str)) := Kb.same_upd hq2 _ _ upd_same
        have S5 : Same H4 (upd (upd H4 q1 (.lst (zs.map V.str))) q2 (.lst (zs.map V.str))) := Same.trans (Kb.same_upd hq1) (Kb.same_upd hq2)
        have eq2 : (upd (upd H4 q1 (.lst (zs.map V.str))) q2 (.lst (zs.map V.str))) q2 = some (.lst (zs.map V.str)) := upd_same
        obtain ⟨J5, qJ⟩ : ∃ z, z = (upd (upd H4 q1 (.lst (zs.map V.str))) q2 (.lst (zs.map V.str))) := ⟨_, rfl⟩
        rw [← qJ] at eq1 eq2 S5 ⊢
        have zin : ∀ s ∈ zs, s ∈ SG := fun s h => hsg.2.2.2 s (pz2.subset h)
        refine ⟨_, _, .lst (.of eq1) (dp_strs zs), .lst (.of eq2) (dp_strs zs), shaped_strs zin, shaped_strs zin, ?_⟩
        have ee : PyData.eqv (.list (zs.map PyData.str)) (.list (zs.map PyData.str)) = true := eqv_strs zs
        rw [ee]
        refine ⟨_, rfl, iteF ?_⟩
        -- the rows, sorted
        have S35 : Same H3 J5 := Same.trans s34 S5
        refine ⟨_, rfl, D, rfl, ⟨_, .of (S35 _ _ hy)⟩, fun D3 hD3 => lc_mapL (fun H j y => ∃ r, rows[j]? = some r ∧ isRow K H r y) (fun _ _ _ _ s ⟨r, e, t, z, e1, q, e2, e3⟩ => ⟨r, e, t, z, e1, Kb.Same.seqT s q, e2, e3⟩) (G1 := fun _ => none) nw_none hD3 (.of (S35 _ _ hy)) (by rw [hl']; exact Nat.lt_of_le_of_lt hrows (by decide)) (fun j x H6 G2 Q2 hj s56 g12 g2 k2 => ?_) (gname_mono 5) fun H7 zs7 s57 hz7 hl7 rl7 => ?_⟩
        · obtain ⟨r, hrj⟩ : ∃ r, rows[j]? = some r := ⟨_, List.getElem?_eq_getElem (by have := (List.getElem?_eq_some_iff.mp hj).1; omega)⟩
          obtain ⟨l, rfl, hL⟩ := hI j x r hj hrj
          have hm := List.mem_of_getElem? hrj
          refine ⟨rfl, _, rfl, l, r, rfl, Same.seq s56 (Same.seq S35 hL), Nat.lt_of_le_of_lt (hr8 r hm) (by decide), fun zr q3 pr sr hq3 => .inl ⟨q3, _, rfl, .of upd_same, fun t ht => ?_⟩⟩
          refine k2 _ _ (Same.trans (Kb.same_upd hq3) (Kb.same_upd ht)) ⟨r, hrj, t, zr, rfl, .of (grow_new ?_ upd_same), pr, sr⟩
          exact (Kb.same_upd hq3).free ht
        · refine .inl ⟨D3, zs7, rfl, .of hz7, fun t ht => ?_⟩
          have S07 : Same H H7 := Same.trans S04 (Same.trans S5 s57)
          exact k _ t zs7 (Same.trans S07 (Kb.same_upd ht)) (S07.free ht) upd_same (by rw [hl7, hl']) fun i y r e1 e2 => by
            obtain ⟨r', e3, t', z, e4, q, e5, e6⟩ := rl7 i y e1
            rw [e2] at e3
            cases e3
            exact ⟨t', z, e4, Kb.Same.seqT (nw_right (Kb.same_upd ht)) (Kb.Same.seqT (nw_left (Same.trans S04 S5)) (Kb.Same.seqT (nw_lst hD3) q)), e5, e6⟩
end
end K1
set_option Elab.async false
set_option linter.all false
set_option maxRecDepth 100000
set_option maxHeartbeats 4000000
namespace K1
open PySem PySem.Spec PyProof.Rows L2 Kb Kc
def FC : List Str := ["<", "<=", "=", "!="]
structure Fact where
  lo : Str
  rel : Str
  hi : Str
def FactOk (sg : List Str) (x : Fact) : Prop := x.lo ∈ sg ∧ x.hi ∈ sg ∧ x.lo ≠ x.hi ∧ x.rel ∈ FC
def factW (x : Fact) : Str := x.lo ++ x.rel ++ x.hi
abbrev s_read_fact : Stmt := top 41
theorem sc_read_fact : FnScope ["word", "signs", "told"] ["word", "signs"] (defScope s_read_fact) := ⟨rfl, rfl, rfl, by decide +kernel, rfl, by decide +kernel, by decide +kernel⟩
def isFact (K : PySem.W.Frag) (H : Hp) (x : Fact) (y : V) : Prop := ∃ t : Addr, y = .ref t ∧ SqT K H t [.str x.lo, .str x.rel, .str x.hi]
def spReadFact (K : PySem.W.Frag) : Sp := fun vs H Q _ => ∃ (x : Fact) (sg : List Str) (a : Addr), vs = [.str (factW x), .ref a] ∧ SqT K H a (sg.map V.str) ∧ SgOk sg ∧ FactOk sg x ∧
  ∀ H' t, Same H H' → H t = none → H' t = some (.tup [.str x.lo, .str x.rel, .str x.hi]) → Q (.ref t) H'
theorem fc_in : ∀ r ∈ FC, (!inV (V.str r) [.str "<", .str "<=", .str "=", .str "!="]) = false := by decide +kernel
theorem fc_len : ∀ r ∈ FC, r.length ≤ 2 := by decide +kernel
section
variable (c d : Nat) (m : List Nat)
theorem len3 : Str.length ⟨(c :: (m ++ [d])).toArray⟩ = m.length + 2 := by simp [Str.length]
theorem cut_a : cutS ⟨(c :: (m ++ [d])).toArray⟩ none (some 1) = ⟨#[c]⟩ := by
  have e : HT.sIx (Str.length ⟨(c :: (m ++ [d])).toArray⟩) (Str.length ⟨(c :: (m ++ [d])).toArray⟩) (some 1) = 1 := by
    show min ((1 : Int).toNat) (Str.length ⟨(c :: (m ++ [d])).toArray⟩) = 1
    rw [len3]
    omega
  have e2 : HT.sIx (Str.length ⟨(c :: (m ++ [d])).toArray⟩) 0 none = 0 := rfl
  unfold cutS
  rw [e, e2]
  simp
theorem cut_c : cutS ⟨(c :: (m ++ [d])).toArray⟩ (some (-1)) none = ⟨#[d]⟩ := cut_last (c :: m) d
theorem cut_b : cutS ⟨(c :: (m ++ [d])).toArray⟩ (some 1) (some (-1)) = ⟨m.toArray⟩ := by
  have e : HT.sIx (Str.length ⟨(c :: (m ++ [d])).toArray⟩) 0 (some 1) = 1 := by
    show min ((1 : Int).toNat) (Str.length ⟨(c :: (m ++ [d])).toArray⟩) = 1
    rw [len3]
    omega
  have e2 : HT.sIx (Str.length ⟨(c :: (m ++ [d])).toArray⟩) (Str.length ⟨(c :: (m ++ [d])).toArray⟩) (some (-1)) = m.length + 1 := by
    show (-1 + ((Str.length ⟨(c :: (m ++ [d])).toArray⟩ : Nat) : Int)).toNat = m.length + 1
    rw [len3]
    omega
  unfold cutS
  rw [e, e2]
  simp
end
section
variable {P : Program} {w : World} {K : PySem.W.Frag} {mg : Str → Option Value} {base : Heap}
theorem ok_read_fact {f : Addr} {fd : FuncData} (F : Fun K "read_fact" "read_fact" s_read_fact f fd) (B : Bl mg) (C : Gb K mg) : FnOk P w K mg base CX0 1 f fd ["word", "signs"] (spReadFact K) := by
  obtain ⟨aF, gFACTS, hF⟩ := C.FACTS
  refine F.ok sc_read_fact (fun vs H Q E h => ?_) (fun cdv A outer s H vs Q E hr h => ?_)
  · obtain ⟨x, sg, a, rfl, _⟩ := h
    rfl
  · obtain ⟨⟨lo, rel, hi⟩, sg, a, rfl, hS, hsg, ⟨hlo, hhi, hne, hrel⟩, k⟩ := h
    simp only at hlo hhi hne hrel
    obtain ⟨c, rfl, _⟩ := sg_one lo (hsg.2.2.2 _ hlo)
    obtain ⟨d, rfl, _⟩ := sg_one hi (hsg.2.2.2 _ hhi)
    have ew : factW ⟨⟨#[c]⟩, rel, ⟨#[d]⟩⟩ = ⟨(c :: (rel.cps.toList ++ [d])).toArray⟩ := by
      apply str_ext
      show ((#[c] ++ rel.cps) ++ #[d]).toList = _
      simp
    have er : (⟨rel.cps.toList.toArray⟩ : Str) = rel := str_ext (by simp)
    have hl : (factW ⟨⟨#[c]⟩, rel, ⟨#[d]⟩⟩).length ≤ sizeLine := by
      rw [ew, len3]
      have := fc_len rel hrel
      have e : rel.cps.toList.length = rel.length := by simp [Str.length]
      rw [e]
      exact Nat.le_trans (show rel.length + 2 ≤ 4 by omega) (by decide)
    rw [ew] at hl ⊢
    refine ⟨_, (pss_cons (ps_set (i := 2) sc_read_fact.nd rfl (Or.inl rfl) (pe_tup (pa_cons (pe_slice sl_str (pv 0) po_none (po_some pe_int)) (pa_cons (pe_slice sl_str (pv 0) (po_some pe_int) (po_some (pe_un un_neg pe_int))) (pa_cons (pe_slice sl_str (pv 0) (po_some (pe_un un_neg pe_int)) po_none) pa_nil)))))
      (pss_cons (ps_if (PW.pt (pw_or (pt_cmpR op_notIn_seq (pe_ix ix_tup (pv 2) pe_int (fun _ _ => rfl)) (pe_glob (v := .ref aF) (by rfl) gFACTS rfl) rfl) (pw_or1 (pt_cmpR op_eq (pe_ix ix_tup (pv 2) pe_int (fun _ _ => rfl)) (pe_ix ix_tup (pv 2) pe_int (fun _ _ => rfl)) (nomark _)))))
        (pss_one (ps_ret pe_non))
        pss_nil)
      (pss_cons (ps_if (PW.pt (pw_or (pt_cmpR op_notIn_seq (pe_ix ix_tup (pv 2) pe_int (fun _ _ => rfl)) (pv 1) rfl) (pw_or1 (pt_cmpR op_notIn_seq (pe_ix ix_tup (pv 2) pe_int (fun _ _ => rfl)) (pv 1) rfl))))
        (pss_one (ps_ret pe_non))
        pss_nil)
      (pss_one (ps_ret (pv 2)))))), ?_⟩
    refine ⟨_, rfl, _, rfl, _, rfl, hl, _, rfl, _, rfl, _, rfl, _, rfl, _, rfl, hl, _, rfl, _, rfl, _, rfl, _, rfl, hl, (by show 3 ≤ sizeLine; decide), fun t ht => ?_⟩
    rw [cut_a, cut_b, cut_c, er]
    have eF : (!inV (V.str rel) [.str "<", .str "<=", .str "=", .str "!="]) = false := fc_in rel hrel
    have eN : decide (V.str ⟨#[c]⟩ = V.str ⟨#[d]⟩) = false := decide_eq_false fun z => hne (by injection z)
    have e1 : (upd H t (.tup [.str ⟨#[c]⟩, .str rel, .str ⟨#[d]⟩])) t = some (.tup [.str ⟨#[c]⟩, .str rel, .str ⟨#[d]⟩]) := upd_same
    have S1 : Same H (upd H t (.tup [.str ⟨#[c]⟩, .str rel, .str ⟨#[d]⟩])) := Kb.same_upd ht
    obtain ⟨J1, q1⟩ : ∃ z, z = upd H t (.tup [.str ⟨#[c]⟩, .str rel, .str ⟨#[d]⟩]) := ⟨_, rfl⟩
    rw [← q1] at e1 S1 ⊢
    refine ⟨_, rfl, t, _, _, _, rfl, rfl, .of e1, atI_nat' (by decide) (by rfl), aF, _, rfl, .inr (hF J1), rfl, by rfl, _, rfl, ?_⟩
    show if (!inV (V.str rel) [.str "<", .str "<=", .str "=", .str "!="]) = true then _ else _
    rw [eF]
    refine iteF ?_
    refine ⟨_, rfl, t, _, _, _, rfl, rfl, .of e1, atI_nat' (by decide) (by rfl), _, rfl, t, _, _, _, rfl, rfl, .of e1, atI_nat' (by decide) (by rfl), rfl, _, rfl, ?_⟩
    show if decide (V.str ⟨#[c]⟩ = V.str ⟨#[d]⟩) = true then _ else _
    rw [eN]
    refine iteF ?_
    refine ⟨_, rfl, t, _, _, _, rfl, rfl, .of e1, atI_nat' (by decide) (by rfl), _, rfl, a, _, rfl, .inr (Kb.Same.seqT S1 hS), rfl, flat_sg sg, _, rfl, ?_⟩
    show if (!inV (V.str ⟨#[c]⟩) (sg.map V.str)) = true then _ else _
    rw [in_sg hlo]
    refine iteF ?_
    refine ⟨_, rfl, t, _, _, _, rfl, rfl, .of e1, atI_nat' (by decide) (by rfl), _, rfl, a, _, rfl, .inr (Kb.Same.seqT S1 hS), rfl, flat_sg sg, _, rfl, ?_⟩
    show if (!inV (V.str ⟨#[d]⟩) (sg.map V.str)) = true then _ else _
    rw [in_sg hhi]
    refine iteF ?_
    exact ⟨_, rfl, k J1 t S1 ht e1⟩
end
end K1
set_option Elab.async false
set_option linter.all false
set_option maxRecDepth 100000
set_option maxHeartbeats 4000000
namespace K1
open PySem PySem.Spec PyProof.Rows L2 Kb Kc
def isFig (s : Str) : Bool := (["0", "1", "2", "9"] : List Str).any fun x => decide (x = s)
def Keeps (r : Str → Nat) (x : Fact) : Prop := (x.rel = "<" → r x.lo < r x.hi) ∧ (x.rel = "<=" → r x.lo ≤ r x.hi) ∧ (x.rel = "=" → r x.lo = r x.hi) ∧ (x.rel = "!=" → r x.lo ≠ r x.hi)
/-- a world: ranks that keep all facts; where figures stand together, no other sign lies among them -/
def WorldOk (sg : List Str) (word : Str) (xs : List Fact) : Prop := ∃ r : Str → Nat, (∀ x ∈ xs, Keeps r x) ∧
  (word = "figures" → ∀ s ∈ sg, isFig s = false → (∀ f ∈ sg, isFig f = true → r s < r f) ∨ (∀ f ∈ sg, isFig f = true → r f < r s))
def FactsAt (K : PySem.W.Frag) (H : Hp) (xs : List Fact) (ys : List V) : Prop := ys.length = xs.length ∧ ∀ (i : Nat) (y : V) (x : Fact), ys[i]? = some y → xs[i]? = some x → isFact K H x y
def spHasWorld (K : PySem.W.Frag) : Sp := fun vs H Q _ => ∃ (a t : Addr) (word : Str) (sg : List Str) (xs : List Fact) (ys : List V), vs = [.ref a, .str word, .ref t] ∧ SgT H a sg ∧ SqT K H t ys ∧ FactsAt K H xs ys ∧
  SgOk sg ∧ (∀ x ∈ xs, FactOk sg x) ∧ xs.length ≤ 12 ∧ WorldOk sg word xs ∧ ∀ H', Same H H' → Q (.bl true) H'
abbrev s_has_world : Stmt := top 27
abbrev s_read_facts : Stmt := top 42
theorem sc_read_facts : FnScope ["words", "signs", "word", "facts", "told", "fact"] ["words", "signs", "word"] (defScope s_read_facts) := ⟨rfl, rfl, rfl, by decide +kernel, rfl, by decide +kernel, by decide +kernel⟩
def spReadFacts (K : PySem.W.Frag) : Sp := fun vs H Q _ => ∃ (p a : Addr) (word : Str) (sg : List Str) (xs : List Fact), vs = [.ref p, .ref a, .str word] ∧ SqL K H p (xs.map fun x => V.str (factW x)) ∧ SgT H a sg ∧
  SgOk sg ∧ (∀ x ∈ xs, FactOk sg x) ∧ xs.length ≤ 12 ∧ WorldOk sg word xs ∧ ∀ H' t ys, Same H H' → H t = none → H' t = some (.tup ys) → FactsAt K (Nw H H') xs ys → Q (.ref t) H'
section
variable {P : Program} {w : World} {K : PySem.W.Frag} {mg : Str → Option Value} {base : Heap}
theorem isFact.same {H H' : Hp} {x : Fact} {y : V} (s : Same H H') (h : isFact K H x y) : isFact K H' x y := by
  obtain ⟨t, e, q⟩ := h
  exact ⟨t, e, Kb.Same.seqT s q⟩
theorem FactsAt.same {H H' : Hp} {xs : List Fact} {ys : List V} (s : Same H H') (h : FactsAt K H xs ys) : FactsAt K H' xs ys := ⟨h.1, fun i y x e1 e2 => (h.2 i y x e1 e2).same s⟩
theorem ok_read_facts {f fread_fact fhas_world : Addr} {fd fdread_fact fdhas_world : FuncData} (F : Fun K "read_facts" "read_facts" s_read_facts f fd) (B : Bl mg) (C : Gb K mg)
    (Fread_fact : Fun K "read_fact" "read_fact" s_read_fact fread_fact fdread_fact) (bread_fact : Binds K fdread_fact ["word", "signs"] []) (gread_fact : mg "read_fact" = some (.ref fread_fact))
    (Fhas_world : Fun K "has_world" "has_world" s_has_world fhas_world fdhas_world) (bhas_world : Binds K fdhas_world ["signs", "word", "facts"] []) (ghas_world : mg "has_world" = some (.ref fhas_world))
    (Ghas_world : FnOk P w K mg base CX0 3 fhas_world fdhas_world ["signs", "word", "facts"] (spHasWorld K)) : FnOk P w K mg base CX0 4 f fd ["words", "signs", "word"] (spReadFacts K) := by
  have Gread_fact : FnOk P w K mg base CX0 1 fread_fact fdread_fact ["word", "signs"] (spReadFact K) := ok_read_fact Fread_fact B C
  obtain ⟨t1, gMOST_FACTS⟩ := C.MOST_FACTS
  refine F.ok sc_read_facts (fun vs H Q E h => ?_) (fun cdv A outer s H vs Q E hr h => ?_)
  · obtain ⟨p, a, word, sg, xs, rfl, _⟩ := h
    rfl
  · obtain ⟨p, a, word, sg, xs, rfl, hP, hS, hsg, hx, l12, hw, k⟩ := h
    refine ⟨_, (pss_cons (ps_if (pt_cmpR op_gt (pe_callB call_len_seq (by rfl) B.len (by decide +kernel) (pa_cons (pv 0) pa_nil)) (pe_glob (v := .int _) (by rfl) gMOST_FACTS ⟨_, rfl⟩) (nomark _))
        (pss_one (ps_ret pe_non))
        pss_nil)
      (pss_cons (ps_setLc (i := 3) (own := [("told", 4)]) (g := gName 4) (tt := tYes) rfl sc_read_facts.nd rfl rfl (sw_true rfl rfl rfl (by decide +kernel)) (pi_list (pv 0)) (blkOk_by (own := [("told", 4)]) (N := ["words", "signs", "word", "facts", "told", "fact"]) (sc := defScope s_read_facts) (by decide +kernel)) (fun _ _ _ _ _ => (pg_name (i := 4) sc_read_facts.nd rfl (Or.inl rfl))) (fun _ _ _ _ _ => pts_nil) (fun _ _ _ _ _ => (pe_call Gread_fact (hr.mono (by decide)) (by rfl) gread_fact Fread_fact.kp bread_fact .nil pass0 (pa_cons (pv 4) (pa_cons (pv 1) pa_nil)))))
      (pss_cons (ps_if (pt_val (pe_callB (cr_any rfl) (by rfl) B.any (by decide +kernel) (pa_cons (pe_lc (own := [("fact", 5)]) (g := gName 5) (tt := tYes) rfl sc_read_facts.nd (pi_list (pv 3)) (blkOk_by (own := [("fact", 5)]) (N := ["words", "signs", "word", "facts", "told", "fact"]) (sc := defScope s_read_facts) (by decide +kernel)) (fun _ _ _ _ _ => (pg_name (i := 5) sc_read_facts.nd rfl (Or.inl rfl))) (fun _ _ _ _ _ => pts_nil) (fun _ _ _ _ _ => (pe_cmp (pc_isN (pv 5)) rfl))) pa_nil)))
        (pss_one (ps_ret pe_non))
        pss_nil)
      (pss_cons (ps_if (pt_not (pt_val (pe_call Ghas_world hr (by rfl) ghas_world Fhas_world.kp bhas_world .nil pass0 (pa_cons (pv 1) (pa_cons (pv 2) (pa_cons (pe_tupleOf (by rfl) B.tuple (pv 3)) pa_nil))))))
        (pss_one (ps_ret pe_non))
        pss_nil)
      (pss_one (ps_ret (pe_tupleOf (by rfl) B.tuple (pv 3)))))))), ?_⟩
    refine ⟨_, rfl, p, _, rfl, .inl hP, _, _, rfl, rfl, _, rfl, ?_⟩
    rw [List.length_map, decide_eq_false (by omega)]
    refine iteF ?_
    refine ⟨_, rfl, p, rfl, ⟨_, hP⟩, fun D hD => lc_mapL (fun H j y => ∃ x, xs[j]? = some x ∧ isFact K H x y) (fun _ _ _ _ s ⟨x, e, h⟩ => ⟨x, e, h.same s⟩) (G1 := fun _ => none) nw_none hD hP (by rw [List.length_map]; exact Nat.lt_of_le_of_lt l12 (by decide)) (fun j v H2 G2 Q2 hj s12 g12 g2 k2 => ?_) (gname_mono _) fun H3 ys s13 hy hl rl => ?_⟩
    · obtain ⟨x, hxj, rfl⟩ : ∃ x, xs[j]? = some x ∧ v = V.str (factW x) := by
        rw [List.getElem?_map] at hj
        cases e : xs[j]? with
        | none =>
          rw [e] at hj
          cases hj
        | some x =>
          rw [e] at hj
          exact ⟨x, rfl, (Option.some.inj hj).symm⟩
      have hm := List.mem_of_getElem? hxj
      exact ⟨rfl, _, rfl, _, rfl, x, sg, a, rfl, (hS.same s12).sq, hsg, hx x hm, fun H4 t s24 nt e4 => k2 H4 _ s24 ⟨x, hxj, t, rfl, .of (grow_new nt e4)⟩⟩
    · have hl' : ys.length = xs.length := by rw [hl, List.length_map]
      have hN : FactsAt K (Nw H H3) xs ys := ⟨hl', fun i y x e1 e2 => by
        obtain ⟨x', e3, h⟩ := rl i y e1
        rw [e2] at e3
        cases e3
        exact h.same (nw_lst hD)⟩
      have hI : FactsAt K H3 xs ys := hN.same (nw_in s13)
      refine ⟨_, rfl, D, rfl, ⟨_, .of hy⟩, fun D2 hD2 => lc_mapL (okB false) (fun _ _ _ _ _ h => h) (Same.refl H3) hD2 (.of hy) (by rw [hl']; exact Nat.lt_of_le_of_lt l12 (by decide)) (fun j v H4 G2 Q2 hj s34 g12 g2 k2 => ?_) (gname_mono _) fun H5 zs s35 hz hl2 rl2 => ?_⟩
      · obtain ⟨x, hxj⟩ : ∃ x, xs[j]? = some x := ⟨_, List.getElem?_eq_getElem (by have := (List.getElem?_eq_some_iff.mp hj).1; omega)⟩
        obtain ⟨t, rfl, _⟩ := hI.2 j v x hj hxj
        refine ⟨rfl, _, rfl, ?_⟩
        show Q2 (V.bl (decide (V.ref t = V.non))) H4
        rw [decide_eq_false (by intro z; cases z)]
        exact k2 _ _ (Same.refl _) rfl
      · have e := all_bl rl2
        refine ⟨D2, List.replicate zs.length false, rfl, .of (by rw [← e]; exact hz), ?_⟩
        have hany : (List.replicate zs.length false).any id = false := by simp
        rw [hany]
        refine ⟨_, rfl, iteF ?_⟩
        have S05 : Same H H5 := Same.trans s13 s35
        refine ⟨_, rfl, _, rfl, _, rfl, .inl ⟨D, ys, rfl, .of (s35 _ _ hy), fun t ht => ?_⟩⟩
        have S6 : Same H (upd H5 t (.tup ys)) := Same.trans S05 (Kb.same_upd ht)
        refine ⟨a, t, word, sg, xs, ys, rfl, hS.same S6, .of upd_same, (hI.same s35).same (Kb.same_upd ht), hsg, hx, l12, hw, fun H7 s67 => ?_⟩
        refine ⟨_, rfl, iteF ?_⟩
        have S57 : Same H5 H7 := Same.trans (Kb.same_upd ht) s67
        refine ⟨_, rfl, .inl ⟨D, ys, rfl, .of (S57 _ _ (s35 _ _ hy)), fun t2 ht2 => ?_⟩⟩
        have S07 : Same H H7 := Same.trans S05 S57
        exact k _ t2 ys (Same.trans S07 (Kb.same_upd ht2)) (S07.free ht2) upd_same (((hN.same (nw_right s35)).same (nw_right S57)).same (nw_right (Kb.same_upd ht2)))
end
end K1
set_option Elab.async false
set_option linter.all false
set_option maxRecDepth 100000
set_option maxHeartbeats 4000000
namespace K1
open PySem PySem.Spec PyProof.Rows L2 Kb Kc
/-- figures stand together: no row mixes them with others, and their rows are neighbours -/
def FigOk (rows : List (List Str)) : Prop := ∃ A M Z, rows = A ++ M ++ Z ∧ (∀ r ∈ M, ∀ s ∈ r, isFig s = true) ∧ ∀ r ∈ A ++ Z, ∀ s ∈ r, isFig s = false
def RowsAt (K : PySem.W.Frag) (H : Hp) (rows : List (List Str)) (ys : List V) : Prop := ys.length = rows.length ∧ ∀ (i : Nat) (y : V) (r : List Str), ys[i]? = some y → rows[i]? = some r → isRow K H r y
theorem isRow.same {K : PySem.W.Frag} {H H' : Hp} {r : List Str} {y : V} (s : Same H H') (h : isRow K H r y) : isRow K H' r y := by
  obtain ⟨t, z, e, q, a, b⟩ := h
  exact ⟨t, z, e, Kb.Same.seqT s q, a, b⟩
theorem RowsAt.same {K : PySem.W.Frag} {H H' : Hp} {rows : List (List Str)} {ys : List V} (s : Same H H') (h : RowsAt K H rows ys) : RowsAt K H' rows ys := ⟨h.1, fun i y x e1 e2 => (h.2 i y x e1 e2).same s⟩
def spTogether (K : PySem.W.Frag) : Sp := fun vs H Q _ => ∃ (t : Addr) (ys : List V) (rows : List (List Str)), vs = [.ref t] ∧ SqT K H t ys ∧ RowsAt K H rows ys ∧ (∀ r ∈ rows, r ≠ []) ∧ (∀ r ∈ rows, ∀ s ∈ r, s ∈ SG) ∧ (∀ r ∈ rows, r.length ≤ 8) ∧ rows.length ≤ 8 ∧ FigOk rows ∧ ∀ H', Same H H' → Q (.bl true) H'
/-- a pass: by length; by facts; by classes -/
inductive Ps where
  | length
  | known (word : Str) (xs : List Fact)
  | cls (word : Str) (rows : List (List Str))
def Ps.words : Ps → List Str
  | .length => ["length"]
  | .known w xs => w :: "known" :: xs.map factW
  | .cls w rows => w :: rows.map rowW
def RW3 : List Str := ["ranks", "figures", "back"]
def Ps.ok (sg : List Str) : Ps → Prop
  | .length => True
  | .known w xs => w ∈ RW3 ∧ (∀ x ∈ xs, FactOk sg x) ∧ xs.length ≤ 12 ∧ WorldOk sg w xs
  | .cls w rows => w ∈ RW3 ∧ ClsOk sg rows ∧ (w = "figures" → FigOk rows)
/-- the told tuple of a pass -/
def isPass (K : PySem.W.Frag) (H : Hp) : Ps → V → Prop
  | .length, y => ∃ t : Addr, y = .ref t ∧ SqT K H t [.str "length", .non, .non]
  | .known w xs, y => ∃ (t tf : Addr) (ys : List V), y = .ref t ∧ SqT K H t [.str w, .non, .ref tf] ∧ SqT K H tf ys ∧ FactsAt K H xs ys
  | .cls w rows, y => ∃ (t tc : Addr) (ys : List V), y = .ref t ∧ SqT K H t [.str w, .ref tc, .non] ∧ SqT K H tc ys ∧ RowsAt K H rows ys
theorem isPass.same {K : PySem.W.Frag} {H H' : Hp} (s : Same H H') : ∀ {p : Ps} {y : V}, isPass K H p y → isPass K H' p y
  | .length, _, ⟨t, e, q⟩ => ⟨t, e, Kb.Same.seqT s q⟩
  | .known _ _, _, ⟨t, tf, ys, e, q, r, f⟩ => ⟨t, tf, ys, e, Kb.Same.seqT s q, Kb.Same.seqT s r, f.same s⟩
  | .cls _ _, _, ⟨t, tf, ys, e, q, r, f⟩ => ⟨t, tf, ys, e, Kb.Same.seqT s q, Kb.Same.seqT s r, f.same s⟩
abbrev s_has_figures_together : Stmt := top 40
abbrev s_read_ranks : Stmt := top 43
theorem sc_read_ranks : FnScope ["words", "signs", "word", "facts", "classes"] ["words", "signs"] (defScope s_read_ranks) := ⟨rfl, rfl, rfl, by decide +kernel, rfl, by decide +kernel, by decide +kernel⟩
def spReadRanks (K : PySem.W.Frag) : Sp := fun vs H Q _ => ∃ (p a : Addr) (ps : Ps) (sg : List Str), vs = [.ref p, .ref a] ∧ ps ≠ .length ∧ SqL K H p (ps.words.map V.str) ∧ SgT H a sg ∧ SgOk sg ∧ ps.ok sg ∧
  ∀ H' y, Same H H' → isPass K (Nw H H') ps y → Q y H'
theorem join_mem {c : Nat} {sep : Str} : ∀ {ws : List Str}, c ∈ (sep.join ws).cps.toList → c ∈ sep.cps.toList ∨ ∃ w ∈ ws, c ∈ w.cps.toList
  | [], h => by
    have : (sep.join []).cps.toList = [] := rfl
    rw [this] at h
    cases h
  | [x], h => .inr ⟨x, .head _, h⟩
  | x :: y :: r, h => by
    rw [join_cons2] at h
    rcases List.mem_append.mp h with h | h
    · exact .inr ⟨x, .head _, h⟩
    rcases List.mem_append.mp h with h | h
    · exact .inl h
    · rcases join_mem (ws := y :: r) h with h | ⟨w, h1, h2⟩
      · exact .inl h
      · exact .inr ⟨w, .tail _ h1, h2⟩
theorem strOk_of {s : Str} (h : ∀ c ∈ s.cps.toList, c < 1000) : PyData.strOk s = true := by
  unfold PyData.strOk
  rw [← Array.all_toList, List.all_eq_true]
  intro c hc
  have := h c hc
  exact decide_eq_true (by omega)
theorem sg_small : ∀ s ∈ SG, ∀ c ∈ s.cps.toList, c < 1000 := by
  intro s hs
  have h : (SG.all fun s => s.cps.toList.all fun c => decide (c < 1000)) = true := by decide +kernel
  have := List.all_eq_true.mp h s hs
  intro c hc
  exact of_decide_eq_true (List.all_eq_true.mp this c hc)
theorem row_ok {r : List Str} (hf : ∀ s ∈ r, s ∈ SG) : PyData.strOk (rowW r) = true := by
  refine strOk_of fun c hc => ?_
  rcases join_mem hc with h | ⟨w, h1, h2⟩
  · rw [eq_eq] at h
    simp at h
    omega
  · exact sg_small w (hf w h1) c h2
theorem row_known {r : List Str} (ne : r ≠ []) (hf : ∀ s ∈ r, s ∈ SG) : rowW r ≠ "known" := fun e => by
  have h := row_split ne hf
  rw [e] at h
  have k : Txt.split ("known" : Str) "=" = [("known" : Str)] := by decide +kernel
  rw [k] at h
  have m : ("known" : Str) ∈ SG := hf _ (by rw [← h]; exact .head _)
  exact absurd m (by decide +kernel)
theorem rows_le : ∀ {rows : List (List Str)}, (∀ r ∈ rows, r ≠ []) → rows.length ≤ rows.flatten.length
  | [], _ => Nat.zero_le _
  | r :: t, h => by
    have h1 : 1 ≤ r.length := by
      cases r with
      | nil => exact absurd rfl (h [] (.head _))
      | cons => simp
    have := rows_le (rows := t) fun x hx => h x (.tail _ hx)
    simp only [List.length_cons, List.flatten_cons, List.length_append]
    omega
theorem cut12 (x y : V) (r : List V) : cutV (x :: y :: r) (some 1) (some 2) = [y] := by simp [cutV, HT.sIx]
theorem cut2 (x y : V) (r : List V) : cutV (x :: y :: r) (some 2) none = r := by simp [cutV, HT.sIx]
theorem shaped1 {z : Str} (h : PyData.strOk z = true) : SeqAt.shaped (.list [.str z]) = true := by
  simp [SeqAt.shaped, PyData.canLay0, PyData.canLayAll0, PyData.depth, PyData.depthAll, h]
section
variable {P : Program} {w : World} {K : PySem.W.Frag} {mg : Str → Option Value} {base : Heap}
theorem ok_read_ranks {f fread_facts fread_classes fhas_figures_together : Addr} {fd fdread_facts fdread_classes fdhas_figures_together : FuncData} (F : Fun K "read_ranks" "read_ranks" s_read_ranks f fd) (B : Bl mg)
    (Fread_facts : Fun K "read_facts" "read_facts" s_read_facts fread_facts fdread_facts) (bread_facts : Binds K fdread_facts ["words", "signs", "word"] []) (gread_facts : mg "read_facts" = some (.ref fread_facts)) (Gread_facts : FnOk P w K mg base CX0 4 fread_facts fdread_facts ["words", "signs", "word"] (spReadFacts K))
    (Fread_classes : Fun K "read_classes" "read_classes" s_read_classes fread_classes fdread_classes) (bread_classes : Binds K fdread_classes ["words", "signs"] []) (gread_classes : mg "read_classes" = some (.ref fread_classes))
    (Fhas_figures_together : Fun K "has_figures_together" "has_figures_together" s_has_figures_together fhas_figures_together fdhas_figures_together) (bhas_figures_together : Binds K fdhas_figures_together ["classes"] []) (ghas_figures_together : mg "has_figures_together" = some (.ref fhas_figures_together))
    (Ghas_figures_together : FnOk P w K mg base CX0 1 fhas_figures_together fdhas_figures_together ["classes"] (spTogether K)) : FnOk P w K mg base CX0 5 f fd ["words", "signs"] (spReadRanks K) := by
  have Gread_classes : FnOk P w K mg base CX0 1 fread_classes fdread_classes ["words", "signs"] (spReadClasses K) := ok_read_classes Fread_classes B
  refine F.ok sc_read_ranks (fun vs H Q E h => ?_) (fun cdv A outer s H vs Q E hr h => ?_)
  · obtain ⟨p, a, ps, sg, rfl, _⟩ := h
    rfl
  · obtain ⟨p, a, ps, sg, rfl, hne, hP, hS, hsg, hok, k⟩ := h
    refine ⟨_, (pss_cons (ps_set (i := 2) sc_read_ranks.nd rfl (Or.inl rfl) (pe_ix ix_list (pv 0) pe_int (fun _ _ => rfl)))
      (pss_cons (ps_if (pt_cmpR (op_eqD hr.units) (pe_slice sl_list (pv 0) (po_some pe_int) (po_some pe_int)) (pe_lstB (pa_cons pe_str pa_nil)) (nomark _))
        (pss_cons (ps_set (i := 3) sc_read_ranks.nd rfl (Or.inl rfl) (pe_call Gread_facts hr (by rfl) gread_facts Fread_facts.kp bread_facts .nil pass0 (pa_cons (pe_slice sl_list (pv 0) (po_some pe_int) po_none) (pa_cons (pv 1) (pa_cons (pv 2) pa_nil)))))
      (pss_one (ps_ret (pe_ifExp (pt_cmp (pc_isN (pv 3)) rfl) pe_non (pe_tup (pa_cons (pv 2) (pa_cons pe_non (pa_cons (pv 3) pa_nil))))))))
        pss_nil)
      (pss_cons (ps_set (i := 4) sc_read_ranks.nd rfl (Or.inl rfl) (pe_call Gread_classes (hr.mono (by decide)) (by rfl) gread_classes Fread_classes.kp bread_classes .nil pass0 (pa_cons (pe_slice sl_list (pv 0) (po_some pe_int) po_none) (pa_cons (pv 1) pa_nil))))
      (pss_cons (ps_if (PW.pt (pw_or (pt_cmp (pc_isN (pv 4)) rfl) (pw_or1 (PW.pt (pw_and (pt_cmpR op_eq (pv 2) pe_str (nomark _)) (pw_and1 (pt_not (pt_val (pe_call Ghas_figures_together (hr.mono (by decide)) (by rfl) ghas_figures_together Fhas_figures_together.kp bhas_figures_together .nil pass0 (pa_cons (pv 4) pa_nil))))))))))
        (pss_one (ps_ret pe_non))
        pss_nil)
      (pss_one (ps_ret (pe_tup (pa_cons (pv 2) (pa_cons (pv 4) (pa_cons pe_non pa_nil)))))))))), ?_⟩
    cases ps with
    | length => exact absurd rfl hne
    | known word xs =>
      obtain ⟨hw3, hx, l12, hwd⟩ := hok
      refine ⟨_, rfl, p, _, _, _, rfl, rfl, hP, atI_nat' (by decide) (by rfl), ?_⟩
      refine ⟨_, rfl, _, rfl, _, rfl, p, _, rfl, hP, fun q hq => ?_⟩
      rw [show (Ps.known word xs).words.map V.str = V.str word :: V.str "known" :: (xs.map factW).map V.str from rfl, cut12]
      refine ⟨(by show 1 ≤ sizeLine; decide), fun q2 hq2 _ => ?_⟩
      have eq1 : (upd (upd H q (.lst [V.str "known"])) q2 (.lst [V.str "known"])) q = some (.lst [V.str "known"]) := Kb.same_upd hq2 _ _ upd_same
      have eq2 : (upd (upd H q (.lst [V.str "known"])) q2 (.lst [V.str "known"])) q2 = some (.lst [V.str "known"]) := upd_same
      have S1 : Same H (upd (upd H q (.lst [V.str "known"])) q2 (.lst [V.str "known"])) := Same.trans (Kb.same_upd hq) (Kb.same_upd hq2)
      obtain ⟨J1, qJ⟩ : ∃ z, z = (upd (upd H q (.lst [V.str "known"])) q2 (.lst [V.str "known"])) := ⟨_, rfl⟩
      rw [← qJ] at eq1 eq2 S1 ⊢
      have kn : PyData.strOk "known" = true := by decide +kernel
      refine ⟨_, _, .lst (.of eq1) (.cons (.str _) .nil), .lst (.of eq2) (.cons (.str _) .nil), shaped1 kn, shaped1 kn, ?_⟩
      rw [show PyData.eqv (.list [.str "known"]) (.list [.str "known"]) = true from by decide +kernel]
      refine ⟨_, rfl, iteT ?_⟩
      refine ⟨_, rfl, _, rfl, p, _, rfl, Same.seq S1 hP, fun p2 hp2 => ?_⟩
      rw [show (Ps.known word xs).words.map V.str = V.str word :: V.str "known" :: (xs.map factW).map V.str from rfl, cut2]
      have S2 : Same H (upd J1 p2 (.lst ((xs.map factW).map V.str))) := Same.trans S1 (Kb.same_upd hp2)
      refine ⟨_, rfl, _, rfl, p2, a, word, sg, xs, rfl, .of (by rw [upd_same, List.map_map]; rfl), hS.same S2, hsg, hx, l12, hwd, fun H3 t ys s23 nt e3 fa => ?_⟩
      refine ⟨_, rfl, ?_⟩
      show ∃ k, V.bl (decide (V.ref t = V.non)) = V.bl k ∧ _
      refine ⟨_, rfl, ?_⟩
      rw [decide_eq_false (by intro z; cases z)]
      refine iteF ⟨_, rfl, _, rfl, (by show 3 ≤ sizeLine; decide), fun t2 ht2 => ?_⟩
      exact k _ _ (Same.trans S2 (Same.trans s23 (Kb.same_upd ht2))) ⟨t2, t, ys, rfl, .of (nw_mk ((Same.trans S2 s23).free ht2) upd_same), .of (nw_mk (S2.free nt) (Kb.same_upd ht2 _ _ e3)), (fa.same (nw_left S2)).same (nw_right (Kb.same_upd ht2))⟩
    | cls word rows =>
      obtain ⟨hw3, hcl, hfg⟩ := hok
      have hin : ∀ r ∈ rows, ∀ s ∈ r, s ∈ SG := fun r hr s hs => hsg.2.2.2 s (hcl.2.subset (List.mem_flatten.mpr ⟨r, hr, hs⟩))
      have hrows : rows.length ≤ 8 := Nat.le_trans (rows_le hcl.1) (by rw [hcl.2.length_eq]; exact hsg.2.1)
      obtain ⟨r0, rr, rfl⟩ : ∃ r0 rr, rows = r0 :: rr := by
        cases rows with
        | nil =>
          have := hcl.2.length_eq
          simp only [List.flatten_nil, List.length_nil] at this
          exact absurd (List.eq_nil_of_length_eq_zero this.symm) hsg.1
        | cons a b => exact ⟨a, b, rfl⟩
      have hk := row_known (hcl.1 r0 (.head _)) (hin r0 (.head _))
      refine ⟨_, rfl, p, _, _, _, rfl, rfl, hP, atI_nat' (by decide) (by rfl), ?_⟩
      refine ⟨_, rfl, _, rfl, _, rfl, p, _, rfl, hP, fun q hq => ?_⟩
      rw [show (Ps.cls word (r0 :: rr)).words.map V.str = V.str word :: V.str (rowW r0) :: (rr.map rowW).map V.str from rfl, cut12]
      refine ⟨(by show 1 ≤ sizeLine; decide), fun q2 hq2 _ => ?_⟩
      have eq1 : (upd (upd H q (.lst [V.str (rowW r0)])) q2 (.lst [V.str "known"])) q = some (.lst [V.str (rowW r0)]) := Kb.same_upd hq2 _ _ upd_same
      have eq2 : (upd (upd H q (.lst [V.str (rowW r0)])) q2 (.lst [V.str "known"])) q2 = some (.lst [V.str "known"]) := upd_same
      have S1 : Same H (upd (upd H q (.lst [V.str (rowW r0)])) q2 (.lst [V.str "known"])) := Same.trans (Kb.same_upd hq) (Kb.same_upd hq2)
      obtain ⟨J1, qJ⟩ : ∃ z, z = (upd (upd H q (.lst [V.str (rowW r0)])) q2 (.lst [V.str "known"])) := ⟨_, rfl⟩
      rw [← qJ] at eq1 eq2 S1 ⊢
      have kn : PyData.strOk "known" = true := by decide +kernel
      refine ⟨_, _, .lst (.of eq1) (.cons (.str _) .nil), .lst (.of eq2) (.cons (.str _) .nil), shaped1 (row_ok (hin r0 (.head _))), shaped1 kn, ?_⟩
      rw [show PyData.eqv (.list [.str (rowW r0)]) (.list [.str "known"]) = false from by simp [PyData.eqv, PyData.eqvAll, hk]]
      refine ⟨_, rfl, iteF ?_⟩
      refine ⟨_, rfl, _, rfl, p, _, rfl, Same.seq S1 hP, fun p2 hp2 => ?_⟩
      rw [show (Ps.cls word (r0 :: rr)).words.map V.str = V.str word :: ((r0 :: rr).map rowW).map V.str from rfl, cut_from]
      have S2 : Same H (upd J1 p2 (.lst (((r0 :: rr).map rowW).map V.str))) := Same.trans S1 (Kb.same_upd hp2)
      refine ⟨_, rfl, p2, a, r0 :: rr, sg, rfl, .of (by rw [upd_same, List.map_map]; rfl), (hS.same S2).sq, hsg, hcl, fun H3 t ys s23 nt e3 el ra => ?_⟩
      have RN : RowsAt K (Nw H H3) (r0 :: rr) ys := RowsAt.same (nw_left S2) ⟨el, ra⟩
      have RA : RowsAt K H3 (r0 :: rr) ys := RN.same (nw_in (Same.trans S2 s23))
      have nt0 : H t = none := S2.free nt
      have S3 : Same H H3 := Same.trans S2 s23
      refine ⟨_, rfl, ?_⟩
      show ∃ k, V.bl (decide (V.ref t = V.non)) = V.bl k ∧ _
      refine ⟨_, rfl, ?_⟩
      rw [decide_eq_false (by intro z; cases z)]
      refine iteF ?_
      have fin : ∀ H4, Same H3 H4 → Same H H4 ∧ H4 t = some (.tup ys) := fun H4 s => ⟨Same.trans S3 s, s _ _ e3⟩
      refine ⟨_, rfl, rfl, _, rfl, ?_⟩
      by_cases ew : word = "figures"
      · subst ew
        rw [decide_eq_true rfl]
        refine iteT ⟨_, rfl, t, ys, r0 :: rr, rfl, .of e3, RA, hcl.1, hin, fun r hr => Nat.le_trans (List.Sublist.length_le (List.sublist_flatten_of_mem hr)) (by rw [hcl.2.length_eq]; exact hsg.2.1), hrows, hfg rfl, fun H4 s34 => ⟨_, rfl, iteF ?_⟩⟩
        refine ⟨_, rfl, _, rfl, (by show 3 ≤ sizeLine; decide), fun t2 ht2 => ?_⟩
        have S4 : Same H3 (upd H4 t2 (.tup [.str "figures", .ref t, .non])) := Same.trans s34 (Kb.same_upd ht2)
        exact k _ _ (Same.trans S3 S4) ⟨t2, t, ys, rfl, .of (nw_mk ((Same.trans S3 s34).free ht2) upd_same), .of (nw_mk nt0 (S4 _ _ e3)), RN.same (nw_right S4)⟩
      · rw [decide_eq_false (fun z => ew (by injection z))]
        refine iteF (iteF ?_)
        refine ⟨_, rfl, _, rfl, (by show 3 ≤ sizeLine; decide), fun t2 ht2 => ?_⟩
        exact k _ _ (Same.trans S3 (Kb.same_upd ht2)) ⟨t2, t, ys, rfl, .of (nw_mk (S3.free ht2) upd_same), .of (nw_mk nt0 (Kb.same_upd ht2 _ _ e3)), RN.same (nw_right (Kb.same_upd ht2))⟩
end
end K1
set_option Elab.async false
set_option linter.all false
set_option maxRecDepth 100000
set_option maxHeartbeats 4000000
namespace K1
open PySem PySem.Spec PyProof.Rows L2 Kb Kc
def passLine (p : Ps) : Str := ("  " : Str) ++ (" " : Str).join p.words
def Ps.isBack : Ps → Bool
  | .length => false
  | .known w _ => decide (w = "back")
  | .cls w _ => decide (w = "back")
abbrev s_read_pass : Stmt := top 44
theorem sc_read_pass : FnScope ["line", "signs", "is_first", "words"] ["line", "signs", "is_first"] (defScope s_read_pass) := ⟨rfl, rfl, rfl, by decide +kernel, rfl, by decide +kernel, by decide +kernel⟩
def spReadPass (K : PySem.W.Frag) : Sp := fun vs H Q _ => ∃ (z : Str) (a : Addr) (b : Bool), vs = [.str z, .ref a, .bl b] ∧
  ((∃ (p : Ps) (sg : List Str), z = passLine p ∧ SgT H a sg ∧ SgOk sg ∧ p.ok sg ∧ (p.isBack = true → b = false) ∧ ∀ H' y, Same H H' → isPass K (Nw H H') p y → Q y H')
  ∨ (cutS z none (some 2) ≠ "  " ∧ z.length ≤ sizeLine ∧ Q .non H))
theorem two_eq : ("  " : Str).cps.toList = [32, 32] := by decide +kernel
theorem pre_toList (z : Str) : (("  " : Str) ++ z).cps.toList = 32 :: 32 :: z.cps.toList := by
  show (("  " : Str).cps ++ z.cps).toList = _
  rw [Array.toList_append, two_eq]
  rfl
theorem pre_len (z : Str) : (("  " : Str) ++ z).length = z.length + 2 := by
  have := congrArg List.length (pre_toList z)
  simpa [Str.length] using this
theorem pre_cut2 (z : Str) : cutS (("  " : Str) ++ z) none (some 2) = "  " := by
  apply str_ext
  unfold cutS
  have e : HT.sIx (("  " : Str) ++ z).length (("  " : Str) ++ z).length (some 2) = 2 := by
    show min ((2 : Int).toNat) (("  " : Str) ++ z).length = 2
    rw [pre_len]
    omega
  have e2 : HT.sIx (("  " : Str) ++ z).length 0 none = 0 := rfl
  rw [e, e2, pre_toList, two_eq]
  simp
theorem pre_cut (z : Str) : cutS (("  " : Str) ++ z) (some 2) none = z := by
  apply str_ext
  unfold cutS
  have e : HT.sIx (("  " : Str) ++ z).length 0 (some 2) = 2 := by
    show min ((2 : Int).toNat) (("  " : Str) ++ z).length = 2
    rw [pre_len]
    omega
  have e2 : HT.sIx (("  " : Str) ++ z).length (("  " : Str) ++ z).length none = z.length + 2 := pre_len z
  rw [e, e2, pre_toList]
  simp [Str.length]
  exact List.take_of_length_le (by simp)
theorem rw3_ok : ∀ s ∈ RW3, (decide (¬ 32 ∈ s.cps.toList) && decide (¬ 10 ∈ s.cps.toList) && PyData.strOk s && decide (s.length ≤ 7)) = true := by
  decide +kernel
theorem fc_ok : ∀ s ∈ FC, (decide (¬ 32 ∈ s.cps.toList) && decide (¬ 10 ∈ s.cps.toList) && s.cps.toList.all fun c => decide (c < 1000)) = true := by
  decide +kernel
theorem fact_chars {sg : List Str} {x : Fact} (hs : ∀ s ∈ sg, s ∈ SG) (h : FactOk sg x) {c : Nat} (hc : c ∈ (factW x).cps.toList) : (∃ s ∈ SG, c ∈ s.cps.toList) ∨ c ∈ x.rel.cps.toList := by
  have e : (factW x).cps.toList = x.lo.cps.toList ++ x.rel.cps.toList ++ x.hi.cps.toList := by
    show ((x.lo.cps ++ x.rel.cps) ++ x.hi.cps).toList = _
    simp
  rw [e] at hc
  rcases List.mem_append.mp hc with hc | hc
  · rcases List.mem_append.mp hc with hc | hc
    · exact .inl ⟨_, hs _ h.1, hc⟩
    · exact .inr hc
  · exact .inl ⟨_, hs _ h.2.1, hc⟩
/-- what all words of a pass are -/
def WordOk (s : Str) : Prop := free 32 s ∧ free 10 s ∧ PyData.strOk s = true ∧ s.length ≤ 16
theorem fact_ok {sg : List Str} {x : Fact} (hs : ∀ s ∈ sg, s ∈ SG) (h : FactOk sg x) : WordOk (factW x) := by
  have f := fc_ok _ h.2.2.2
  simp only [Bool.and_eq_true, decide_eq_true_eq, List.all_eq_true] at f
  refine ⟨fun z => ?_, fun z => ?_, strOk_of fun c hc => ?_, ?_⟩
  · rcases fact_chars hs h z with ⟨s, h1, h2⟩ | h2
    · exact (sg_free s h1).1 h2
    · exact f.1.1 h2
  · rcases fact_chars hs h z with ⟨s, h1, h2⟩ | h2
    · exact (sg_free s h1).2.1 h2
    · exact f.1.2 h2
  · rcases fact_chars hs h hc with ⟨s, h1, h2⟩ | h2
    · exact sg_small s h1 c h2
    · exact f.2 c h2
  · have e : (factW x).length = x.lo.length + x.rel.length + x.hi.length := by
      show ((x.lo.cps ++ x.rel.cps) ++ x.hi.cps).size = _
      rw [Array.size_append, Array.size_append]
      rfl
    rw [e, sg_len _ (hs _ h.1), sg_len _ (hs _ h.2.1)]
    have := fc_len _ h.2.2.2
    omega
theorem row_word {r : List Str} (hf : ∀ s ∈ r, s ∈ SG) (h8 : r.length ≤ 8) : WordOk (rowW r) := by
  refine ⟨fun z => ?_, fun z => ?_, row_ok hf, row_len hf h8⟩
  · rcases join_mem z with h | ⟨w, h1, h2⟩
    · exact absurd h (by decide +kernel)
    · exact (sg_free w (hf w h1)).1 h2
  · rcases join_mem z with h | ⟨w, h1, h2⟩
    · exact absurd h (by decide +kernel)
    · exact (sg_free w (hf w h1)).2.1 h2
theorem rw3_word {s : Str} (h : s ∈ RW3) : WordOk s := by
  have f := rw3_ok s h
  simp only [Bool.and_eq_true, decide_eq_true_eq] at f
  exact ⟨f.1.1.1, f.1.1.2, f.1.2, by omega⟩
theorem lit_word : ∀ s ∈ (["length", "known"] : List Str), WordOk s := by
  intro s hs
  have f : ∀ s ∈ (["length", "known"] : List Str), (decide (¬ 32 ∈ s.cps.toList) && decide (¬ 10 ∈ s.cps.toList) && PyData.strOk s && decide (s.length ≤ 16)) = true := by
    decide +kernel
  have := f s hs
  simp only [Bool.and_eq_true, decide_eq_true_eq] at this
  exact ⟨this.1.1.1, this.1.1.2, this.1.2, this.2⟩
theorem ps_words {sg : List Str} (hs : SgOk sg) : ∀ {p : Ps}, p.ok sg → (∀ s ∈ p.words, WordOk s) ∧ p.words.length ≤ 14 ∧ p.words ≠ []
  | .length, _ => ⟨fun s h => lit_word s (by simp only [Ps.words, List.mem_cons, List.not_mem_nil, or_false] at h; rw [h]; exact .head _), by decide, by simp [Ps.words]⟩
  | .known w xs, ⟨hw, hx, l12, _⟩ => by
    refine ⟨fun s h => ?_, by simp only [Ps.words, List.length_cons, List.length_map]; omega, by simp [Ps.words]⟩
    simp only [Ps.words, List.mem_cons] at h
    rcases h with rfl | rfl | h
    · exact rw3_word hw
    · exact lit_word _ (by simp)
    · obtain ⟨x, hxm, rfl⟩ := List.mem_map.mp h
      exact fact_ok hs.2.2.2 (hx x hxm)
  | .cls w rows, ⟨hw, hc, _⟩ => by
    have hl : rows.length ≤ 8 := Nat.le_trans (rows_le hc.1) (by rw [hc.2.length_eq]; exact hs.2.1)
    refine ⟨fun s h => ?_, by simp only [Ps.words, List.length_cons, List.length_map]; omega, by simp [Ps.words]⟩
    simp only [Ps.words, List.mem_cons] at h
    rcases h with rfl | h
    · exact rw3_word hw
    · obtain ⟨r, hr, rfl⟩ := List.mem_map.mp h
      exact row_word (fun s hs' => hs.2.2.2 s (hc.2.subset (List.mem_flatten.mpr ⟨r, hr, hs'⟩))) (Nat.le_trans (List.Sublist.length_le (List.sublist_flatten_of_mem hr)) (by rw [hc.2.length_eq]; exact hs.2.1))
theorem pass_len {sg : List Str} (hs : SgOk sg) {p : Ps} (h : p.ok sg) : ((" " : Str).join p.words).length ≤ 14 * (16 + 1) := join_small (sep := " ") (fun w hw => ((ps_words hs h).1 w hw).2.2.2) (ps_words hs h).2.1
section
variable {P : Program} {w : World} {K : PySem.W.Frag} {mg : Str → Option Value} {base : Heap}
theorem shaped_ws {zs : List Str} (h : ∀ s ∈ zs, PyData.strOk s = true) : SeqAt.shaped (.list (zs.map PyData.str)) = true := by
  have l : ∀ {zs : List Str}, (∀ s ∈ zs, PyData.strOk s = true) → PyData.canLayAll0 (zs.map PyData.str) = true := fun {zs} h => by
    induction zs with
    | nil => rfl
    | cons b r ih => simp [PyData.canLayAll0, PyData.canLay0, ih fun s m => h s (.tail _ m), h b (.head _)]
  simp [SeqAt.shaped, PyData.canLay0, PyData.depth, l h, dep_strs]
theorem rw3_in : ∀ s ∈ RW3, inV (.str s) [.str "ranks", .str "figures"] = !decide (s = "back") := by decide +kernel
theorem ok_read_pass {f fread_ranks : Addr} {fd fdread_ranks : FuncData} (F : Fun K "read_pass" "read_pass" s_read_pass f fd) (B : Bl mg)
    (Fread_ranks : Fun K "read_ranks" "read_ranks" s_read_ranks fread_ranks fdread_ranks) (bread_ranks : Binds K fdread_ranks ["words", "signs"] []) (gread_ranks : mg "read_ranks" = some (.ref fread_ranks))
    (Gread_ranks : FnOk P w K mg base CX0 5 fread_ranks fdread_ranks ["words", "signs"] (spReadRanks K)) : FnOk P w K mg base CX0 6 f fd ["line", "signs", "is_first"] (spReadPass K) := by
  refine F.ok sc_read_pass (fun vs H Q E h => ?_) (fun cdv A outer s H vs Q E hr h => ?_)
  · obtain ⟨z, a, b, rfl, _⟩ := h
    rfl
  · obtain ⟨z, a, b, rfl, h⟩ := h
    refine ⟨_, (pss_cons (ps_if (pt_cmpR op_ne (pe_slice sl_str (pv 0) po_none (po_some pe_int)) pe_str (nomark _))
        (pss_one (ps_ret pe_non))
        pss_nil)
      (pss_cons (ps_set (i := 3) sc_read_pass.nd rfl (Or.inl rfl) (pe_split (pe_slice sl_str (pv 0) (po_some pe_int) po_none) pe_str))
      (pss_cons (ps_if (pt_cmpR (op_eqD hr.units) (pv 3) (pe_lstB (pa_cons pe_str pa_nil)) (nomark _))
        (pss_one (ps_ret (pe_tup (pa_cons pe_str (pa_cons pe_non (pa_cons pe_non pa_nil))))))
        pss_nil)
      (pss_cons (ps_if (PW.pt (pw_or (pt_cmpR op_in_seq (pe_ix ix_list (pv 3) pe_int (fun _ _ => rfl)) (pe_tup (pa_cons pe_str (pa_cons pe_str pa_nil))) rfl) (pw_or1 (PW.pt (pw_and (pt_cmpR op_eq (pe_ix ix_list (pv 3) pe_int (fun _ _ => rfl)) pe_str (nomark _)) (pw_and1 (pt_not (pt_val (pv 2)))))))))
        (pss_one (ps_ret (pe_call Gread_ranks hr (by rfl) gread_ranks Fread_ranks.kp bread_ranks .nil pass0 (pa_cons (pv 3) (pa_cons (pv 1) pa_nil)))))
        pss_nil)
      (pss_one (ps_ret pe_non)))))), ?_⟩
    rcases h with ⟨p, sg, rfl, hS, hsg, hok, hb, k⟩ | ⟨hne, hl, k⟩
    · have W := ps_words hsg hok
      have hl0 := pass_len hsg hok
      have hl : (passLine p).length ≤ sizeLine := by
        unfold passLine
        rw [pre_len]
        exact Nat.le_trans (Nat.add_le_add_right hl0 2) (by decide)
      have es : Txt.split ((" " : Str).join p.words) " " = p.words := sp_split W.2.2 fun w hw => (W.1 w hw).1
      refine ⟨_, rfl, _, rfl, _, rfl, hl, rfl, _, rfl, ?_⟩
      show if (!decide (V.str (cutS (passLine p) none (some 2)) = V.str "  ")) = true then _ else _
      refine iteNS (by unfold passLine; rw [pre_cut2]) ?_
      refine ⟨_, rfl, _, rfl, _, rfl, hl, ⟨_, rfl⟩, _, _, rfl, rfl, by decide +kernel, ?_, fun q hq => ?_⟩
      · unfold passLine
        rw [pre_cut]
        exact Nat.le_trans (Nat.add_le_add_right hl0 2) (by decide)
      unfold passLine at *
      rw [pre_cut, es] at *
      have e1 : (upd H q (.lst (p.words.map V.str))) q = some (.lst (p.words.map V.str)) := upd_same
      have S1 : Same H (upd H q (.lst (p.words.map V.str))) := Kb.same_upd hq
      obtain ⟨J1, qJ⟩ : ∃ z, z = upd H q (.lst (p.words.map V.str)) := ⟨_, rfl⟩
      rw [← qJ] at e1 S1 ⊢
      refine ⟨_, rfl, (by show 1 ≤ sizeLine; decide), fun q2 hq2 _ => ?_⟩
      have ok1 : PyData.strOk "length" = true := by decide +kernel
      have eq1 : (upd J1 q2 (.lst [V.str "length"])) q = some (.lst (p.words.map V.str)) := Kb.same_upd hq2 _ _ e1
      have eq2 : (upd J1 q2 (.lst [V.str "length"])) q2 = some (.lst [V.str "length"]) := upd_same
      have S2 : Same H (upd J1 q2 (.lst [V.str "length"])) := Same.trans S1 (Kb.same_upd hq2)
      obtain ⟨J2, qJ2⟩ : ∃ z, z = upd J1 q2 (.lst [V.str "length"]) := ⟨_, rfl⟩
      rw [← qJ2] at eq1 eq2 S2 ⊢
      refine ⟨_, _, .lst (.of eq1) (dp_strs p.words), .lst (.of eq2) (.cons (.str _) .nil), shaped_ws fun s h => (W.1 s h).2.2.1, shaped1 ok1, ?_⟩
      have rest : ∀ (w0 : Str) (ws : List Str), p.words = w0 :: ws → w0 ∈ RW3 → p ≠ .length → p.isBack = decide (w0 = "back") → PyData.eqv (.list (p.words.map PyData.str)) (.list [.str "length"]) = false := fun w0 ws e h3 _ _ => by
        rw [e]
        have n : w0 ≠ "length" := fun z => by
          rw [z] at h3
          exact absurd h3 (by decide +kernel)
        simp [PyData.eqv, PyData.eqvAll, n]
      cases p with
      | length =>
        rw [show PyData.eqv (.list (Ps.length.words.map PyData.str)) (.list [.str "length"]) = true from by decide +kernel]
        refine ⟨_, rfl, iteT ⟨(by show 3 ≤ sizeLine; decide), fun t ht => ?_⟩⟩
        exact k _ _ (Same.trans S2 (Kb.same_upd ht)) ⟨t, rfl, .of (nw_mk (S2.free ht) upd_same)⟩
      | known w0 xs =>
        have h3 : w0 ∈ RW3 := hok.1
        rw [rest w0 _ rfl h3 (by simp) rfl]
        refine ⟨_, rfl, iteF ?_⟩
        refine ⟨_, rfl, q, _, _, _, rfl, rfl, .of eq1, atI_nat' (by decide) (by rfl), (by show 2 ≤ sizeLine; decide), fun t ht => ⟨t, _, rfl, .inr (.of upd_same), rfl, by rfl, _, rfl, ?_⟩⟩
        have S3 : Same H (upd J2 t (.tup [.str "ranks", .str "figures"])) := Same.trans S2 (Kb.same_upd ht)
        have eq3 := Kb.same_upd (o := .tup [.str "ranks", .str "figures"]) ht _ _ eq1
        obtain ⟨J3, qJ3⟩ : ∃ z, z = upd J2 t (.tup [.str "ranks", .str "figures"]) := ⟨_, rfl⟩
        rw [← qJ3] at S3 eq3 ⊢
        show if inV (V.str w0) [.str "ranks", .str "figures"] = true then _ else _
        rw [rw3_in w0 h3]
        by_cases eb : w0 = "back"
        · rw [decide_eq_true eb]
          refine iteF ?_
          refine ⟨_, rfl, q, _, _, _, rfl, rfl, .of eq3, atI_nat' (by decide) (by rfl), rfl, _, rfl, ?_⟩
          show if decide (V.str w0 = V.str "back") = true then _ else _
          rw [decide_eq_true (by rw [eb])]
          refine iteT ⟨_, rfl, _, rfl, ?_⟩
          have bf : b = false := hb (decide_eq_true eb)
          subst bf
          refine iteT ?_
          exact ⟨_, rfl, _, rfl, q, a, _, sg, rfl, (by simp), .of eq3, hS.same S3, hsg, hok, fun H' y s4 h => k H' y (Same.trans S3 s4) (h.same (nw_left S3))⟩
        · rw [decide_eq_false eb]
          refine iteT ?_
          exact ⟨_, rfl, _, rfl, q, a, _, sg, rfl, (by simp), .of eq3, hS.same S3, hsg, hok, fun H' y s4 h => k H' y (Same.trans S3 s4) (h.same (nw_left S3))⟩
      | cls w0 rows =>
        have h3 : w0 ∈ RW3 := hok.1
        rw [rest w0 _ rfl h3 (by simp) rfl]
        refine ⟨_, rfl, iteF ?_⟩
        refine ⟨_, rfl, q, _, _, _, rfl, rfl, .of eq1, atI_nat' (by decide) (by rfl), (by show 2 ≤ sizeLine; decide), fun t ht => ⟨t, _, rfl, .inr (.of upd_same), rfl, by rfl, _, rfl, ?_⟩⟩
        have S3 : Same H (upd J2 t (.tup [.str "ranks", .str "figures"])) := Same.trans S2 (Kb.same_upd ht)
        have eq3 := Kb.same_upd (o := .tup [.str "ranks", .str "figures"]) ht _ _ eq1
        obtain ⟨J3, qJ3⟩ : ∃ z, z = upd J2 t (.tup [.str "ranks", .str "figures"]) := ⟨_, rfl⟩
        rw [← qJ3] at S3 eq3 ⊢
        show if inV (V.str w0) [.str "ranks", .str "figures"] = true then _ else _
        rw [rw3_in w0 h3]
        by_cases eb : w0 = "back"
        · rw [decide_eq_true eb]
          refine iteF ?_
          refine ⟨_, rfl, q, _, _, _, rfl, rfl, .of eq3, atI_nat' (by decide) (by rfl), rfl, _, rfl, ?_⟩
          show if decide (V.str w0 = V.str "back") = true then _ else _
          rw [decide_eq_true (by rw [eb])]
          refine iteT ⟨_, rfl, _, rfl, ?_⟩
          have bf : b = false := hb (decide_eq_true eb)
          subst bf
          refine iteT ?_
          exact ⟨_, rfl, _, rfl, q, a, _, sg, rfl, (by simp), .of eq3, hS.same S3, hsg, hok, fun H' y s4 h => k H' y (Same.trans S3 s4) (h.same (nw_left S3))⟩
        · rw [decide_eq_false eb]
          refine iteT ?_
          exact ⟨_, rfl, _, rfl, q, a, _, sg, rfl, (by simp), .of eq3, hS.same S3, hsg, hok, fun H' y s4 h => k H' y (Same.trans S3 s4) (h.same (nw_left S3))⟩
    · refine ⟨_, rfl, _, rfl, _, rfl, hl, rfl, _, rfl, ?_⟩
      have en : (!decide (V.str (cutS z none (some 2)) = V.str "  ")) = true := by
        rw [decide_eq_false (fun y => hne (by injection y))]
        rfl
      show if (!decide (V.str (cutS z none (some 2)) = V.str "  ")) = true then _ else _
      rw [en]
      exact iteT k
end
end K1
set_option Elab.async false
set_option linter.all false
set_option maxRecDepth 100000
set_option maxHeartbeats 4000000
namespace K1
open PySem PySem.Spec PyProof.Rows L2 Kb Kc
abbrev s_read_passes : Stmt := top 45
theorem sc_read_passes : FnScope ["lines", "at", "signs", "passes", "told"] ["lines", "at", "signs"] (defScope s_read_passes) := ⟨rfl, rfl, rfl, by decide +kernel, rfl, by decide +kernel, by decide +kernel⟩
def PassesAt (K : PySem.W.Frag) (H : Hp) (ps : List Ps) (ys : List V) : Prop := ys.length = ps.length ∧ ∀ (j : Nat) (y : V) (p : Ps), ys[j]? = some y → ps[j]? = some p → isPass K H p y
def NoPassLine (z : Str) : Prop := cutS z none (some 2) ≠ "  " ∧ z.length ≤ sizeLine
def spReadPasses (K : PySem.W.Frag) : Sp := fun vs H Q _ => ∃ (l a : Addr) (ls : List Str) (i : Nat) (ps : List Ps) (rest sg : List Str), vs = [.ref l, .int (i : Nat), .ref a] ∧ SqL K H l (ls.map V.str) ∧ ls.drop i = ps.map passLine ++ rest ∧ ls.length ≤ 1000 ∧ i ≤ ls.length ∧
  SgT H a sg ∧ SgOk sg ∧ (∀ p ∈ ps, p.ok sg) ∧ ps.length ≤ 3 ∧ (∀ r, rest.head? = some r → NoPassLine r) ∧ (∀ p, ps.head? = some p → p.isBack = false) ∧
  ∀ H' t ys, Same H H' → H t = none → H' t = some (.tup ys) → PassesAt K (Nw H H') ps ys → Q (.ref t) H'
section
variable {P : Program} {w : World} {K : PySem.W.Frag} {mg : Str → Option Value} {base : Heap}
theorem ok_read_passes {f fread_pass : Addr} {fd fdread_pass : FuncData} (F : Fun K "read_passes" "read_passes" s_read_passes f fd) (B : Bl mg) (C : Gb K mg)
    (Fread_pass : Fun K "read_pass" "read_pass" s_read_pass fread_pass fdread_pass) (bread_pass : Binds K fdread_pass ["line", "signs", "is_first"] []) (gread_pass : mg "read_pass" = some (.ref fread_pass))
    (Gread_pass : FnOk P w K mg base CX0 6 fread_pass fdread_pass ["line", "signs", "is_first"] (spReadPass K)) : FnOk P w K mg base CX0 7 f fd ["lines", "at", "signs"] (spReadPasses K) := by
  obtain ⟨t1, gMOST_PASSES⟩ := C.MOST_PASSES
  refine F.ok sc_read_passes (fun vs H Q E h => ?_) (fun cdv A outer s H vs Q E hr h => ?_)
  · obtain ⟨l, a, ls, i, ps, rest, sg, rfl, _⟩ := h
    rfl
  · obtain ⟨l, a, ls, i, ps, rest, sg, rfl, hL, hd, hl, hi, hS, hsg, hok, h3, hrest, hback, k⟩ := h
    have hlen : ls.length = i + (ps.length + rest.length) := by
      have := congrArg List.length hd
      simp only [List.length_drop, List.length_append, List.length_map] at this
      omega
    refine ⟨_, (pss_cons (ps_set (i := 3) sc_read_passes.nd rfl (Or.inl rfl) (pe_lstB pa_nil))
      (pss_cons (ps_while PassesOwn.never (PW.pt (pw_and (pt_cmpR op_lt (pv 1) (pe_callB call_len_seq (by rfl) B.len (by decide +kernel) (pa_cons (pv 0) pa_nil)) (nomark _)) (pw_and1 (pt_cmpR op_lt (pe_callB call_len_seq (by rfl) B.len (by decide +kernel) (pa_cons (pv 3) pa_nil)) (pe_glob (v := .int _) (by rfl) gMOST_PASSES ⟨_, rfl⟩) (nomark _)))))
        (pss_cons (ps_set (i := 4) sc_read_passes.nd rfl (Or.inl rfl) (pe_call Gread_pass hr (by rfl) gread_pass Fread_pass.kp bread_pass .nil pass0 (pa_cons (pe_ix ix_list (pv 0) (pv 1) (fun _ _ => rfl)) (pa_cons (pv 2) (pa_cons (pe_notT (pv 3)) pa_nil)))))
      (pss_cons (ps_if (pt_cmp (pc_isN (pv 4)) rfl)
        (pss_one ps_break)
        pss_nil)
      (pss_cons (ps_expr (pe_bm PySem.F.plainAttrs_list PySem.F.slot_list_append PySem.F.type_list_append mt_append (pv 3) (pa_cons (pv 4) pa_nil)))
      (pss_one (ps_set (i := 1) sc_read_passes.nd rfl (Or.inl rfl) (pe_op op_add (pv 1) pe_int)))))))
      (pss_one (ps_ret (pe_tupleOf (by rfl) B.tuple (pv 3)))))), ?_⟩
    refine ⟨(by show 0 ≤ sizeLine; decide), fun L hLn _ => ?_⟩
    -- j passes are read; j stands for the measure, too
    refine ⟨fun m σ H1 => ∃ (j : Nat) (v : Option V) (ys : List V), m = 3 - j ∧ j ≤ ps.length ∧ σ = [some (.ref l), some (.int ((i + j : Nat) : Int)), some (.ref a), some (.ref L), v] ∧ Same H H1 ∧ H1 L = some (.lst ys) ∧ ys.length = j ∧
        RelL (fun H j y => ∃ p, ps[j]? = some p ∧ isPass K H p y) (Grow (fun _ => none) (upd H L (.lst [])) H1) ys, ⟨3, 0, none, [], rfl, Nat.zero_le _, rfl, Kb.same_upd hLn, upd_same, rfl, fun j y e => by simp at e⟩, ?_⟩
    rintro m σ H1 ⟨j, v, ys, rfl, hj, rfl, s1, eL, ely, rl⟩
    have gS : Same H H := Same.refl H
    -- behind the loop
    have fin : ∀ (v : Option V) (ys : List V) (H2 : Hp), Same H H2 → H2 L = some (.lst ys) → ys.length = ps.length → RelL (fun H j y => ∃ p, ps[j]? = some p ∧ isPass K H p y) (Grow (fun _ => none) (upd H L (.lst [])) H2) ys → ∀ t, H2 t = none → Q (.ref t) (upd H2 t (.tup ys)) := fun v ys H2 s2 eL2 e2 rl2 t ht =>
      k _ t ys (Same.trans s2 (Kb.same_upd ht)) (s2.free ht) upd_same ⟨e2, fun i y p a1 a2 => by
        obtain ⟨p', a3, h⟩ := rl2 i y a1
        rw [a2] at a3
        cases a3
        exact (h.same (nw_lst hLn)).same (nw_right (Kb.same_upd ht))⟩
    refine ⟨_, rfl, _, rfl, l, _, rfl, .inl (Same.seq s1 hL), _, _, rfl, rfl, _, rfl, ?_⟩
    rw [List.length_map]
    by_cases c1 : i + j < ls.length
    · rw [decide_eq_true (by omega)]
      refine iteT ⟨_, rfl, L, ys, rfl, .inl (.of eL), _, _, rfl, rfl, _, rfl, ?_⟩
      by_cases c2 : j < 3
      · rw [decide_eq_true (by omega)]
        refine iteT ⟨fun σ' H' => ∃ (v : Option V) (ys : List V), σ' = [some (.ref l), some (.int ((i + (j + 1) : Nat) : Int)), some (.ref a), some (.ref L), v] ∧ j + 1 ≤ ps.length ∧ Same H H' ∧ H' L = some (.lst ys) ∧ ys.length = j + 1 ∧
          RelL (fun H j y => ∃ p, ps[j]? = some p ∧ isPass K H p y) (Grow (fun _ => none) (upd H L (.lst [])) H') ys, fun σ' H' ⟨v, ys, e, b1, b2, b3, b4, b5⟩ => ⟨3 - (j + 1), by omega, j + 1, v, ys, rfl, b1, e, b2, b3, b4, b5⟩, ?_⟩
        -- the line at i + j
        have hlj : ls[i + j]? = (ps.map passLine ++ rest)[j]? := by
          rw [← hd, List.getElem?_drop]
        obtain ⟨z, hz⟩ : ∃ z, ls[i + j]? = some z := ⟨_, List.getElem?_eq_getElem c1⟩
        refine ⟨_, rfl, _, rfl, l, _, _, _, rfl, rfl, Same.seq s1 hL, atI_nat' (by omega) (v := V.str z) (by rw [List.getElem?_map, Int.toNat_natCast, hz]; rfl), ?_⟩
        refine ⟨_, rfl, _, rfl, _, .inl ⟨ys, .of eL, rfl⟩, ?_⟩
        by_cases c3 : j < ps.length
        · obtain ⟨p, hp⟩ : ∃ p, ps[j]? = some p := ⟨_, List.getElem?_eq_getElem c3⟩
          have ez : z = passLine p := by
            rw [hz, List.getElem?_append_left (by simpa using c3), List.getElem?_map, hp] at hlj
            exact Option.some.inj hlj
          have hpm := List.mem_of_getElem? hp
          refine ⟨z, a, _, rfl, .inl ⟨p, sg, ez, hS.same s1, hsg, hok p hpm, fun hb => ?_, fun H4 y s14 hy => ?_⟩⟩
          · cases j with
            | zero =>
              have : p.isBack = false := hback p (by rw [← hp]; cases ps <;> rfl)
              rw [this] at hb
              cases hb
            | succ j =>
              cases ys with
              | nil => simp at ely
              | cons a b => rfl
          · have hy0 : decide (y = V.non) = false := decide_eq_false fun e => by
              subst e
              cases p <;> obtain ⟨t, h⟩ := hy <;> simp at h
            refine ⟨_, rfl, ?_⟩
            show ∃ k, V.bl (decide (y = V.non)) = V.bl k ∧ _
            refine ⟨_, rfl, ?_⟩
            rw [hy0]
            refine iteF ?_
            have eL4 := s14 _ _ eL
            refine ⟨_, rfl, .inl ⟨rfl, _, .of eL4⟩, _, rfl, L, ys, y, rfl, rfl, eL4, Nat.lt_of_le_of_lt (by omega : ys.length ≤ 3) (by decide), ?_⟩
            refine ⟨_, rfl, _, _, rfl, rfl, some y, ys ++ [y], ?_, c3, fun b o e => ?_, upd_same, by simp [ely], ?_⟩
            · have ea : ((i + j : Nat) : Int) + 1 = ((i + (j + 1) : Nat) : Int) := by omega
              show [some (V.ref l), some (V.int (((i + j : Nat) : Int) + 1)), some (V.ref a), some (V.ref L), some y] = _
              rw [ea]
            · rw [upd_ne (ne_of_none e hLn)]
              exact s14 _ _ (s1 _ _ e)
            · have st := grow_step (G1 := fun _ => none) (zs := ys ++ [y]) hLn s1 eL s14
              have gp : Same (Grow (fun _ => none) (upd H L (.lst [])) H1) H1 := grow_part nw_none hLn s1
              refine RelL.snoc (fun i2 z2 e2 => ?_) ⟨p, by rw [ely]; exact hp, ?_⟩
              · obtain ⟨p2, e3, h⟩ := rl i2 z2 e2
                exact ⟨p2, e3, (h.same (grow_old gp)).same st⟩
              · refine hy.same fun b o e => st b o ?_
                by_cases hb : H1 b = none
                · exact grow_new hb ((if_pos hb).symm.trans e)
                · have z := (if_neg hb).symm.trans e
                  cases z
        · have ej : j = ps.length := by omega
          subst ej
          have hzr : rest.head? = some z := by
            rw [hz, List.getElem?_append_right (by simp)] at hlj
            simp only [List.length_map, Nat.sub_self] at hlj
            rw [List.head?_eq_getElem?]
            exact hlj.symm
          have np := hrest z hzr
          refine ⟨z, a, _, rfl, .inr ⟨np.1, np.2, ?_⟩⟩
          refine ⟨_, rfl, ?_⟩
          show ∃ k, V.bl (decide (V.non = V.non)) = V.bl k ∧ _
          refine ⟨_, rfl, ?_⟩
          rw [decide_eq_true rfl]
          refine iteT ?_
          exact ⟨_, rfl, .inl ⟨L, ys, rfl, .of eL, fin none ys H1 s1 eL ely rl⟩⟩
      · rw [decide_eq_false (by omega)]
        refine iteF ?_
        exact ⟨_, rfl, .inl ⟨L, ys, rfl, .of eL, fin none ys H1 s1 eL (by omega) rl⟩⟩
    · rw [decide_eq_false (by omega)]
      refine iteF (iteF ?_)
      exact ⟨_, rfl, .inl ⟨L, ys, rfl, .of eL, fin none ys H1 s1 eL (by omega) rl⟩⟩
end
end K1
set_option Elab.async false
set_option linter.all false
set_option maxRecDepth 100000
set_option maxHeartbeats 4000000
namespace K1
open PySem PySem.Spec PyProof.Rows L2 Kb Kc
theorem grow_stepO {G1 H1 H2 H4 : Hp} {D : Addr} {o0 o1 o2 : HO} (nD : H1 D = none) (s12 : Same H1 H2) (hD : H2 D = some o1) (s24 : Same H2 H4) :
    Same (Grow (Grow G1 (upd H1 D o0) H2) H2 H4) (Grow G1 (upd H1 D o0) (upd H4 D o2)) := fun b o e => by
  by_cases h2 : H2 b = none
  · have nb : b ≠ D := fun z => by
      rw [z, hD] at h2
      cases h2
    have h1 : (upd H1 D o0) b = none := by
      rw [upd_ne nb]
      exact s12.free h2
    refine grow_new h1 ?_
    rw [upd_ne nb]
    exact (if_pos h2).symm.trans e
  · have e' := (if_neg h2).symm.trans e
    by_cases h1 : (upd H1 D o0) b = none
    · have nb : b ≠ D := fun z => by
        rw [z, upd_same] at h1
        cases h1
      refine grow_new h1 ?_
      rw [upd_ne nb]
      exact s24 b o ((if_pos h1).symm.trans e')
    · exact (if_neg h1).trans ((if_neg h1).symm.trans e')
theorem grow_partO {G1 H1 H2 : Hp} {D : Addr} {o0 : HO} (g : Same G1 H1) (nD : H1 D = none) (s : Same H1 H2) : Same (Grow G1 (upd H1 D o0) H2) H2 := fun b o e => by
  by_cases h : (upd H1 D o0) b = none
  · exact (if_pos h).symm.trans e
  · exact s b o (g b o ((if_neg h).symm.trans e))
theorem grow_lastO {G1 H1 H2 : Hp} {D : Addr} {o0 : HO} (g : Same G1 H1) (nD : H1 D = none) : Same (Grow G1 (upd H1 D o0) H2) (Grow G1 H1 H2) := fun b o e => by
  by_cases n : b = D
  · subst n
    have h : ¬ (upd H1 b o0) b = none := by rw [upd_same]; simp
    have e' : G1 b = some o := (if_neg h).symm.trans e
    have := g b o e'
    rw [nD] at this
    cases this
  · show (if H1 b = none then H2 b else G1 b) = some o
    have z : (if (upd H1 D o0) b = none then H2 b else G1 b) = some o := e
    rw [upd_ne n] at z
    exact z
theorem putK_new {kvs : List (Key × V)} {k : Key} {v : V} (h : valV kvs k = none) : putK kvs k v = kvs ++ [(k, v)] := by
  unfold valV at h
  rw [Option.map_eq_none_iff, List.find?_eq_none] at h
  unfold putK
  rw [if_neg]
  intro e
  obtain ⟨kv, m, e2⟩ := List.any_eq_true.mp e
  exact h kv m e2
theorem ps_no {X : Cx} {st : Stmt} : PS X st (fun _ _ _ => False) := ⟨fun _ _ _ _ _ _ h => h.elim⟩
abbrev Rule : Type := Str × List Ps
def ruleLines (rs : List Rule) : List Str := rs.flatMap fun r => ruleLine r.1 :: r.2.map passLine
def RuleOk (sg : List Str) (r : Rule) : Prop := r.1 ∈ WD ∧ r.2 ≠ [] ∧ r.2.length ≤ 3 ∧ (∀ p ∈ r.2, p.ok sg) ∧ ∀ p, r.2.head? = some p → p.isBack = false
theorem rule_noPass : ∀ nm ∈ WD, cutS (ruleLine nm) none (some 2) ≠ "  " ∧ (ruleLine nm).length ≤ 20 := by decide +kernel
/-- the dict of the rules: names in their sequence, each with the tuple of its passes -/
def RulesAt (K : PySem.W.Frag) (H : Hp) (rs : List Rule) (kvs : List (Key × V)) : Prop := kvs.length = rs.length ∧ ∀ (j : Nat) (kv : Key × V) (r : Rule), kvs[j]? = some kv → rs[j]? = some r →
  kv.1 = Sum.inr r.1 ∧ ∃ (t : Addr) (ys : List V), kv.2 = .ref t ∧ SqT K H t ys ∧ PassesAt K H r.2 ys
theorem PassesAt.same {K : PySem.W.Frag} {H H' : Hp} {ps : List Ps} {ys : List V} (s : Same H H') (h : PassesAt K H ps ys) : PassesAt K H' ps ys := ⟨h.1, fun i y x e1 e2 => (h.2 i y x e1 e2).same s⟩
theorem RulesAt.same {K : PySem.W.Frag} {H H' : Hp} {rs : List Rule} {kvs : List (Key × V)} (s : Same H H') (h : RulesAt K H rs kvs) : RulesAt K H' rs kvs := ⟨h.1, fun j kv r e1 e2 => by
  obtain ⟨a, t, ys, e, q, p⟩ := h.2 j kv r e1 e2
  exact ⟨a, t, ys, e, Kb.Same.seqT s q, p.same s⟩⟩
abbrev s_read_rules : Stmt := top 46
theorem sc_read_rules : FnScope ["lines", "at", "signs", "rules", "name", "passes"] ["lines", "at", "signs"] (defScope s_read_rules) := ⟨rfl, rfl, rfl, by decide +kernel, rfl, by decide +kernel, by decide +kernel⟩
def spReadRules (K : PySem.W.Frag) : Sp := fun vs H Q _ => ∃ (l a : Addr) (ls : List Str) (i : Nat) (rs : List Rule) (sg : List Str), vs = [.ref l, .int (i : Nat), .ref a] ∧ SqL K H l (ls.map V.str) ∧ ls.drop i = ruleLines rs ∧ ls.length ≤ 1000 ∧ i ≤ ls.length ∧
  SgT H a sg ∧ SgOk sg ∧ (∀ r ∈ rs, RuleOk sg r) ∧ rs ≠ [] ∧ rs.length ≤ 4 ∧ (rs.map (·.1)).Nodup ∧
  ∀ H' d kvs, Same H H' → H d = none → H' d = some (.dK kvs) → RulesAt K (Nw H H') rs kvs → Q (.ref d) H'
section
variable {P : Program} {w : World} {K : PySem.W.Frag} {mg : Str → Option Value} {base : Heap}
theorem ok_read_rules {f fread_rule fread_passes : Addr} {fd fdread_rule fdread_passes : FuncData} (F : Fun K "read_rules" "read_rules" s_read_rules f fd) (B : Bl mg)
    (Fread_rule : Fun K "read_rule" "read_rule" s_read_rule fread_rule fdread_rule) (bread_rule : Binds K fdread_rule ["line", "earlier"] []) (gread_rule : mg "read_rule" = some (.ref fread_rule)) (Gread_rule : FnOk P w K mg base CX0 2 fread_rule fdread_rule ["line", "earlier"] spReadRule)
    (Fread_passes : Fun K "read_passes" "read_passes" s_read_passes fread_passes fdread_passes) (bread_passes : Binds K fdread_passes ["lines", "at", "signs"] []) (gread_passes : mg "read_passes" = some (.ref fread_passes))
    (Gread_passes : FnOk P w K mg base CX0 7 fread_passes fdread_passes ["lines", "at", "signs"] (spReadPasses K)) : FnOk P w K mg base CX0 8 f fd ["lines", "at", "signs"] (spReadRules K) := by
  refine F.ok sc_read_rules (fun vs H Q E h => ?_) (fun cdv A outer s H vs Q E hr h => ?_)
  · obtain ⟨l, a, ls, i, rs, sg, rfl, _⟩ := h
    rfl
  · obtain ⟨l, a, ls, i, rs, sg, rfl, hL, hd, hl, hi, hS, hsg, hok, hne, h4, hnd, k⟩ := h
    refine ⟨_, (pss_cons (ps_set (i := 3) sc_read_rules.nd rfl (Or.inl rfl) pe_dnewK)
      (pss_cons (ps_while PassesOwn.never (pt_cmpR op_lt (pv 1) (pe_callB call_len_seq (by rfl) B.len (by decide +kernel) (pa_cons (pv 0) pa_nil)) (nomark _))
        (pss_cons (ps_set (i := 4) sc_read_rules.nd rfl (Or.inl rfl) (pe_call Gread_rule (hr.mono (by decide)) (by rfl) gread_rule Fread_rule.kp bread_rule .nil pass0 (pa_cons (pe_ix ix_list (pv 0) (pv 1) (fun _ _ => rfl)) (pa_cons (pv 3) pa_nil))))
      (pss_cons (ps_if (pt_cmp (pc_isN (pv 4)) rfl)
        (pss_one ps_no)
        pss_nil)
      (pss_cons (ps_set (i := 5) sc_read_rules.nd rfl (Or.inl rfl) (pe_call Gread_passes hr (by rfl) gread_passes Fread_passes.kp bread_passes .nil pass0 (pa_cons (pv 0) (pa_cons (pe_op op_add (pv 1) pe_int) (pa_cons (pv 2) pa_nil)))))
      (pss_cons (ps_if (pt_not (pt_truth (pv 5) (by intro _; rfl)))
        (pss_one ps_no)
        pss_nil)
      (pss_cons (ps_dput (hu_of hr) (pv 3) (pv 4) (pv 5) rfl)
      (pss_one (ps_set (i := 1) sc_read_rules.nd rfl (Or.inl rfl) (pe_op op_add (pe_op op_add (pv 1) pe_int) (pe_callB call_len_seq (by rfl) B.len (by decide +kernel) (pa_cons (pv 5) pa_nil)))))))))))
      (pss_cons (ps_if (pt_not (pt_truth (pv 3) (by intro _; rfl)))
        (pss_one ps_no)
        pss_nil)
      (pss_one (ps_ret (pv 3)))))), ?_⟩
    intro d hdn
    refine ⟨fun m σ H1 => ∃ (j at_ : Nat) (v1 v2 : Option V) (kvs : List (Key × V)), m = rs.length - j ∧ j ≤ rs.length ∧ σ = [some (.ref l), some (.int (at_ : Nat)), some (.ref a), some (.ref d), v1, v2] ∧ at_ ≤ ls.length ∧ ls.drop at_ = ruleLines (rs.drop j) ∧ Same H H1 ∧ H1 d = some (.dK kvs) ∧
        RulesAt K (Grow (fun _ => none) (upd H d (.dK [])) H1) (rs.take j) kvs, ⟨rs.length, 0, i, none, none, [], rfl, Nat.zero_le _, rfl, hi, by rw [hd, List.drop_zero], Kb.same_upd hdn, upd_same, rfl, fun j kv r e => by simp at e⟩, ?_⟩
    rintro m σ H1 ⟨j, at_, v1, v2, kvs, rfl, hj, rfl, hat, hdr, s1, ed, ra⟩
    refine ⟨_, rfl, _, rfl, l, _, rfl, .inl (Same.seq s1 hL), _, _, rfl, rfl, _, rfl, ?_⟩
    rw [List.length_map]
    have hkl : kvs.length = j := by rw [ra.1, List.length_take]; omega
    by_cases c1 : at_ < ls.length
    · rw [decide_eq_true (by omega)]
      -- a rule is left
      obtain ⟨r, hrj⟩ : ∃ r, rs[j]? = some r := by
        by_cases lt : j < rs.length
        · exact ⟨_, List.getElem?_eq_getElem lt⟩
        · rw [List.drop_eq_nil_of_le (by omega : rs.length ≤ j)] at hdr
          have := congrArg List.length hdr
          simp only [List.length_drop, ruleLines, List.flatMap_nil, List.length_nil] at this
          omega
      have jl : j < rs.length := (List.getElem?_eq_some_iff.mp hrj).1
      have hrm := List.mem_of_getElem? hrj
      obtain ⟨rw_, rne, r3, rps, rback⟩ := hok r hrm
      have hcons : rs.drop j = r :: rs.drop (j + 1) := by
        rw [List.drop_eq_getElem_cons jl]
        have : rs[j] = r := by
          have := List.getElem?_eq_getElem jl
          rw [hrj] at this
          exact (Option.some.inj this).symm
        rw [this]
      have hdr2 : ls.drop at_ = ruleLine r.1 :: (r.2.map passLine ++ ruleLines (rs.drop (j + 1))) := by
        rw [hdr, hcons]
        simp [ruleLines]
      have hz : ls[at_]? = some (ruleLine r.1) := by
        have := congrArg (fun x : List Str => x[0]?) hdr2
        simpa [List.getElem?_drop] using this
      have hdr3 : ls.drop (at_ + 1) = r.2.map passLine ++ ruleLines (rs.drop (j + 1)) := by
        have := congrArg (fun x : List Str => x.drop 1) hdr2
        simpa [List.drop_drop, Nat.add_comm] using this
      have hv : valV kvs (Sum.inr r.1) = none := by
        unfold valV
        rw [Option.map_eq_none_iff, List.find?_eq_none]
        intro kv hkv e
        have e' : kv.1 = Sum.inr r.1 := of_decide_eq_true e
        obtain ⟨q, hq, eq⟩ := List.getElem_of_mem hkv
        have hq2 : q < rs.length := by omega
        have g1 : (rs.take j)[q]? = some (rs[q]) := by
          rw [List.getElem?_take_of_lt (by omega), List.getElem?_eq_getElem hq2]
        have g2 := (ra.2 q kv (rs[q]) (by rw [List.getElem?_eq_getElem hq, eq]) g1).1
        rw [e'] at g2
        have g3 : r.1 = (rs[q]).1 := by injection g2
        have g4 : (rs.map (·.1))[q]? = some r.1 := by rw [List.getElem?_map, List.getElem?_eq_getElem hq2, g3]; rfl
        have g5 : (rs.map (·.1))[j]? = some r.1 := by rw [List.getElem?_map, hrj]; rfl
        have := nd_ix hnd g4 g5
        omega
      refine iteT ⟨fun σ' H' => ∃ (at' : Nat) (v1 v2 : Option V) (kvs : List (Key × V)), σ' = [some (.ref l), some (.int (at' : Nat)), some (.ref a), some (.ref d), v1, v2] ∧ at' ≤ ls.length ∧ ls.drop at' = ruleLines (rs.drop (j + 1)) ∧ Same H H' ∧ H' d = some (.dK kvs) ∧
        RulesAt K (Grow (fun _ => none) (upd H d (.dK [])) H') (rs.take (j + 1)) kvs, fun σ' H' ⟨at', v1, v2, kvs, e, b1, b2, b3, b4, b5⟩ => ⟨rs.length - (j + 1), by omega, j + 1, at', v1, v2, kvs, rfl, jl, e, b1, b2, b3, b4, b5⟩, ?_⟩
      refine ⟨_, rfl, _, rfl, l, _, _, _, rfl, rfl, Same.seq s1 hL, atI_nat' (by omega) (v := V.str (ruleLine r.1)) (by rw [List.getElem?_map, Int.toNat_natCast, hz]; rfl), _, rfl, r.1, d, kvs, rfl, rw_, ed, hv, by omega, fun H2 s12 => ?_⟩
      refine ⟨_, rfl, ?_⟩
      show ∃ k, V.bl (decide (V.str r.1 = V.non)) = V.bl k ∧ _
      refine ⟨_, rfl, ?_⟩
      rw [decide_eq_false (by intro z; cases z)]
      refine iteF ?_
      have s02 : Same H H2 := Same.trans s1 s12
      have hat1 : at_ + 1 ≤ ls.length := c1
      refine ⟨_, rfl, _, rfl, _, _, rfl, rfl, _, rfl, l, a, ls, at_ + 1, r.2, ruleLines (rs.drop (j + 1)), sg, rfl, Same.seq s02 hL, hdr3, hl, hat1, hS.same s02, hsg, rps, r3, fun z hz2 => ?_, rback, fun H3 t ys s23 nt e3 pa => ?_⟩
      · cases hq : rs.drop (j + 1) with
        | nil =>
          rw [hq] at hz2
          simp [ruleLines] at hz2
        | cons r2 rest =>
          rw [hq] at hz2
          simp only [ruleLines, List.flatMap_cons, List.cons_append, List.head?_cons, Option.some.injEq] at hz2
          subst hz2
          have m2 : r2 ∈ rs := List.mem_of_mem_drop (by rw [hq]; exact .head _)
          have np := rule_noPass r2.1 (hok r2 m2).1
          exact ⟨np.1, Nat.le_trans np.2 (by decide)⟩
      · have yl : 1 ≤ ys.length := by
          rw [pa.1]
          cases hr2 : r.2 with
          | nil => exact absurd hr2 rne
          | cons => simp
        refine ⟨_, rfl, _, .inr (.inl ⟨ys, .of e3, rfl⟩), ?_⟩
        have ye : ys.isEmpty = false := by
          cases ys with
          | nil => simp at yl
          | cons => rfl
        rw [ye]
        refine iteF ?_
        have ed3 : H3 d = some (.dK kvs) := s23 _ _ (s12 _ _ ed)
        refine ⟨_, rfl, _, rfl, _, rfl, d, _, rfl, .inl ⟨kvs, Sum.inr r.1, ed3, rfl, Nat.lt_of_le_of_lt (by omega : kvs.length ≤ 4) (by decide), rfl⟩, ?_⟩
        rw [putK_new hv]
        have ed4 : (upd H3 d (.dK (kvs ++ [(Sum.inr r.1, V.ref t)]))) d = some (.dK (kvs ++ [(Sum.inr r.1, V.ref t)])) := upd_same
        have ntd : t ≠ d := fun z => by
          rw [z, s12 _ _ ed] at nt
          cases nt
        have et4 : (upd H3 d (.dK (kvs ++ [(Sum.inr r.1, V.ref t)]))) t = some (.tup ys) := by rw [upd_ne ntd]; exact e3
        have s13 : Same H1 H3 := Same.trans s12 s23
        have st := grow_stepO (G1 := fun _ => none) (o0 := .dK []) (o2 := .dK (kvs ++ [(Sum.inr r.1, V.ref t)])) hdn s1 ed s13
        have gp : Same (Grow (fun _ => none) (upd H d (.dK [])) H1) H1 := grow_partO nw_none hdn s1
        have toG : Same (Nw H1 H3) (Grow (fun _ => none) (upd H d (.dK [])) (upd H3 d (.dK (kvs ++ [(Sum.inr r.1, V.ref t)])))) := fun b o e => st b o (by
          by_cases hb : H1 b = none
          · exact grow_new hb ((if_pos hb).symm.trans e)
          · have z := (if_neg hb).symm.trans e
            cases z)
        refine ⟨_, rfl, _, _, rfl, rfl, _, rfl, t, ys, rfl, .inr (.of et4), _, _, rfl, rfl, at_ + 1 + ys.length, some (.str r.1), some (.ref t), kvs ++ [(Sum.inr r.1, V.ref t)], ?_, ?_, ?_, fun b o e => ?_, ed4, ?_⟩
        · show [some (V.ref l), some (V.int (((at_ : Nat) : Int) + 1 + ((ys.length : Nat) : Int))), some (V.ref a), some (V.ref d), some (V.str r.1), some (V.ref t)] = _
          have e : ((at_ : Nat) : Int) + 1 + ((ys.length : Nat) : Int) = ((at_ + 1 + ys.length : Nat) : Int) := by omega
          rw [e]
        · have := congrArg List.length hdr3
          simp only [List.length_drop, List.length_append, List.length_map] at this
          rw [pa.1]
          omega
        · rw [← List.drop_drop, hdr3, pa.1]
          have e : r.2.length = (r.2.map passLine).length := by simp
          rw [e, List.drop_left]
        · rw [upd_ne (ne_of_none e hdn)]
          exact s23 _ _ (s12 _ _ (s1 _ _ e))
        · refine ⟨by rw [List.length_append, List.length_take]; simp only [List.length_cons, List.length_nil]; omega, fun q kv r' e1 e2 => ?_⟩
          by_cases lq : q < kvs.length
          · rw [List.getElem?_append_left lq] at e1
            have e2' : (rs.take j)[q]? = some r' := by
              rw [List.getElem?_take_of_lt (by omega)] at e2 ⊢
              exact e2
            obtain ⟨b1, t', ys', b2, b3, b4⟩ := ra.2 q kv r' e1 e2'
            exact ⟨b1, t', ys', b2, Kb.Same.seqT st (Kb.Same.seqT (grow_old gp) b3), (b4.same (grow_old gp)).same st⟩
          · have hq : q = kvs.length := by
              have := (List.getElem?_eq_some_iff.mp e1).1
              rw [List.length_append] at this
              simp only [List.length_cons, List.length_nil] at this
              omega
            subst hq
            have ekv : kv = (Sum.inr r.1, V.ref t) := by
              rw [List.getElem?_append_right (Nat.le_refl _)] at e1
              simpa using e1.symm
            have er : r' = r := by
              rw [List.getElem?_take_of_lt (by omega), hkl, hrj] at e2
              exact (Option.some.inj e2).symm
            subst ekv er
            exact ⟨rfl, t, ys, rfl, .of (toG _ _ (nw_mk (s12.free nt) e3)), (pa.same (nw_left s12)).same toG⟩
    · rw [decide_eq_false (by omega)]
      refine iteF ?_
      have jn : j = rs.length := by
        by_cases lt : j < rs.length
        · rw [List.drop_eq_nil_of_le (by omega : ls.length ≤ at_)] at hdr
          have hc : rs.drop j = rs[j] :: rs.drop (j + 1) := List.drop_eq_getElem_cons lt
          rw [hc] at hdr
          have hq := congrArg List.length hdr
          simp only [ruleLines, List.flatMap_cons, List.length_append, List.length_cons, List.length_nil] at hq
          omega
        · omega
      subst jn
      rw [List.take_length] at ra
      have kl1 : 1 ≤ kvs.length := by
        rw [hkl]
        cases hrs : rs with
        | nil => exact absurd hrs hne
        | cons => simp
      refine ⟨_, rfl, _, .inr (.inr ⟨kvs, ed, rfl⟩), ?_⟩
      have ke : kvs.isEmpty = false := by
        cases kvs with
        | nil => simp at kl1
        | cons => rfl
      rw [ke]
      refine iteF ⟨_, rfl, ?_⟩
      exact k H1 d kvs s1 hdn ed (ra.same (grow_lastO nw_none hdn))
end
end K1
set_option Elab.async false
set_option linter.all false
set_option maxRecDepth 100000
set_option maxHeartbeats 4000000
namespace K1
open PySem PySem.Spec PyProof.Rows L2 Kb Kc
/-- what a house is told by -/
structure Lore where
  sg : List Str
  fs : List (List Item)
  rs : List Rule
def Lore.Ok (L : Lore) : Prop := SgOk L.sg ∧ L.fs.length ≤ 2 ∧ (∀ f ∈ L.fs, f ≠ [] ∧ f.length ≤ 6 ∧ ∀ i ∈ f, ItemOk L.sg i.1 i.2) ∧ (∀ r ∈ L.rs, RuleOk L.sg r) ∧ L.rs ≠ [] ∧ L.rs.length ≤ 4 ∧ (L.rs.map (·.1)).Nodup
def Lore.lines (L : Lore) : List Str := signsLine L.sg :: (L.fs.map formLine ++ ruleLines L.rs)
def Lore.text (L : Lore) : Str := ("\n" : Str).join L.lines
/-- a tuple of items -/
def isForm (K : PySem.W.Frag) (H : Hp) (y : V) : Prop := ∃ (t : Addr) (ys : List V), y = .ref t ∧ SqT K H t ys ∧ ys.length ≤ 6 ∧ ∀ z ∈ ys, isItem K H z
theorem isForm.same {K : PySem.W.Frag} {H H' : Hp} {y : V} (s : Same H H') (h : isForm K H y) : isForm K H' y := by
  obtain ⟨t, ys, e, q, l, i⟩ := h
  exact ⟨t, ys, e, Kb.Same.seqT s q, l, fun z m => (i z m).same s⟩
/-- lines hold no line feed -/
theorem line_free {sep : Str} {ws : List Str} (hs : free 10 sep) (h : ∀ w ∈ ws, free 10 w) : free 10 (sep.join ws) := fun z => by
  rcases join_mem z with a | ⟨w, m, a⟩
  · exact hs a
  · exact h w m a
theorem sp_free10 : free 10 " " := by
  show ¬ 10 ∈ (" " : Str).cps.toList
  decide +kernel
theorem lit10 : ∀ s ∈ (["signs", "names", "rule"] : List Str), free 10 s := by
  intro s hs
  have f : ∀ s ∈ (["signs", "names", "rule"] : List Str), decide (¬ 10 ∈ s.cps.toList) = true := by decide +kernel
  exact (of_decide_eq_true (f s hs) : ¬ 10 ∈ s.cps.toList)
theorem signs_line10 {sg : List Str} (h : SgOk sg) : free 10 (signsLine sg) := line_free sp_free10 fun w hw => by
  rcases List.mem_cons.mp hw with rfl | m
  · exact lit10 _ (by simp)
  · exact (sg_free w (h.2.2.2 w m)).2.1
theorem form_line10 {sg : List Str} {f : List Item} (hs : SgOk sg) (h : ∀ i ∈ f, ItemOk sg i.1 i.2) : free 10 (formLine f) := line_free sp_free10 fun w hw => by
  rcases List.mem_cons.mp hw with rfl | m
  · exact lit10 _ (by simp)
  · obtain ⟨i, hi, rfl⟩ := List.mem_map.mp m
    exact (item_free hs.2.2.2 (h i hi)).2
theorem rule_line10 {nm : Str} (h : nm ∈ WD) : free 10 (ruleLine nm) := line_free sp_free10 fun w hw => by
  rcases List.mem_cons.mp hw with rfl | m
  · exact lit10 _ (by simp)
  · simp only [List.mem_cons, List.not_mem_nil, or_false] at m
    subst m
    exact (wd_free _ h).2
theorem pass_line10 {sg : List Str} (hs : SgOk sg) {p : Ps} (h : p.ok sg) : free 10 (passLine p) := fun z => by
  have z' : 10 ∈ (("  " : Str) ++ (" " : Str).join p.words).cps.toList := z
  rw [pre_toList] at z'
  simp only [List.mem_cons] at z'
  rcases z' with z' | z' | z'
  · omega
  · omega
  · exact line_free sp_free10 (fun w hw => ((ps_words hs h).1 w hw).2.1) z'
theorem lines10 {L : Lore} (h : L.Ok) : ∀ z ∈ L.lines, free 10 z := by
  obtain ⟨hs, _, hf, hr, _⟩ := h
  intro z hz
  rcases List.mem_cons.mp hz with rfl | m
  · exact signs_line10 hs
  rcases List.mem_append.mp m with m | m
  · obtain ⟨f, hfm, rfl⟩ := List.mem_map.mp m
    exact form_line10 hs (hf f hfm).2.2
  · obtain ⟨r, hrm, hz2⟩ := List.mem_flatMap.mp m
    rcases List.mem_cons.mp hz2 with rfl | m2
    · exact rule_line10 (hr r hrm).1
    · obtain ⟨p, hp, rfl⟩ := List.mem_map.mp m2
      exact pass_line10 hs ((hr r hrm).2.2.2.1 p hp)
theorem nl_split {L : Lore} (h : L.Ok) : Txt.split L.text "\n" = L.lines := by
  unfold Lore.text
  rw [nl_eq]
  exact split_join (by simp [Lore.lines]) (lines10 h)
theorem line_len {L : Lore} (h : L.Ok) : ∀ z ∈ L.lines, z.length ≤ 240 := by
  obtain ⟨hs, _, hf, hr, _⟩ := h
  intro z hz
  rcases List.mem_cons.mp hz with rfl | m
  · refine Nat.le_trans (join_small (sep := " ") (m := 5) (n := 9) (fun w hw => ?_) (by have := hs.2.1; rw [List.length_cons]; omega)) (by decide)
    rcases List.mem_cons.mp hw with rfl | m
    · decide +kernel
    · rw [sg_len w (hs.2.2.2 w m)]
      decide
  rcases List.mem_append.mp m with m | m
  · obtain ⟨f, hfm, rfl⟩ := List.mem_map.mp m
    refine Nat.le_trans (join_small (sep := " ") (m := 9) (n := 7) (fun w hw => ?_) (by have := (hf f hfm).2.1; rw [List.length_cons, List.length_map]; omega)) (by decide)
    rcases List.mem_cons.mp hw with rfl | m
    · decide +kernel
    · obtain ⟨i, hi, rfl⟩ := List.mem_map.mp m
      exact item_len hs ((hf f hfm).2.2 i hi)
  · obtain ⟨r, hrm, hz2⟩ := List.mem_flatMap.mp m
    rcases List.mem_cons.mp hz2 with rfl | m2
    · exact Nat.le_trans (rule_noPass r.1 (hr r hrm).1).2 (by decide)
    · obtain ⟨p, hp, rfl⟩ := List.mem_map.mp m2
      unfold passLine
      rw [pre_len]
      exact Nat.le_trans (Nat.add_le_add_right (pass_len hs ((hr r hrm).2.2.2.1 p hp)) 2) (by decide)
theorem rule_lines_le : ∀ {sg : List Str} {rs : List Rule}, (∀ r ∈ rs, RuleOk sg r) → (ruleLines rs).length ≤ rs.length * 4
  | _, [], _ => Nat.zero_le _
  | sg, r :: t, h => by
    have a := (h r (.head _)).2.2.1
    have b := rule_lines_le (sg := sg) (rs := t) fun x hx => h x (.tail _ hx)
    unfold ruleLines at b ⊢
    rw [List.flatMap_cons, List.length_append, List.length_cons, List.length_map, List.length_cons, Nat.add_mul]
    omega
theorem lines_le {L : Lore} (h : L.Ok) : L.lines.length ≤ 19 := by
  obtain ⟨hs, h2, hf, hr, _, h4, _⟩ := h
  have := rule_lines_le hr
  unfold Lore.lines
  rw [List.length_cons, List.length_append, List.length_map]
  omega
theorem text_len {L : Lore} (h : L.Ok) : L.text.length ≤ 19 * (240 + 1) := join_small (sep := "\n") (line_len h) (lines_le h)
abbrev s_read_house : Stmt := top 47
theorem sc_read_house : FnScope ["text", "lines", "signs", "forms", "items"] ["text"] (defScope s_read_house) := ⟨rfl, rfl, rfl, by decide +kernel, rfl, by decide +kernel, by decide +kernel⟩
def spReadHouse (K : PySem.W.Frag) : Sp := fun vs H Q _ => ∃ L : Lore, vs = [.str L.text] ∧ L.Ok ∧ ∀ H' (t a tf d : Addr) (fys : List V) (kvs : List (Key × V)), Same H H' → H t = none → H' t = some (.tup [.ref a, .ref tf, .ref d]) →
  H a = none → SgT H' a L.sg → H tf = none → H' tf = some (.tup fys) → fys.length = L.fs.length → (∀ y ∈ fys, isForm K (Nw H H') y) → H d = none → H' d = some (.dK kvs) → RulesAt K (Nw H H') L.rs kvs → Q (.ref t) H'
section
variable {P : Program} {w : World} {K : PySem.W.Frag} {mg : Str → Option Value} {base : Heap}
theorem ok_read_house {f fread_signs fread_form fread_rules : Addr} {fd fdread_signs fdread_form fdread_rules : FuncData} (F : Fun K "read_house" "read_house" s_read_house f fd) (B : Bl mg) (C : Gb K mg)
    (Fread_signs : Fun K "read_signs" "read_signs" s_read_signs fread_signs fdread_signs) (bread_signs : Binds K fdread_signs ["line"] []) (gread_signs : mg "read_signs" = some (.ref fread_signs)) (Gread_signs : FnOk P w K mg base CX0 2 fread_signs fdread_signs ["line"] spReadSigns)
    (Fread_form : Fun K "read_form" "read_form" s_read_form fread_form fdread_form) (bread_form : Binds K fdread_form ["line", "signs"] []) (gread_form : mg "read_form" = some (.ref fread_form)) (Gread_form : FnOk P w K mg base CX0 3 fread_form fdread_form ["line", "signs"] (spReadForm K))
    (Fread_rules : Fun K "read_rules" "read_rules" s_read_rules fread_rules fdread_rules) (bread_rules : Binds K fdread_rules ["lines", "at", "signs"] []) (gread_rules : mg "read_rules" = some (.ref fread_rules)) (Gread_rules : FnOk P w K mg base CX0 8 fread_rules fdread_rules ["lines", "at", "signs"] (spReadRules K)) :
    FnOk P w K mg base CX0 9 f fd ["text"] (spReadHouse K) := by
  obtain ⟨t1, gMOST_FORMS⟩ := C.MOST_FORMS
  refine F.ok sc_read_house (fun vs H Q E h => ?_) (fun cdv A outer s H vs Q E hr h => ?_)
  · obtain ⟨L, rfl, _⟩ := h
    rfl
  · obtain ⟨L, rfl, hok, k⟩ := h
    obtain ⟨hsg, hf2, hfs, hrs, rne, r4, rnd⟩ := id hok
    have htl := text_len hok
    refine ⟨_, (pss_cons (ps_if (pt_not (pt_val (pe_callB call_isi (by rfl) B.isinstance (by decide +kernel) (pa_cons (pv 0) (pa_cons (pe_bltn (v := .ty "str") (u := .type "str") (by rfl) B.str (by decide +kernel) rfl) pa_nil)))))
        (pss_one ps_no)
        pss_nil)
      (pss_cons (ps_set (i := 1) sc_read_house.nd rfl (Or.inl rfl) (pe_split (pv 0) pe_str))
      (pss_cons (ps_set (i := 2) sc_read_house.nd rfl (Or.inl rfl) (pe_call Gread_signs (hr.mono (by decide)) (by rfl) gread_signs Fread_signs.kp bread_signs .nil pass0 (pa_cons (pe_ix ix_list (pv 1) pe_int (fun _ _ => rfl)) pa_nil)))
      (pss_cons (ps_if (pt_cmp (pc_isN (pv 2)) rfl)
        (pss_one ps_no)
        pss_nil)
      (pss_cons (ps_set (i := 3) sc_read_house.nd rfl (Or.inl rfl) (pe_lstB pa_nil))
      (pss_cons (ps_while PassesOwn.never (PW.pt (pw_and (pt_cmpR op_lt (pe_callB call_len_seq (by rfl) B.len (by decide +kernel) (pa_cons (pv 3) pa_nil)) (pe_glob (v := .int _) (by rfl) gMOST_FORMS ⟨_, rfl⟩) (nomark _)) (pw_and1 (pt_cmpR op_lt (pe_op op_add (pe_callB call_len_seq (by rfl) B.len (by decide +kernel) (pa_cons (pv 3) pa_nil)) pe_int) (pe_callB call_len_seq (by rfl) B.len (by decide +kernel) (pa_cons (pv 1) pa_nil)) (nomark _)))))
        (pss_cons (ps_set (i := 4) sc_read_house.nd rfl (Or.inl rfl) (pe_call Gread_form (hr.mono (by decide)) (by rfl) gread_form Fread_form.kp bread_form .nil pass0 (pa_cons (pe_ix ix_list (pv 1) (pe_op op_add (pe_callB call_len_seq (by rfl) B.len (by decide +kernel) (pa_cons (pv 3) pa_nil)) pe_int) (fun _ _ => rfl)) (pa_cons (pv 2) pa_nil))))
      (pss_cons (ps_if (pt_cmp (pc_isN (pv 4)) rfl)
        (pss_one ps_break)
        pss_nil)
      (pss_one (ps_expr (pe_bm PySem.F.plainAttrs_list PySem.F.slot_list_append PySem.F.type_list_append mt_append (pv 3) (pa_cons (pv 4) pa_nil)))))))
      (pss_one (ps_ret (pe_tup (pa_cons (pv 2) (pa_cons (pe_tupleOf (by rfl) B.tuple (pv 3)) (pa_cons (pe_call Gread_rules hr (by rfl) gread_rules Fread_rules.kp bread_rules .nil pass0 (pa_cons (pv 1) (pa_cons (pe_op op_add (pe_callB call_len_seq (by rfl) B.len (by decide +kernel) (pa_cons (pv 3) pa_nil)) pe_int) (pa_cons (pv 2) pa_nil)))) pa_nil)))))))))))), ?_⟩
    refine ⟨_, rfl, .str _, .ty "str", _, _, true, rfl, .ty _, .base (.str _), kit_ty (a := "str") (b := "str") (r := true) (by decide +kernel), _, rfl, iteF ?_⟩
    refine ⟨_, rfl, ⟨_, rfl⟩, _, _, rfl, rfl, by decide +kernel, Nat.le_trans (Nat.add_le_add_right htl 2) (by decide), fun p hp => ?_⟩
    rw [nl_split hok]
    have e1 : (upd H p (.lst (L.lines.map V.str))) p = some (.lst (L.lines.map V.str)) := upd_same
    have S1 : Same H (upd H p (.lst (L.lines.map V.str))) := Kb.same_upd hp
    obtain ⟨J1, q1⟩ : ∃ z, z = upd H p (.lst (L.lines.map V.str)) := ⟨_, rfl⟩
    rw [← q1] at e1 S1 ⊢
    have hll := lines_le hok
    refine ⟨_, rfl, p, _, _, _, rfl, rfl, .of e1, atI_nat' (by decide) (v := V.str (signsLine L.sg)) (by rfl), L.sg, rfl, hsg, fun H2 a s12 na ea => ?_⟩
    refine ⟨_, rfl, ?_⟩
    show ∃ k, V.bl (decide (V.ref a = V.non)) = V.bl k ∧ _
    refine ⟨_, rfl, ?_⟩
    rw [decide_eq_false (by intro z; cases z)]
    refine iteF ⟨(by show 0 ≤ sizeLine; decide), fun fl hfl _ => ?_⟩
    have s02 : Same H H2 := Same.trans S1 s12
    refine ⟨fun m σ H3 => ∃ (j : Nat) (v : Option V) (ys : List V), m = 2 - j ∧ j ≤ L.fs.length ∧ σ = [some (.str L.text), some (.ref p), some (.ref a), some (.ref fl), v] ∧ Same H2 H3 ∧ H3 fl = some (.lst ys) ∧ ys.length = j ∧
        RelL (fun H _ y => isForm K H y) (Grow (fun _ => none) (upd H2 fl (.lst [])) H3) ys, ⟨2, 0, none, [], rfl, Nat.zero_le _, rfl, Kb.same_upd hfl, upd_same, rfl, fun j y e => by simp at e⟩, ?_⟩
    rintro m σ H3 ⟨j, v, ys, rfl, hj, rfl, s23, efl, ely, rl⟩
    have hrl : 1 ≤ (ruleLines L.rs).length := by
      cases hq : L.rs with
      | nil => exact absurd hq rne
      | cons r t => simp [ruleLines]
    have hll2 : L.lines.length = 1 + L.fs.length + (ruleLines L.rs).length := by
      simp only [Lore.lines, List.length_cons, List.length_append, List.length_map]
      omega
    refine ⟨_, rfl, fl, ys, rfl, .inl (.of efl), _, _, rfl, rfl, _, rfl, ?_⟩
    by_cases c1 : j < 2
    · rw [decide_eq_true (by omega)]
      refine iteT ⟨_, rfl, fl, ys, rfl, .inl (.of efl), _, _, rfl, rfl, _, rfl, p, _, rfl, .inl (.of (s23 _ _ (s12 _ _ e1))), _, _, rfl, rfl, _, rfl, ?_⟩
      rw [List.length_map, decide_eq_true (by omega)]
      refine iteT ⟨fun σ' H' => ∃ (v : Option V) (ys : List V), σ' = [some (.str L.text), some (.ref p), some (.ref a), some (.ref fl), v] ∧ j + 1 ≤ L.fs.length ∧ Same H2 H' ∧ H' fl = some (.lst ys) ∧ ys.length = j + 1 ∧
        RelL (fun H _ y => isForm K H y) (Grow (fun _ => none) (upd H2 fl (.lst [])) H') ys, fun σ' H' ⟨v, ys, e, b1, b2, b3, b4, b5⟩ => ⟨2 - (j + 1), by omega, j + 1, v, ys, rfl, b1, e, b2, b3, b4, b5⟩, ?_⟩
      have e3 := s23 _ _ (s12 _ _ e1)
      by_cases c3 : j < L.fs.length
      · obtain ⟨f, hfj⟩ : ∃ f, L.fs[j]? = some f := ⟨_, List.getElem?_eq_getElem c3⟩
        have hz : L.lines[j + 1]? = some (formLine f) := by
          show (L.fs.map formLine ++ ruleLines L.rs)[j]? = _
          rw [List.getElem?_append_left (by simpa using c3), List.getElem?_map, hfj]
          rfl
        have hfm := List.mem_of_getElem? hfj
        obtain ⟨fne, f6, fok⟩ := hfs f hfm
        refine ⟨_, rfl, _, rfl, fl, ys, rfl, .inl (.of efl), _, _, rfl, rfl, p, _, _, _, rfl, rfl, .of e3, atI_nat' (by omega) (v := V.str (formLine f)) (by rw [List.getElem?_map, show ((ys.length : Nat) : Int) + 1 = ((j + 1 : Nat) : Int) by omega, Int.toNat_natCast, hz]; rfl), _, rfl, formLine f, a, rfl, .inl ⟨f, L.sg, rfl, (ea.same s23).sq, hsg, fok, fne, f6, fun H4 t zs s34 nt et el iz => ?_⟩⟩
        refine ⟨_, rfl, ?_⟩
        show ∃ k, V.bl (decide (V.ref t = V.non)) = V.bl k ∧ _
        refine ⟨_, rfl, ?_⟩
        rw [decide_eq_false (by intro z; cases z)]
        refine iteF ?_
        have efl4 := s34 _ _ efl
        refine ⟨_, rfl, .inl ⟨rfl, _, .of efl4⟩, _, rfl, fl, ys, V.ref t, rfl, rfl, efl4, Nat.lt_of_le_of_lt (by omega : ys.length ≤ 2) (by decide), ?_⟩
        refine ⟨some (.ref t), ys ++ [V.ref t], rfl, c3, fun b o e => ?_, upd_same, by simp [ely], ?_⟩
        · rw [upd_ne (ne_of_none e hfl)]
          exact s34 _ _ (s23 _ _ e)
        · have st := grow_step (G1 := fun _ => none) (zs := ys ++ [V.ref t]) hfl s23 efl s34
          have gp : Same (Grow (fun _ => none) (upd H2 fl (.lst [])) H3) H3 := grow_part nw_none hfl s23
          have toG : Same (Nw H3 H4) (Grow (fun _ => none) (upd H2 fl (.lst [])) (upd H4 fl (.lst (ys ++ [V.ref t])))) := fun b o e => st b o (by
            by_cases hb : H3 b = none
            · exact grow_new hb ((if_pos hb).symm.trans e)
            · have z := (if_neg hb).symm.trans e
              cases z)
          refine RelL.snoc (fun i2 z2 e2 => ((rl i2 z2 e2).same (grow_old gp)).same st) ?_
          exact ⟨t, zs, rfl, .of (toG _ _ (nw_mk nt et)), by omega, fun z m => (iz z m).same toG⟩
      · have hyl : ys.length = L.fs.length := by omega
        obtain ⟨r, rt, hrq⟩ : ∃ r rt, L.rs = r :: rt := by
          cases hq : L.rs with
          | nil => exact absurd hq rne
          | cons r t => exact ⟨r, t, rfl⟩
        have hr1 := hrs r (by rw [hrq]; exact .head _)
        have hz : L.lines[j + 1]? = some (ruleLine r.1) := by
          show (L.fs.map formLine ++ ruleLines L.rs)[j]? = _
          rw [List.getElem?_append_right (by simp; omega), hrq]
          have : j - (L.fs.map formLine).length = 0 := by simp; omega
          rw [this]
          simp [ruleLines]
        refine ⟨_, rfl, _, rfl, fl, ys, rfl, .inl (.of efl), _, _, rfl, rfl, p, _, _, _, rfl, rfl, .of e3, atI_nat' (by omega) (v := V.str (ruleLine r.1)) (by rw [List.getElem?_map, show ((ys.length : Nat) : Int) + 1 = ((j + 1 : Nat) : Int) by omega, Int.toNat_natCast, hz]; rfl), _, rfl, ruleLine r.1, a, rfl, .inr ⟨"rule", [r.1], rfl, fun x hx => ?_, by decide +kernel, Nat.le_trans (rule_noPass r.1 hr1.1).2 (by decide), fun H4 s34 => ?_⟩⟩
        · rcases List.mem_cons.mp hx with rfl | m
          · show ¬ 32 ∈ ("rule" : Str).cps.toList
            decide +kernel
          · simp only [List.mem_cons, List.not_mem_nil, or_false] at m
            subst m
            exact (wd_free _ hr1.1).1
        refine ⟨_, rfl, ?_⟩
        show ∃ k, V.bl (decide (V.non = V.non)) = V.bl k ∧ _
        refine ⟨_, rfl, ?_⟩
        rw [decide_eq_true rfl]
        refine iteT ?_
        have gp : Same (Grow (fun _ => none) (upd H2 fl (.lst [])) H3) (Grow (fun _ => none) (upd H2 fl (.lst [])) H4) := grow_mono s34
        replace rl : RelL (fun H _ y => isForm K H y) (Grow (fun _ => none) (upd H2 fl (.lst [])) H4) ys := fun i2 z2 e2 => (rl i2 z2 e2).same gp
        replace efl := s34 _ _ efl
        replace s23 := Same.trans s23 s34
        clear gp e3 hz
        generalize H4 = H3 at *
        have htf_ : True := trivial
        refine ⟨_, rfl, _, rfl, .inl ⟨fl, ys, rfl, .of efl, fun tf htf => ?_⟩⟩
        have s24 : Same H2 (upd H3 tf (.tup ys)) := Same.trans s23 (Kb.same_upd htf)
        have s04 : Same H (upd H3 tf (.tup ys)) := Same.trans s02 s24
        have s14 : Same J1 (upd H3 tf (.tup ys)) := Same.trans s12 s24
        refine ⟨_, rfl, _, rfl, fl, ys, rfl, .inl (.of (Kb.same_upd htf _ _ efl)), _, _, rfl, rfl, _, rfl, p, a, L.lines, L.fs.length + 1, L.rs, L.sg, (by rw [hyl]; rfl), .of (s14 _ _ e1), ?_, Nat.le_trans hll (by decide), ?_, ea.same s24, hsg, hrs, rne, r4, rnd, fun H5 d kvs s45 nd ed ra => ?_⟩
        · simp [Lore.lines]
        · simp only [Lore.lines, List.length_cons, List.length_append, List.length_map]
          omega
        refine ⟨(by show 3 ≤ sizeLine; decide), fun t ht => ?_⟩
        have s05 : Same H H5 := Same.trans s04 s45
        have s6 := Kb.same_upd (o := .tup [.ref a, .ref tf, .ref d]) ht
        have s25 : Same H2 H5 := Same.trans s24 s45
        refine k _ t a tf d ys kvs (Same.trans s05 s6) (s05.free ht) upd_same (S1.free na) ((ea.same s25).same s6) (s02.free (s23.free htf)) (s6 _ _ (s45 _ _ upd_same)) hyl (fun y m => ?_) (s04.free nd) (s6 _ _ ed) ((ra.same (nw_left s04)).same (nw_right s6))
        obtain ⟨q, hq, e⟩ := List.getElem_of_mem m
        have h1 := (rl q y (by rw [List.getElem?_eq_getElem hq, e])).same (nw_lst hfl)
        exact ((h1.same (nw_left s02)).same (nw_right (Same.trans (Kb.same_upd htf) s45))).same (nw_right s6)
    · have hyl : ys.length = L.fs.length := by omega
      rw [decide_eq_false (by omega)]
      refine iteF (iteF ?_)
      have htf_ : True := trivial
      refine ⟨_, rfl, _, rfl, .inl ⟨fl, ys, rfl, .of efl, fun tf htf => ?_⟩⟩
      have s24 : Same H2 (upd H3 tf (.tup ys)) := Same.trans s23 (Kb.same_upd htf)
      have s04 : Same H (upd H3 tf (.tup ys)) := Same.trans s02 s24
      have s14 : Same J1 (upd H3 tf (.tup ys)) := Same.trans s12 s24
      refine ⟨_, rfl, _, rfl, fl, ys, rfl, .inl (.of (Kb.same_upd htf _ _ efl)), _, _, rfl, rfl, _, rfl, p, a, L.lines, L.fs.length + 1, L.rs, L.sg, (by rw [hyl]; rfl), .of (s14 _ _ e1), ?_, Nat.le_trans hll (by decide), ?_, ea.same s24, hsg, hrs, rne, r4, rnd, fun H5 d kvs s45 nd ed ra => ?_⟩
      · simp [Lore.lines]
      · simp only [Lore.lines, List.length_cons, List.length_append, List.length_map]
        omega
      refine ⟨(by show 3 ≤ sizeLine; decide), fun t ht => ?_⟩
      have s05 : Same H H5 := Same.trans s04 s45
      have s6 := Kb.same_upd (o := .tup [.ref a, .ref tf, .ref d]) ht
      have s25 : Same H2 H5 := Same.trans s24 s45
      refine k _ t a tf d ys kvs (Same.trans s05 s6) (s05.free ht) upd_same (S1.free na) ((ea.same s25).same s6) (s02.free (s23.free htf)) (s6 _ _ (s45 _ _ upd_same)) hyl (fun y m => ?_) (s04.free nd) (s6 _ _ ed) ((ra.same (nw_left s04)).same (nw_right s6))
      obtain ⟨q, hq, e⟩ := List.getElem_of_mem m
      have h1 := (rl q y (by rw [List.getElem?_eq_getElem hq, e])).same (nw_lst hfl)
      exact ((h1.same (nw_left s02)).same (nw_right (Same.trans (Kb.same_upd htf) s45))).same (nw_right s6)
end
end K1
set_option Elab.async false
set_option linter.all false
set_option maxRecDepth 100000
set_option maxHeartbeats 4000000
namespace Kc
open PySem PySem.Spec PyProof.Rows L2 Kb
/-! ### enumerate(tuple) -/
set_option maxHeartbeats 1000000 in
theorem meets_enum1 {v : Value} {o : Obj} {H : Heap → Prop} (B : Begins v o H) :
    Meets (Builtin.«enumerate.__new__» ⟨[.type "enumerate", v], []⟩) (fun _ R s => H s.heap ∧
      R (.ok (.ret (.ref (s.heap.push o).objs.size))) { s with heap := (s.heap.push o).push { cls := .type "enumerate", data := .fields #[.none, .bool false, .ref s.heap.objs.size, rawInt 0, .none, .none] } }) :=
  .of_wp fun prog w A R s h => by
    obtain ⟨hp, g, d, tk, os⟩ := s; obtain ⟨h1, h⟩ := h
    have hsub := sub_enumerate
    have q1 : ∀ {A' : Around} {E : Value → Shared → Prop} {Q : Value → Shared → Prop}, Q (.ref hp.objs.size) ⟨hp.push o, g, d, tk, os⟩ → wpAny (model prog w) A' (pyIter v) Q E ⟨hp, g, d, tk, os⟩ :=
      fun q => B.iter prog w _ _ ⟨hp, g, d, tk, os⟩ _ h1 q
    wp_walk using q1
    refine wpAny_stack_any fun st => wpAny_pure ?_
    split
    · rename_i c _ _ _ _ _
      cases (c == Value.type "enumerate")
      · wp_walk using q1
        exact ⟨_, rfl, h⟩
      · wp_walk using q1
        exact ⟨_, rfl, h⟩
    · wp_walk using q1
      exact ⟨_, rfl, h⟩
theorem enum_begins1 {prog : Program} {w : World} {A : Around} {E : Value → Shared → Prop} {s : Shared} {v : Value} {o : Obj} {H : Heap → Prop} {Q : Value → Shared → Prop} (B : Begins v o H) (h1 : H s.heap)
    (h : ∀ h', IsEnum h' (s.heap.objs.size + 1) s.heap.objs.size 0 .none → h'.get? s.heap.objs.size = some o → h'.objs.size = s.heap.objs.size + 2 →
      (∀ b o, s.heap.get? b = some o → h'.get? b = some o) → Q (.ref (s.heap.objs.size + 1)) { s with heap := h' }) :
    wpAny (model prog w) A (call (.type "enumerate") [v]) Q E s := by
  refine callType_new F.called_enumerate (by decide) (F.typeCall_enumerate_1 _) (F.newCall_enumerate_1 _) (fun obj => F.args_object_init_2 obj _) F.entry_enumerate_new
    (meets_enum1 B) ⟨h1, ?_⟩
  have hz : (s.heap.push o).objs.size = s.heap.objs.size + 1 := Heap.size_push ..
  show _ ∧ _
  rw [hz]
  have he : IsEnum ((s.heap.push o).push { cls := .type "enumerate", data := .fields #[.none, .bool false, .ref s.heap.objs.size, rawInt 0, .none, .none] }) (s.heap.objs.size + 1) s.heap.objs.size 0 .none := by
    have := Heap.get?_push_size (s.heap.push o) (o := { cls := .type "enumerate", data := .fields #[.none, .bool false, .ref s.heap.objs.size, rawInt 0, .none, .none] }) rfl
    rw [hz] at this; exact this
  refine ⟨⟨_, he, rfl⟩, h _ he (Heap.get?_push_of_some _ (Heap.get?_push_size _ B.free)) (by rw [Heap.size_push, hz]) fun b o x => Heap.get?_push_of_some _ (Heap.get?_push_of_some _ x)⟩
/-- the tuple at a, each item in a new pair -/
def Iet (K : PySem.W.Frag) (a : Addr) : It :=
  ⟨fun i H => ∃ (xs : List V) (x : V), SqT K H a xs ∧ xs[i]? = some x, fun i H v H' => ∃ T x, v = .ref T ∧ H T = none ∧ H' = upd H T (.tup [.int (i : Nat), x]) ∧ ∀ xs, SqT K H a xs → xs[i]? = some x, fun i H => ∃ xs : List V, SqT K H a xs ∧ xs.length ≤ i⟩
theorem turn_enumT {P : Program} {w : World} {K : PySem.W.Frag} {elts : List Expr} {kk : Nat} {tpos : Pos} (a e it : Addr) (nea : a ≠ it) (hea : e ≠ a) :
    Turn P w K (.Tuple elts kk tpos) (Iet K a) [e, it] e (fun i h => (∃ old, IsEnum h e it ((i : Nat) : Int) old) ∧ h.IsTupleIter it a i ∧ e ≠ it) where
  mem := by simp
  obj := fun i h st b hb => by
    obtain ⟨⟨old, he⟩, ⟨o, ho, hc, hd⟩, _⟩ := st
    have e' : b = e ∨ b = it := by simpa using hb
    rcases e' with z | z
    · rw [z]; exact ⟨_, he, fun v q => nomatch q⟩
    · rw [z]; exact ⟨o, ho, fun v q => by rw [hd] at q; cases q⟩
  keep := fun i h h' st k => let ⟨⟨old, he⟩, hi, hne⟩ := st; ⟨⟨old, k e (by simp) _ he⟩, hi.at fun o q => k it (by simp) o q, hne⟩
  item := by
    intro X hP hw hK hc i pins s σ H E I hf st hg
    subst hP hw hK
    obtain ⟨⟨old, he⟩, hit, hne⟩ := st
    obtain ⟨xs, x, hq, hx⟩ := hg
    obtain ⟨its, rv, p, hz⟩ := I.tuple hq
    obtain ⟨u, hu, ru⟩ := rv.get hx
    have hel : e < s.heap.objs.size := Heap.lt_size he
    have hil : it < s.heap.objs.size := by obtain ⟨_, q, _⟩ := hit; exact Heap.lt_size q
    have D := Draws.tuple (prog := X.prog) (w := X.w) (A := X.A.in1) (I.ok.hd hc) it a nea its.toArray
    have hlt : i < its.toArray.size := by
      have := (List.getElem?_eq_some_iff.mp hu).1
      simpa using this
    have hef : e ∉ [it, a] := by
      simp only [List.mem_cons, List.not_mem_nil, or_false, not_or]
      exact ⟨hne, hea⟩
    refine wpAny_pyNext_enum_itemD D he ⟨hit, (show s.heap.IsTuple a its.toArray from p)⟩ hlt hne hef fun y h' tk hP ho hst hT hsz hk => ?_
    have ey : y = u := by
      rw [List.getElem?_toArray, hu] at hP
      exact (Option.some.inj hP).symm
    subst ey
    refine ⟨_, rfl, wpAny_letOwnedTupleGo_enum (s := { s with heap := h', toks := tk + 1 }) ho fun h'' he' sb => ?_⟩
    have hT2 : h''.get? s.heap.objs.size = some { cls := .type "tuple", data := .seq #[.int i tk, y] } := (sb.2 _ (Nat.ne_of_gt hel)).trans hT
    have new : ObjOk X.prog X.w (upd H s.heap.objs.size (.tup [.int (i : Nat), x])) h'' s.heap.objs.size (.tup [.int (i : Nat), x]) :=
      ⟨by show 2 ≤ sizeLine; decide, [.int i tk, y], .cons ⟨_, rfl⟩ (.cons ru .nil), ⟨_, hT2, rfl, _, rfl⟩⟩
    have I1 : Inv X pins σ (upd H s.heap.objs.size (.tup [.int (i : Nat), x])) { s with heap := h'', toks := tk + 1 } :=
      I.turnedNew (ch := [e, it]) (fun b ob hb q => (sb.2 b (fun z => hb (by simp [z]))).trans (hk b ob (fun z => hb (by simp [z])) (fun z => hb (by simp [z])) q)) hf (Nat.le_refl _) new
    refine ⟨.ref s.heap.objs.size, _, I1, rfl, ⟨_, x, rfl, I.hok.fresh (Nat.le_refl _), rfl, fun ys hy => by rw [I.tuple_inj hy hq]; exact hx⟩, ⟨⟨y, ?_⟩, hst.1.at fun o q => (sb.2 it (Ne.symm hne)).trans q, hne⟩, fun b hb => ?_⟩
    · have e1 : ((i + 1 : Nat) : Int) = (i : Int) + 1 := by omega
      rw [e1]; exact he'
    · have hb' : b < s.heap.objs.size := by
        have e' : b = e ∨ b = it := by simpa using hb
        rcases e' with z | z
        · rw [z]; exact hel
        · rw [z]; exact hil
      rw [upd_ne (Nat.ne_of_lt hb')]
      exact (hf b hb).1
  done := by
    intro X hP hw hK hc i pins s σ H E I hf st hg
    subst hP hw hK
    obtain ⟨⟨old, he⟩, hit, hne⟩ := st
    obtain ⟨xs, hq, hx⟩ := hg
    obtain ⟨its, rv, p, hz⟩ := I.tuple hq
    obtain ⟨f0, f1, f2, f3, f4, f5⟩ := hf it (by simp)
    have hl := rv.length
    have D := Draws.tuple (prog := X.prog) (w := X.w) (A := X.A.in1) (I.ok.hd hc) it a nea its.toArray
    have T : s.TypeIs (.ref e) "enumerate" := ⟨_, he, rfl⟩
    unfold pyNext
    refine wpAny_bind (wpAny_attempt (wpAny_callSpecial?_slot (name := Str.ofString "__next__") T F.slot_enumerate_next
      (wpAny_call_entry F.slot_enumerate_next T F.entry_enumerate_next ?_ (F.args_enumerate_next_1 _))))
    show wpAny _ _ (field (.ref e) 2 >>= _) _ _ _
    refine wpAny_bind (wpAny_field he rfl (x := .ref it) rfl ?_)
    refine wpAny_bind (wpAny_nextOf_tuple_end (I.ok.hd hc) hit (show s.heap.IsTuple a its.toArray from p) (by simp; omega) fun h' x he' hx' => ?_)
    obtain ⟨o, ho, hc'⟩ := hx'
    refine wpAny_bind (wpAny_isInstance (T := "StopIteration") (b := true) ⟨o, ho, hc'⟩ isSubtype_stop ?_)
    exact wpAny_pure ⟨rfl, I.turned (t' := s.toks) (fun b o hb q => he' b o hb q) f0 f1 f3 f4 f5⟩
  self := fun A i s Q E st h => let ⟨⟨_, he⟩, _⟩ := st; wpAny_pyIter_enum he h
def iEnumT (K : PySem.W.Frag) (ta : TA) : TI := fun σ H R => ta σ H fun vs H1 => ∃ a xs, vs = [.ref a] ∧ SqT K H1 a xs ∧ R (Iet K a) H1
theorem pi_enumT {X : Cx} {e : Expr} {ta : TA} {p pos tpos : Pos} {elts : List Expr} {kk : Nat} (hg : Gl X "enumerate") (hm : X.mg "enumerate" = none) (ha : PA X [e] ta) (hs : starEach [e] X.env = [(false, eval e X.env)] := by rfl) :
    PI X (.Tuple elts kk tpos) (.Call (.Name "enumerate" p) [e] [] pos) (iEnumT X.K ta) := by
  refine ⟨fun pins s σ H R I h => ?_⟩
  refine Call_ (ld_blt I hg hm boot_enumerate (PyProof.Rows.callWith_type1 (thn (ha.run pos pins s σ H _ I h) fun us s1 ⟨vs, H1, I1, r1, q1⟩ => ?_) hs rfl))
  obtain ⟨a, xs, ex, hq, q⟩ := q1
  subst ex
  cases r1 with
  | cons r rr =>
    cases rr
    cases r
    obtain ⟨its, rv, p', hz⟩ := I1.tuple hq
    have al : a < s1.heap.objs.size := by
      obtain ⟨o, e, _⟩ := (show s1.heap.IsTuple a its.toArray from p')
      exact Heap.lt_size e
    refine enum_begins1 (begins_tuple a its.toArray) (show s1.heap.IsTuple a its.toArray from p') fun h' he hit hsz hk => wpAny_pyIter_enum he ?_
    have I2 : Inv X pins σ H1 { s1 with heap := h' } := I1.kept (t' := s1.toks) hk
    refine ⟨s1.heap.objs.size + 1, [s1.heap.objs.size + 1, s1.heap.objs.size], _, _, H1, rfl, I2, turn_enumT a (s1.heap.objs.size + 1) s1.heap.objs.size (Nat.ne_of_lt al) (Ne.symm (Nat.ne_of_lt (Nat.lt_succ_of_lt al))), ⟨⟨.none, he⟩, ⟨_, hit, rfl, rfl⟩, Nat.succ_ne_self _⟩, fun b hb => ?_, q⟩
    have e' : b = s1.heap.objs.size + 1 ∨ b = s1.heap.objs.size := by simpa using hb
    have hle : s1.heap.objs.size ≤ b := by
      rcases e' with z | z
      · rw [z]; exact Nat.le_add_right _ _
      · rw [z]; exact Nat.le_refl _
    exact I1.fpOk hle (I1.hok.fresh hle)
theorem walk_enumT {K : PySem.W.Frag} {a : Addr} {xs : List V} : Walk (Iet K a) xs.length (fun H => SqT K H a xs) (YPair (fun i => some (.int (i : Nat))) (fun i => xs[i]?)) := by
  refine ⟨fun i _ hi q => ⟨xs, xs[i], q, by simp [hi]⟩, fun _ q => ⟨xs, q, Nat.le_refl _⟩, fun i H v H' _ q y => ?_⟩
  obtain ⟨T, x, h1, h2, h3, h4⟩ := y
  exact ⟨T, .int (i : Nat), x, h1, h2, h3, rfl, h4 xs q⟩
end Kc
set_option Elab.async false
set_option linter.all false
set_option maxRecDepth 100000
set_option maxHeartbeats 4000000
namespace K1
open PySem PySem.Spec PyProof.Rows L2 Kb Kc
theorem ix_listK {X : Cx} {K : PySem.W.Frag} (h : X.K = K) : IxR X (rIxL K) := h ▸ ix_list
theorem ix_tupK {X : Cx} {K : PySem.W.Frag} (h : X.K = K) : IxR X (rIxT K) := h ▸ ix_tup
theorem cr_anyK {X : Cx} {K : PySem.W.Frag} (h : X.K = K) (hc : X.calm = true) : CallR X (.builtin "any") (rAny K) := h ▸ cr_any hc
theorem cr_allK {X : Cx} {K : PySem.W.Frag} (h : X.K = K) (hc : X.calm = true) : CallR X (.builtin "all") (rAll K) := h ▸ cr_all hc
theorem cr_sumK {X : Cx} {K : PySem.W.Frag} (h : X.K = K) (hc : X.calm = true) : CallR X (.builtin "sum") (rSum K) := h ▸ cr_sum hc
theorem pg_tupK {X : Cx} {K : PySem.W.Frag} {es : List Expr} {k n : Nat} {pos : Pos} {t : TGs} (hK : X.K = K) (hc : X.calm = true) (h : PGs X es t) (hn : (assignEach es X.env).length = n := by rfl)
    (hst : (assignEach es X.env).findIdx? (·.1) = none := by rfl) : PG X (.Tuple es k pos) (gTup K n t) := hK ▸ pg_tup hc h hn hst
theorem sc_has_figures_together : FnScope ["classes", "kinds", "places", "part", "at", "kind", "sign"] ["classes"] (defScope s_has_figures_together) := ⟨rfl, rfl, rfl, by decide +kernel, rfl, by decide +kernel, by decide +kernel⟩
theorem fig_one : ∀ s ∈ SG, ∃ c, s = ⟨#[c]⟩ ∧ decide (c ∈ ("0123456789" : Str).cps.toList) = isFig s := by
  intro s hs
  simp only [SG, List.mem_cons, List.not_mem_nil, or_false] at hs
  rcases hs with rfl | rfl | rfl | rfl | rfl | rfl | rfl | rfl | rfl | rfl | rfl | rfl | rfl <;> exact ⟨_, rfl, by decide +kernel⟩
theorem gtwo_mono (i j : Nat) : ∀ (x : V) (σ : L2.St) (H : Hp) (P P' : L2.St → Hp → Prop), gName i x σ H P → (∀ σ2 H2, P σ2 H2 → P' σ2 H2) → gName i x σ H P' := fun _ _ _ _ _ h f => f _ _ h
theorem rel_map {α : Type} {f : α → V} {zs : List α} {G : Hp} {ys : List V} (hl : ys.length = zs.length) (h : RelL (fun _ i y => ∃ z, zs[i]? = some z ∧ y = f z) G ys) : ys = zs.map f := by
  refine List.ext_getElem? fun i => ?_
  rw [List.getElem?_map]
  by_cases lt : i < ys.length
  · obtain ⟨z, e1, e2⟩ := h i _ (List.getElem?_eq_getElem lt)
    rw [List.getElem?_eq_getElem lt, e1, e2]
    rfl
  · rw [List.getElem?_eq_none (by omega), List.getElem?_eq_none (by omega)]
    rfl
theorem rep_any {n : Nat} {b : Bool} : (List.replicate (n + 1) b).any id = b := by
  cases b <;> simp
theorem rep_all {n : Nat} {b : Bool} : (List.replicate (n + 1) b).all id = b := by
  cases b <;> simp
/-- a row of one kind -/
theorem kinds_same {rows : List (List Str)} (h : FigOk rows) : ∃ a m : Nat, ∀ (i : Nat) (r : List Str), rows[i]? = some r → ∀ s ∈ r, isFig s = (decide (a ≤ i) && decide (i < a + m)) := by
  obtain ⟨A, M, Z, rfl, h1, h2⟩ := h
  refine ⟨A.length, M.length, fun i r hr s hs => ?_⟩
  by_cases c1 : i < A.length
  · rw [decide_eq_false (by omega : ¬ A.length ≤ i), Bool.false_and]
    rw [List.append_assoc, List.getElem?_append_left c1] at hr
    exact h2 r (List.mem_append_left _ (List.mem_of_getElem? hr)) s hs
  · by_cases c2 : i < A.length + M.length
    · rw [decide_eq_true (by omega : A.length ≤ i), decide_eq_true c2, Bool.true_and]
      rw [List.append_assoc, List.getElem?_append_right (by omega), List.getElem?_append_left (by omega)] at hr
      exact h1 r (List.mem_of_getElem? hr) s hs
    · rw [decide_eq_false c2, Bool.and_false]
      rw [List.append_assoc, List.getElem?_append_right (by omega), List.getElem?_append_right (by omega)] at hr
      exact h2 r (List.mem_append_right _ (List.mem_of_getElem? hr)) s hs
section
variable {P : Program} {w : World} {K : PySem.W.Frag} {mg : Str → Option Value} {base : Heap}
theorem ok_has_figures_together {f : Addr} {fd : FuncData} (F : Fun K "has_figures_together" "has_figures_together" s_has_figures_together f fd) (B : Bl mg) (C : Gb K mg) : FnOk P w K mg base CX0 1 f fd ["classes"] (spTogether K) := by
  obtain ⟨t1, gFIGURES⟩ := C.FIGURES
  refine F.ok sc_has_figures_together (fun vs H Q E h => ?_) (fun cdv A outer s H vs Q E hr h => ?_)
  · obtain ⟨t, ys, rows, rfl, _⟩ := h
    rfl
  · obtain ⟨t, ys, rows, rfl, hT, hR, hne, hin, hr8, h8, hF, k⟩ := h
    obtain ⟨a, m, hK⟩ := kinds_same hF
    refine ⟨_, (pss_cons (ps_setLc (i := 1) (own := [("part", 3)]) (g := gName 3) (tt := tYes) rfl sc_has_figures_together.nd rfl rfl (sw_true rfl rfl rfl (by decide +kernel)) (pi_tup (pv 0)) (blkOk_by (own := [("part", 3)]) (N := ["classes", "kinds", "places", "part", "at", "kind", "sign"]) (sc := defScope s_has_figures_together) (by decide +kernel)) (fun _ _ _ _ _ => (pg_name (i := 3) sc_has_figures_together.nd rfl (Or.inl rfl))) (fun _ _ _ _ _ => pts_nil) (fun _ _ _ _ _ => (pe_lc (own := [("sign", 6)]) (g := gName 6) (tt := tYes) rfl sc_has_figures_together.nd (pi_tupK (K := K) rfl (pv 3)) (blkOk_by (own := [("sign", 6)]) (N := ["classes", "kinds", "places", "part", "at", "kind", "sign"]) (sc := relS _ (defScope s_has_figures_together)) (by decide +kernel)) (fun _ _ _ _ _ => (pg_name (i := 6) sc_has_figures_together.nd rfl (Or.inl rfl))) (fun _ _ _ _ _ => pts_nil) (fun _ _ _ _ _ => (pe_cmpR op_in_sign (pv 6) (pe_glob (v := .str _) (by rfl) gFIGURES ⟨_, rfl⟩) rfl)))))
      (pss_cons (ps_if (pt_val (pe_callB (cr_any rfl) (by rfl) B.any (by decide +kernel) (pa_cons (pe_lc (own := [("kind", 5)]) (g := gName 5) (tt := tYes) rfl sc_has_figures_together.nd (pi_list (pv 1)) (blkOk_by (own := [("kind", 5)]) (N := ["classes", "kinds", "places", "part", "at", "kind", "sign"]) (sc := defScope s_has_figures_together) (by decide +kernel)) (fun _ _ _ _ _ => (pg_name (i := 5) sc_has_figures_together.nd rfl (Or.inl rfl))) (fun _ _ _ _ _ => pts_nil) (fun _ _ _ _ _ => (pe_and (pe_callB (cr_anyK (K := K) rfl rfl) (by rfl) B.any (by decide +kernel) (pa_cons (pv 5) pa_nil)) (pe_one (pe_not (pe_callB (cr_allK (K := K) rfl rfl) (by rfl) B.all (by decide +kernel) (pa_cons (pv 5) pa_nil))))))) pa_nil)))
        (pss_one (ps_ret pe_bl))
        pss_nil)
      (pss_cons (ps_setLc (i := 2) (own := [("at", 4), ("kind", 5)]) rfl sc_has_figures_together.nd rfl rfl (sw_true rfl rfl rfl (by decide +kernel)) (pi_enum (by rfl) B.enumerate (pa_cons (pv 1) pa_nil)) (blkOk_by (own := [("at", 4), ("kind", 5)]) (N := ["classes", "kinds", "places", "part", "at", "kind", "sign"]) (sc := defScope s_has_figures_together) (by decide +kernel)) (fun _ _ _ _ _ => (pg_tupK (K := K) (n := 2) rfl rfl (pgs_cons (pg_name (i := 4) sc_has_figures_together.nd rfl (Or.inl rfl)) (pgs_cons (pg_name (i := 5) sc_has_figures_together.nd rfl (Or.inl rfl)) pgs_nil)))) (fun _ _ _ _ _ => (pts_one (pt_val (pe_ix (ix_listK (K := K) rfl) (pv 5) pe_int (fun _ _ => rfl))))) (fun _ _ _ _ _ => (pv 4)))
      (pss_one (ps_ret (pe_or (pe_notT (pv 2)) (pe_one (pe_cmpR op_eq (pe_op op_sub (pe_ix ix_list (pv 2) (pe_un un_neg pe_int) (fun _ _ => rfl)) (pe_ix ix_list (pv 2) pe_int (fun _ _ => rfl))) (pe_op op_sub (pe_callB call_len_seq (by rfl) B.len (by decide +kernel) (pa_cons (pv 2) pa_nil)) pe_int) (nomark _))))))))), ?_⟩
    -- kinds: at each place a list of one word
    refine ⟨_, rfl, t, rfl, ⟨_, hT⟩, fun D hD => lc_mapT (fun H j y => ∃ (l : Addr) (n : Nat), y = V.ref l ∧ 0 < n ∧ n < 1000 ∧ SqL K H l ((List.replicate n (decide (a ≤ j) && decide (j < a + m))).map V.bl)) (fun _ _ _ _ s ⟨l, n, e1, e2, e3, q⟩ => ⟨l, n, e1, e2, e3, Same.seq s q⟩) (Same.refl H) hD hT (by rw [hR.1]; exact Nat.lt_of_le_of_lt h8 (by decide)) (fun j x H2 G2 Q2 hj s12 g12 g2 k2 => ?_) (gname_mono 3) fun H3 zs s13 hz hl rl => ?_⟩
    · obtain ⟨r, hrj⟩ : ∃ r, rows[j]? = some r := ⟨_, List.getElem?_eq_getElem (by have := (List.getElem?_eq_some_iff.mp hj).1; have := hR.1; omega)⟩
      obtain ⟨t2, zr, rfl, hq, hp, _⟩ := hR.2 j x r hj hrj
      have hrm := List.mem_of_getElem? hrj
      have zl : zr.length = r.length := hp.length_eq
      have r8 : zr.length < 1000 := by
        have := hr8 r hrm
        omega
      have zs1 : ∀ s ∈ zr, s ∈ SG := fun s hs => hin r hrm s (hp.subset hs)
      refine ⟨rfl, _, rfl, t2, rfl, ⟨_, Kb.Same.seqT s12 hq⟩, fun D2 hD2 => lc_mapT (fun _ i y => ∃ z, zr[i]? = some z ∧ y = V.bl (isFig z)) (fun _ _ _ _ _ h => h) (Same.refl H2) hD2 (Kb.Same.seqT s12 hq) (by rw [List.length_map]; exact Nat.lt_of_lt_of_le r8 (by decide)) (fun j2 x2 H4 G4 Q4 hj2 s24 g24 g4 k4 => ?_) (gname_mono 6) fun H5 ws s25 hw hl2 rl2 => ?_⟩
      · obtain ⟨z, hz2, rfl⟩ : ∃ z, zr[j2]? = some z ∧ x2 = V.str z := by
          rw [List.getElem?_map] at hj2
          cases e : zr[j2]? with
          | none =>
            rw [e] at hj2
            cases hj2
          | some z =>
            rw [e] at hj2
            exact ⟨z, rfl, (Option.some.inj hj2).symm⟩
        obtain ⟨c, ec, hc⟩ := fig_one z (zs1 z (List.mem_of_getElem? hz2))
        refine ⟨rfl, _, rfl, c, _, by rw [ec], rfl, ?_⟩
        rw [hc]
        exact k4 _ _ (Same.refl _) ⟨z, hz2, rfl⟩
      · have e := rel_map (f := fun z => V.bl (isFig z)) (by rw [hl2, List.length_map]) rl2
        have e2 : ws = (List.replicate zr.length (decide (a ≤ j) && decide (j < a + m))).map V.bl := by
          rw [e, show (fun z => V.bl (isFig z)) = V.bl ∘ isFig from rfl, ← List.map_map]
          congr 1
          refine List.eq_replicate_iff.mpr ⟨by simp, fun b hb => ?_⟩
          obtain ⟨s, hs, rfl⟩ := List.mem_map.mp hb
          exact hK j r hrj s (hp.subset hs)
        refine k2 _ _ s25 ⟨D2, zr.length, rfl, ?_, r8, .of (grow_new hD2 (by rw [← e2]; exact hw))⟩
        rw [zl]
        have := hne r hrm
        cases r with
        | nil => exact absurd rfl this
        | cons => simp
    · have hzl : zs.length = rows.length := by rw [hl, hR.1]
      have hI : ∀ (j : Nat) (y : V), zs[j]? = some y → ∃ (l : Addr) (n : Nat), y = V.ref l ∧ 0 < n ∧ n < 1000 ∧ SqL K H3 l ((List.replicate n (decide (a ≤ j) && decide (j < a + m))).map V.bl) := fun j y e => by
        obtain ⟨l, n, e1, e2, e3, q⟩ := rl j y e
        exact ⟨l, n, e1, e2, e3, Same.seq (grow_part (Same.refl H) hD s13) q⟩
      refine ⟨_, rfl, D, rfl, ⟨_, .of hz⟩, fun D2 hD2 => lc_mapL (okB false) (fun _ _ _ _ _ h => h) (Same.refl H3) hD2 (.of hz) (by rw [hzl]; exact Nat.lt_of_le_of_lt h8 (by decide)) (fun j x H4 G2 Q2 hj s34 g12 g2 k2 => ?_) (gname_mono 5) fun H5 ws s35 hw hl2 rl2 => ?_⟩
      · obtain ⟨l, n, rfl, n0, _, hq⟩ := hI j x hj
        have n1 : (List.replicate n (decide (a ≤ j) && decide (j < a + m))).any id = (decide (a ≤ j) && decide (j < a + m)) := by
          cases n with
          | zero => omega
          | succ n => exact rep_any
        have n2 : (List.replicate n (decide (a ≤ j) && decide (j < a + m))).all id = (decide (a ≤ j) && decide (j < a + m)) := by
          cases n with
          | zero => omega
          | succ n => exact rep_all
        refine ⟨rfl, _, rfl, l, _, rfl, Same.seq s34 hq, ?_⟩
        rw [n1]
        refine ⟨_, rfl, ?_⟩
        by_cases c : (decide (a ≤ j) && decide (j < a + m)) = true
        · rw [c] at n2 hq ⊢
          refine iteT ?_
          refine ⟨_, rfl, l, _, rfl, Same.seq s34 hq, ?_⟩
          rw [n2]
          exact ⟨_, rfl, k2 _ _ (Same.refl _) rfl⟩
        · rw [Bool.eq_false_iff.mpr c] at n2 hq ⊢
          refine iteF ?_
          exact k2 _ _ (Same.refl _) rfl
      · have e := all_bl rl2
        refine ⟨D2, List.replicate ws.length false, rfl, .of (by rw [← e]; exact hw), ?_⟩
        have hany : (List.replicate ws.length false).any id = false := by simp
        rw [hany]
        refine ⟨_, rfl, iteF ?_⟩
        refine ⟨_, rfl, D, zs, rfl, .of (s35 _ _ hz), fun D3 hD3 => lc_it walk_enum (fun i H => Same H5 H ∧ H D3 = some (.lst ((List.range' a (min i (a + m) - a)).map fun (q : Nat) => V.int (q : Int)))) ⟨Kb.same_upd hD3, by rw [upd_same]; simp⟩ (fun i H _ ⟨s, _⟩ => .of (s _ _ (s35 _ _ hz))) (fun i x H6 H' hi ⟨s, eD⟩ y => ?_) fun H6 ⟨s56, eD6⟩ => ?_⟩
        · obtain ⟨T, x1, x2, rfl, hT6, rfl, e1, e2⟩ := y
          cases e1
          obtain ⟨l, n, rfl, n0, n1000, hq⟩ := hI i x2 e2
          refine ⟨T, _, rfl, .of upd_same, rfl, _, _, rfl, _, _, rfl, rfl, ?_⟩
          have S6 : Same H6 (upd H6 T (.tup [V.int (i : Int), V.ref l])) := Kb.same_upd hT6
          have S36 : Same H3 (upd H6 T (.tup [V.int (i : Int), V.ref l])) := Same.trans s35 (Same.trans s S6)
          have eD' := S6 _ _ eD
          have S56 := Same.trans s S6
          obtain ⟨J, qJ⟩ : ∃ z, z = upd H6 T (.tup [V.int (i : Int), V.ref l]) := ⟨_, rfl⟩
          rw [← qJ] at S36 eD' S56 ⊢
          refine ⟨rfl, ?_⟩
          show tB (tOp (rIxL K) (tVar 5) (tC (V.int 0))) _ J _
          obtain ⟨n', rfl⟩ : ∃ n', n = n' + 1 := ⟨n - 1, by omega⟩
          refine ⟨_, rfl, l, _, _, _, rfl, rfl, Same.seq S36 hq, atI_nat' (by decide) (v := V.bl (decide (a ≤ i) && decide (i < a + m))) (by simp [List.replicate_succ]), ?_⟩
          refine ⟨_, rfl, ?_⟩
          by_cases c : a ≤ i ∧ i < a + m
          · rw [decide_eq_true c.1, decide_eq_true c.2]
            refine iteT ⟨_, rfl, _, eD', ?_, fun b o e => ?_, ?_⟩
            · rw [List.length_map, List.length_range']
              exact Nat.lt_of_le_of_lt (show min i (a + m) - a ≤ 8 by omega) (by decide)
            · rw [upd_ne (ne_of_none e hD3)]
              exact S56 b o e
            · rw [upd_same, show min (i + 1) (a + m) - a = (min i (a + m) - a) + 1 by omega, List.range'_concat, List.map_append]
              have : a + 1 * (min i (a + m) - a) = i := by omega
              rw [this]
              rfl
          · have z : (decide (a ≤ i) && decide (i < a + m)) = false := by
              cases h1 : decide (a ≤ i) with
              | false => rfl
              | true =>
                cases h2 : decide (i < a + m) with
                | false => rfl
                | true => exact absurd ⟨of_decide_eq_true h1, of_decide_eq_true h2⟩ c
            rw [z]
            refine iteF ⟨S56, ?_⟩
            rw [eD', show min (i + 1) (a + m) - a = min i (a + m) - a by omega]
        · generalize min zs.length (a + m) - a = q at eD6
          have S6 : Same H H6 := Same.trans (Same.trans s13 s35) s56
          refine ⟨_, rfl, _, .inl ⟨_, .of eD6, rfl⟩, ?_⟩
          cases q with
          | zero => exact ⟨_, rfl, iteT (k H6 S6)⟩
          | succ q =>
            have e1 : (List.range' a (q + 1)).map (fun (q : Nat) => V.int (q : Int)) = (List.range' a q).map (fun (q : Nat) => V.int (q : Int)) ++ [V.int ((a + q : Nat) : Int)] := by
              rw [List.range'_concat, List.map_append, Nat.one_mul]
              rfl
            have e0 : ((List.range' a (q + 1)).map (fun (q : Nat) => V.int (q : Int)))[0]? = some (V.int (a : Int)) := by
              rw [List.range'_succ]
              rfl
            have el : ((List.range' a (q + 1)).map (fun (q : Nat) => V.int (q : Int))).length = q + 1 := by simp
            have ee : (!((List.range' a (q + 1)).map (fun (q : Nat) => V.int (q : Int))).isEmpty) = true := by
              rw [e1]
              simp
            rw [ee]
            refine ⟨_, rfl, iteF ?_⟩
            have eD7 := eD6
            rw [e1] at eD7
            refine ⟨_, rfl, _, rfl, D3, _, _, _, rfl, rfl, .of eD7, atI_last _ _, _, rfl, D3, _, _, _, rfl, rfl, .of eD6, atI_nat' (by decide) e0, _, _, rfl, rfl, _, rfl, D3, _, rfl, .inl (.of eD6), _, _, rfl, rfl, rfl, ?_⟩
            rw [el]
            have ed : decide (V.int (((a + q : Nat) : Int) - (a : Int)) = V.int (((q + 1 : Nat) : Int) - 1)) = true := decide_eq_true (by congr 1; omega)
            show Q (V.bl (decide (V.int (((a + q : Nat) : Int) - (a : Int)) = V.int (((q + 1 : Nat) : Int) - 1)))) H6
            rw [ed]
            exact k H6 S6
end
end K1
set_option Elab.async false
set_option linter.all false
namespace Kn
open PySem PyProof.Rows
theorem bor (a b : Nat) : Builtin.bitOr (a : Int) (b : Int) = ((a ||| b : Nat) : Int) := by
  unfold Builtin.bitOr
  have h1 : ¬ 0 ≤ Builtin.bitNot (a : Int) := by
    unfold Builtin.bitNot
    omega
  have h2 : ¬ 0 ≤ Builtin.bitNot (b : Int) := by
    unfold Builtin.bitNot
    omega
  rw [bitAnd_nn h1 h2]
  have e1 : Builtin.bitNot (Builtin.bitNot (a : Int)) = a := by
    unfold Builtin.bitNot
    omega
  have e2 : Builtin.bitNot (Builtin.bitNot (b : Int)) = b := by
    unfold Builtin.bitNot
    omega
  rw [e1, e2]
  have e3 : ∀ x : Int, Builtin.bitNot (Builtin.bitNot x) = x := fun x => by
    unfold Builtin.bitNot
    omega
  rw [e3]
  simp
theorem band (a b : Nat) : Builtin.bitAnd (a : Int) (b : Int) = ((a &&& b : Nat) : Int) := by
  rw [bitAnd_pp (by omega) (by omega)]
  simp
theorem bnot (a b : Nat) : Builtin.bitAnd (a : Int) (Builtin.bitNot (b : Int)) = ((a - (a &&& b) : Nat) : Int) := by
  rw [bitAnd_not, band]
  have : a &&& b ≤ a := Nat.and_le_left
  omega
theorem or_and (a b : Nat) : (a ||| b) + (a &&& b) = a + b := by
  have h := bitOr_and (a : Int) (b : Int)
  rw [bor, band] at h
  have : a &&& b ≤ a := Nat.and_le_left
  omega
theorem bit1 (x k : Nat) : Builtin.bitAnd ((x : Int) / 2 ^ k) 1 = ((x / 2 ^ k % 2 : Nat) : Int) := by
  rw [bitAnd_m1]
  simp
/-! ### rows of bits -/
def Row (R : Nat → Prop) (n x : Nat) : Prop := ∀ j, x.testBit j = true → j < n ∧ R j
theorem Row.or {R : Nat → Prop} {n x y : Nat} (a : Row R n x) (b : Row R n y) : Row R n (x ||| y) := fun j h => by
  rw [Nat.testBit_or, Bool.or_eq_true] at h
  rcases h with h | h
  · exact a j h
  · exact b j h
theorem Row.imp {R S : Nat → Prop} {n x : Nat} (a : Row R n x) (h : ∀ j, j < n → R j → S j) : Row S n x := fun j e => ⟨(a j e).1, h j (a j e).1 (a j e).2⟩
theorem Row.lt {R : Nat → Prop} {n x : Nat} (a : Row R n x) : x < 2 ^ n := by
  refine Nat.lt_pow_two_of_testBit x fun i hi => ?_
  cases h : x.testBit i with
  | false => rfl
  | true => exact absurd (a i h).1 (by omega)
theorem Row.one {R : Nat → Prop} {n j : Nat} (hj : j < n) (h : R j) : Row R n (2 ^ j) := fun i e => by
  rw [Nat.testBit_two_pow] at e
  have e : j = i := of_decide_eq_true e
  subst e
  exact ⟨hj, h⟩
theorem Row.zero {R : Nat → Prop} {n : Nat} : Row R n 0 := fun i e => by
  rw [Nat.zero_testBit] at e
  cases e
theorem bit_div (x k : Nat) : x.testBit k = decide (x / 2 ^ k % 2 = 1) := by
  rw [Nat.testBit_eq_decide_div_mod_eq]
/-- x without the bits of y -/
theorem sub_and (x y : Nat) : x - (x &&& y) = x ^^^ (x &&& y) := by
  have h : ∀ i, (x ^^^ (x &&& y)).testBit i = (x.testBit i && !y.testBit i) := fun i => by
    rw [Nat.testBit_xor, Nat.testBit_and]
    cases x.testBit i <;> cases y.testBit i <;> rfl
  have d : (x &&& y) + (x ^^^ (x &&& y)) = x := by
    have dis : (x &&& y) &&& (x ^^^ (x &&& y)) = 0 := Nat.eq_of_testBit_eq fun i => by
      rw [Nat.testBit_and, h, Nat.testBit_and, Nat.zero_testBit]
      cases x.testBit i <;> cases y.testBit i <;> rfl
    have e : (x &&& y) ||| (x ^^^ (x &&& y)) = x := Nat.eq_of_testBit_eq fun i => by
      rw [Nat.testBit_or, h, Nat.testBit_and]
      cases x.testBit i <;> cases y.testBit i <;> rfl
    have s : (x &&& y) + (x ^^^ (x &&& y)) = ((x &&& y) ||| (x ^^^ (x &&& y))) + ((x &&& y) &&& (x ^^^ (x &&& y))) := by
      exact (or_and _ _).symm
    omega
  omega
theorem Row.sub {R : Nat → Prop} {n x y : Nat} (a : Row R n x) : Row (fun j => R j ∧ y.testBit j = false) n (x - (x &&& y)) := fun j h => by
  rw [sub_and, Nat.testBit_xor, Nat.testBit_and] at h
  have hx : x.testBit j = true ∧ y.testBit j = false := by
    revert h
    cases x.testBit j <;> cases y.testBit j <;> simp
  exact ⟨(a j hx.1).1, (a j hx.1).2, hx.2⟩
/-! ### lists of rows -/
def Rows (R : Nat → Nat → Prop) (n : Nat) (ls : List Nat) : Prop := ls.length = n ∧ ∀ (i x : Nat), ls[i]? = some x → Row (R i) n x
theorem Rows.set {R : Nat → Nat → Prop} {n : Nat} {ls : List Nat} {i y : Nat} (a : Rows R n ls) (h : Row (R i) n y) : Rows R n (ls.set i y) := by
  refine ⟨by rw [List.length_set]; exact a.1, fun j x e => ?_⟩
  rw [List.getElem?_set] at e
  by_cases q : i = j
  · subst q
    rw [if_pos rfl] at e
    split at e
    · cases e
      exact h
    · cases e
  · rw [if_neg q] at e
    exact a.2 j x e
def LeL (ls ms : List Nat) : Prop := ls.length = ms.length ∧ ∀ (i x y : Nat), ls[i]? = some x → ms[i]? = some y → x ≤ y
theorem LeL.refl (ls : List Nat) : LeL ls ls := ⟨rfl, fun i x y a b => by rw [a] at b; cases b; exact Nat.le_refl _⟩
theorem LeL.trans {a b c : List Nat} (h : LeL a b) (k : LeL b c) : LeL a c := ⟨h.1.trans k.1, fun i x z e1 e2 => by
  have lt : i < b.length := by rw [← h.1]; exact (List.getElem?_eq_some_iff.mp e1).1
  exact Nat.le_trans (h.2 i x _ e1 (List.getElem?_eq_getElem lt)) (k.2 i _ z (List.getElem?_eq_getElem lt) e2)⟩
theorem LeL.set {a b : List Nat} {i x y : Nat} (h : LeL a b) (e : b[i]? = some x) (l : x ≤ y) : LeL a (b.set i y) := ⟨by rw [List.length_set]; exact h.1, fun j p q e1 e2 => by
  rw [List.getElem?_set] at e2
  by_cases z : i = j
  · subst z
    rw [if_pos rfl] at e2
    split at e2
    · cases e2
      exact Nat.le_trans (h.2 i p x e1 e) l
    · cases e2
  · rw [if_neg z] at e2
    exact h.2 j p q e1 e2⟩
theorem LeL.sum : ∀ {a b : List Nat}, LeL a b → a.sum ≤ b.sum ∧ (a.sum = b.sum → a = b)
  | [], [], _ => ⟨Nat.le_refl _, fun _ => rfl⟩
  | [], _ :: _, h => by simpa using h.1
  | _ :: _, [], h => by simpa using h.1
  | x :: a, y :: b, h => by
    have t : LeL a b := ⟨by simpa using h.1, fun i p q e1 e2 => h.2 (i + 1) p q (by simpa using e1) (by simpa using e2)⟩
    have l : x ≤ y := h.2 0 x y rfl rfl
    obtain ⟨s1, s2⟩ := LeL.sum t
    simp only [List.sum_cons]
    refine ⟨by omega, fun e => ?_⟩
    have e1 : x = y := by omega
    rw [e1, s2 (by omega)]
theorem sum_lt {m : Nat} : ∀ {a : List Nat}, (∀ x ∈ a, x < m) → a.sum ≤ a.length * m
  | [], _ => Nat.zero_le _
  | x :: a, h => by
    have := sum_lt (a := a) fun y hy => h y (.tail _ hy)
    have := h x (.head _)
    simp only [List.sum_cons, List.length_cons, Nat.add_mul]
    omega
theorem Rows.sum {R : Nat → Nat → Prop} {n : Nat} {ls : List Nat} (a : Rows R n ls) : ls.sum ≤ n * 2 ^ n := by
  have := sum_lt (m := 2 ^ n) (a := ls) fun x hx => by
    obtain ⟨i, hi, e⟩ := List.getElem_of_mem hx
    exact (a.2 i x (by rw [List.getElem?_eq_getElem hi, e])).lt
  rw [a.1] at this
  exact this
end Kn
set_option Elab.async false
set_option linter.all false
set_option maxRecDepth 100000
set_option maxHeartbeats 4000000
namespace K1
open PySem PySem.Spec PyProof.Rows L2 Kb Kc Kn
def nv (n : Nat) : V := .int (n : Int)
abbrev LoR (r : Nat → Nat) : Nat → Nat → Prop := fun i j => r i ≤ r j
abbrev BeR (r : Nat → Nat) : Nat → Nat → Prop := fun i j => r i < r j
abbrev s_linked : Stmt := top 22
theorem sc_linked : FnScope ["lows", "belows", "over", "at"] ["lows", "belows"] (defScope s_linked) := ⟨rfl, rfl, rfl, by decide +kernel, rfl, by decide +kernel, by decide +kernel⟩
def spLinked (K : PySem.W.Frag) : Sp := fun vs H Q _ => ∃ (a b : Addr) (n : Nat) (r : Nat → Nat) (ls bs : List Nat), vs = [.ref a, .ref b] ∧ SqL K H a (ls.map nv) ∧ SqL K H b (bs.map nv) ∧ n ≤ 8 ∧ Rows (LoR r) n ls ∧ Rows (BeR r) n bs ∧
  ∀ H' t a' b' ls' bs', Same H H' → H' t = some (.tup [.ref a', .ref b']) → H' a' = some (.lst (ls'.map nv)) → H' b' = some (.lst (bs'.map nv)) → Rows (LoR r) n ls' → Rows (BeR r) n bs' → LeL ls ls' → LeL bs bs' → Q (.ref t) H'
theorem nv_at {ls : List Nat} {i : Nat} {x : Nat} (h : ls[i]? = some x) : atI (ls.map nv) ((i : Nat) : Int) = some (nv x) := atI_nat (by rw [List.getElem?_map, h]; rfl)
theorem nv_set (ls : List Nat) (i x : Nat) : (ls.map nv).set i (nv x) = (ls.set i x).map nv := by rw [List.map_set]
theorem ixN_nat {n i : Nat} (h : i < n) : ixN n (i : Int) = some i := by
  unfold ixN
  rw [if_pos (by omega), if_pos (by omega)]
  simp
theorem bit_test (x k : Nat) : ((((x / 2 ^ k % 2 : Nat) : Int)) != 0) = x.testBit k := by
  rw [bit_div]
  have : x / 2 ^ k % 2 < 2 := Nat.mod_lt _ (by decide)
  by_cases c : x / 2 ^ k % 2 = 1
  · rw [c, decide_eq_true rfl]
    rfl
  · have : x / 2 ^ k % 2 = 0 := by omega
    rw [this]
    rfl
/-- lows[at] >> over & 1 -/
def tBit (K : PySem.W.Frag) (ic ia io : Nat) : TT := fun σ H Q => tOp (rI0 fun i j => V.int (Builtin.bitAnd i j)) (tOp (fun x y H Q => ∃ (i : Int) (k : Nat), x = V.int i ∧ y = V.int (k : Int) ∧ Q (V.int (i / 2 ^ k)) H) (tOp (rIxL K) (tVar ic) (tVar ia)) (tVar io)) (tC (V.int 1)) σ H fun x H' => ∃ k, TruV K x H' k ∧ Q k H'
theorem bit_read {K : PySem.W.Frag} {ic ia io i k x : Nat} {p : Addr} {xs : List Nat} {σ : L2.St} {H : Hp} {Q : Bool → Hp → Prop} (h1 : σ[ic]? = some (some (.ref p))) (h2 : σ[ia]? = some (some (nv i))) (h3 : σ[io]? = some (some (nv k)))
    (hp : SqL K H p (xs.map nv)) (hx : xs[i]? = some x) (h : Q (x.testBit k) H) : tBit K ic ia io σ H Q := by
  refine ⟨_, h1, _, h2, p, _, _, _, rfl, rfl, hp, nv_at hx, _, h3, _, _, rfl, rfl, _, _, rfl, rfl, _, rfl, ?_⟩
  rw [bit1, bit_test]
  exact h
def tOrAsg (K : PySem.W.Frag) (iq ia iu im : Nat) : TS := tAsg (tOp (rI0 fun i j => V.int (Builtin.bitOr i j)) (tOp (rIxL K) (tVar iq) (tVar ia)) (tOp (rIxL K) (tVar iu) (tVar im))) (gSub (tVar iq) (tVar ia) rSetL)
theorem or_asg {K : PySem.W.Frag} {iq ia iu im i m y z : Nat} {q u : Addr} {qs us : List Nat} {σ : L2.St} {H : Hp} {D : Ends} (h1 : σ[iq]? = some (some (.ref q))) (h2 : σ[ia]? = some (some (nv i))) (h3 : σ[iu]? = some (some (.ref u))) (h4 : σ[im]? = some (some (nv m)))
    (hq : H q = some (.lst (qs.map nv))) (hu : SqL K H u (us.map nv)) (hy : qs[i]? = some y) (hz : us[m]? = some z) (h : D.nx σ (upd H q (.lst ((qs.set i (y ||| z)).map nv)))) : tOrAsg K iq ia iu im D σ H := by
  refine ⟨_, h1, _, h2, q, _, _, _, rfl, rfl, .of hq, nv_at hy, _, h3, _, h4, u, _, _, _, rfl, rfl, hu, nv_at hz, _, _, rfl, rfl, ?_⟩
  show gSub (tVar iq) (tVar ia) rSetL (V.int (Builtin.bitOr (y : Int) (z : Int))) σ H D.nx
  rw [bor]
  refine ⟨_, h1, _, h2, q, _, _, i, rfl, rfl, hq, ixN_nat (by rw [List.length_map]; exact (List.getElem?_eq_some_iff.mp hy).1), ?_⟩
  show D.nx σ (upd H q (.lst ((qs.map nv).set i (nv (y ||| z)))))
  rw [nv_set]
  exact h
theorem or_if {K : PySem.W.Frag} {ic io iq ia iu im i k x m y z : Nat} {p q u : Addr} {xs qs us : List Nat} {σ : L2.St} {H : Hp} {D : Ends} (h0 : σ[ic]? = some (some (.ref p))) (ho : σ[io]? = some (some (nv k)))
    (h1 : σ[iq]? = some (some (.ref q))) (h2 : σ[ia]? = some (some (nv i))) (h3 : σ[iu]? = some (some (.ref u))) (h4 : σ[im]? = some (some (nv m)))
    (hp : SqL K H p (xs.map nv)) (hx : xs[i]? = some x) (hq : H q = some (.lst (qs.map nv))) (hu : SqL K H u (us.map nv)) (hy : qs[i]? = some y) (hz : us[m]? = some z)
    (t : x.testBit k = true → D.nx σ (upd H q (.lst ((qs.set i (y ||| z)).map nv)))) (e : D.nx σ H) : tIfS (tBit K ic ia io) (tOrAsg K iq ia iu im) tNext D σ H := by
  refine bit_read h0 h2 ho hp hx ?_
  cases c : x.testBit k with
  | true => exact iteT (or_asg h1 h2 h3 h4 hq hu hy hz (t c))
  | false => exact iteF e
section
variable {P : Program} {w : World} {K : PySem.W.Frag} {mg : Str → Option Value} {base : Heap}
theorem ok_linked {f : Addr} {fd : FuncData} (F : Fun K "linked" "linked" s_linked f fd) (B : Bl mg) : FnOk P w K mg base CX0 1 f fd ["lows", "belows"] (spLinked K) := by
  refine F.ok sc_linked (fun vs H Q E h => ?_) (fun cdv A outer s H vs Q E hr h => ?_)
  · obtain ⟨a, b, n, r, ls, bs, rfl, _⟩ := h
    rfl
  · obtain ⟨a, b, n, r, ls, bs, rfl, hA, hB, n8, hL, hBe, k⟩ := h
    refine ⟨_, (pss_cons (ps_set (i := 0) sc_linked.nd rfl (Or.inl rfl) (pe_callTy call_list_of (by rfl) B.list (by decide +kernel) (pa_cons (pv 0) pa_nil)))
      (pss_cons (ps_set (i := 1) sc_linked.nd rfl (Or.inl rfl) (pe_callTy call_list_of (by rfl) B.list (by decide +kernel) (pa_cons (pv 1) pa_nil)))
      (pss_cons (ps_for PassesOwn.never rfl (pi_range1 rfl B.range (pa_cons (pe_callB call_len_seq (by rfl) B.len (by decide +kernel) (pa_cons (pv 0) pa_nil)) pa_nil)) (pg_name (i := 2) sc_linked.nd rfl (Or.inl rfl))
        (pss_one (ps_for PassesOwn.never rfl (pi_range1 rfl B.range (pa_cons (pe_callB call_len_seq (by rfl) B.len (by decide +kernel) (pa_cons (pv 0) pa_nil)) pa_nil)) (pg_name (i := 3) sc_linked.nd rfl (Or.inl rfl))
        (pss_cons (ps_if (pt_truth (pe_op op_and (pe_op op_shrN (pe_ix ix_list (pv 0) (pv 3) (fun _ _ => rfl)) (pv 2)) pe_int) (by intro _; rfl))
        (pss_one (ps_asg (pe_op op_or (pe_ix ix_list (pv 1) (pv 3) (fun _ _ => rfl)) (pe_ix ix_list (pv 1) (pv 2) (fun _ _ => rfl))) (pg_sub (pv 1) (pv 3) set_list)))
        pss_nil)
      (pss_cons (ps_if (pt_truth (pe_op op_and (pe_op op_shrN (pe_ix ix_list (pv 1) (pv 3) (fun _ _ => rfl)) (pv 2)) pe_int) (by intro _; rfl))
        (pss_one (ps_asg (pe_op op_or (pe_ix ix_list (pv 1) (pv 3) (fun _ _ => rfl)) (pe_ix ix_list (pv 0) (pv 2) (fun _ _ => rfl))) (pg_sub (pv 1) (pv 3) set_list)))
        pss_nil)
      (pss_cons (ps_if (pt_truth (pe_op op_and (pe_op op_shrN (pe_ix ix_list (pv 0) (pv 3) (fun _ _ => rfl)) (pv 2)) pe_int) (by intro _; rfl))
        (pss_one (ps_asg (pe_op op_or (pe_ix ix_list (pv 0) (pv 3) (fun _ _ => rfl)) (pe_ix ix_list (pv 0) (pv 2) (fun _ _ => rfl))) (pg_sub (pv 0) (pv 3) set_list)))
        pss_nil)
      (pss_one (ps_asg (pe_op op_or (pe_ix ix_list (pv 0) (pv 3) (fun _ _ => rfl)) (pe_ix ix_list (pv 1) (pv 3) (fun _ _ => rfl))) (pg_sub (pv 0) (pv 3) set_list)))))))))
      (pss_one (ps_ret (pe_tup (pa_cons (pv 0) (pa_cons (pv 1) pa_nil)))))))), ?_⟩
    refine ⟨_, rfl, a, _, rfl, .inl hA, fun la hla => ?_⟩
    refine ⟨_, rfl, b, _, rfl, .inl (Same.seq (Kb.same_upd hla) hB), fun lb hlb => ?_⟩
    have ea : (upd (upd H la (.lst (ls.map nv))) lb (.lst (bs.map nv))) la = some (.lst (ls.map nv)) := Kb.same_upd hlb _ _ upd_same
    have eb : (upd (upd H la (.lst (ls.map nv))) lb (.lst (bs.map nv))) lb = some (.lst (bs.map nv)) := upd_same
    have S0 : Same H (upd (upd H la (.lst (ls.map nv))) lb (.lst (bs.map nv))) := Same.trans (Kb.same_upd hla) (Kb.same_upd hlb)
    have nb : H lb = none := (Kb.same_upd hla).free hlb
    have nab : la ≠ lb := fun z => by
      rw [← z, upd_same] at hlb
      cases hlb
    obtain ⟨J, qJ⟩ : ∃ z, z = (upd (upd H la (.lst (ls.map nv))) lb (.lst (bs.map nv))) := ⟨_, rfl⟩
    rw [← qJ] at ea eb S0 ⊢
    -- the state at each place
    let St : L2.St → Hp → Prop := fun σ H1 => ∃ (ls' bs' : List Nat) (v1 v2 : Option V), σ = [some (.ref la), some (.ref lb), v1, v2] ∧ Same H H1 ∧ H1 la = some (.lst (ls'.map nv)) ∧ H1 lb = some (.lst (bs'.map nv)) ∧ Rows (LoR r) n ls' ∧ Rows (BeR r) n bs' ∧ LeL ls ls' ∧ LeL bs bs'
    refine ⟨_, rfl, la, _, rfl, .inl (.of ea), _, rfl, by omega, ?_, ?_⟩
    · rw [List.length_map, hL.1]
      omega
    rw [List.length_map, hL.1, Int.toNat_natCast]
    refine for_range (n := n) (fun _ => St) ⟨ls, bs, none, none, rfl, S0, ea, eb, hL, hBe, .refl _, .refl _⟩ (fun ov σ H1 hov ⟨ls1, bs1, v1, v2, e, s1, a1, b1, L1, B1, le1, le2⟩ => ?_) fun σ H1 ⟨ls1, bs1, v1, v2, e, s1, a1, b1, L1, B1, le1, le2⟩ => ?_
    · subst e
      rw [Int.zero_add]
      refine ⟨_, rfl, la, _, rfl, .inl (.of a1), _, rfl, by omega, ?_, ?_⟩
      · rw [List.length_map, L1.1]
        omega
      rw [List.length_map, L1.1, Int.toNat_natCast]
      refine for_range (n := n) (fun _ σ' H' => St σ' H' ∧ σ'[2]? = some (some (nv ov))) ⟨⟨ls1, bs1, some (nv ov), v2, rfl, s1, a1, b1, L1, B1, le1, le2⟩, rfl⟩ (fun at_ σ H2 hat ⟨⟨ls2, bs2, v3, v4, e, s2, a2, b2, M2, B2, le3, le4⟩, e2⟩ => ?_) fun σ H2 ⟨st, _⟩ => st
      subst e
      cases e2
      rw [Int.zero_add]
      have S2 : ∀ {H3 : Hp} {q : Addr} {o : HO}, Same H H3 → H q = none → Same H (upd H3 q o) := fun s n b o e => by
        rw [upd_ne (ne_of_none e n)]
        exact s b o e
      have hx : ∀ {l : List Nat} {R : Nat → Nat → Prop} {i : Nat}, Rows R n l → i < n → ∃ x, l[i]? = some x := fun h hi => ⟨_, List.getElem?_eq_getElem (by rw [h.1]; exact hi)⟩
      obtain ⟨x1, e1⟩ := hx M2 hat
      obtain ⟨y1, g1⟩ := hx B2 hat
      obtain ⟨z1, f1⟩ := hx B2 hov
      -- the four steps: G by the lists
      let G : Hp → Prop := fun H3 => ∃ (ls' bs' : List Nat), Same H H3 ∧ H3 la = some (.lst (ls'.map nv)) ∧ H3 lb = some (.lst (bs'.map nv)) ∧ Rows (LoR r) n ls' ∧ Rows (BeR r) n bs' ∧ LeL ls ls' ∧ LeL bs bs'
      have G0 : G H2 := ⟨ls2, bs2, s2, a2, b2, M2, B2, le3, le4⟩
      let σ1 : L2.St := [some (.ref la), some (.ref lb), some (nv ov), some (nv at_)]
      have step : ∀ {D : Ends} {H3 : Hp}, G H3 → (∀ H4, G H4 → D.nx σ1 H4) → tIfS (tBit K 0 3 2) (tOrAsg K 1 3 1 2) tNext D σ1 H3 := fun {D H3} ⟨l, b, s, ha, hb, hl, hb2, k1, k2⟩ kk => by
        obtain ⟨x, ex⟩ := hx hl hat
        obtain ⟨y, ey⟩ := hx hb2 hat
        obtain ⟨z, ez⟩ := hx hb2 hov
        refine or_if rfl rfl rfl rfl rfl rfl (.of ha) ex hb (.of hb) ey ez (fun c => kk _ ⟨l, _, S2 s nb, by rw [upd_ne nab]; exact ha, upd_same, hl, hb2.set ?_, k1, k2.set ey Nat.left_le_or⟩) (kk _ ⟨l, b, s, ha, hb, hl, hb2, k1, k2⟩)
        have h1 := (hl.2 at_ x ex ov c).2
        exact (hb2.2 at_ y ey).or ((hb2.2 ov z ez).imp fun j _ h => Nat.lt_of_le_of_lt h1 h)
      have step2 : ∀ {D : Ends} {H3 : Hp}, G H3 → (∀ H4, G H4 → D.nx σ1 H4) → tIfS (tBit K 1 3 2) (tOrAsg K 1 3 0 2) tNext D σ1 H3 := fun {D H3} ⟨l, b, s, ha, hb, hl, hb2, k1, k2⟩ kk => by
        obtain ⟨x, ex⟩ := hx hb2 hat
        obtain ⟨z, ez⟩ := hx hl hov
        refine or_if rfl rfl rfl rfl rfl rfl (.of hb) ex hb (.of ha) ex ez (fun c => kk _ ⟨l, _, S2 s nb, by rw [upd_ne nab]; exact ha, upd_same, hl, hb2.set ?_, k1, k2.set ex Nat.left_le_or⟩) (kk _ ⟨l, b, s, ha, hb, hl, hb2, k1, k2⟩)
        have h1 := (hb2.2 at_ x ex ov c).2
        exact (hb2.2 at_ x ex).or ((hl.2 ov z ez).imp fun j _ h => Nat.lt_of_lt_of_le h1 h)
      have step3 : ∀ {D : Ends} {H3 : Hp}, G H3 → (∀ H4, G H4 → D.nx σ1 H4) → tIfS (tBit K 0 3 2) (tOrAsg K 0 3 0 2) tNext D σ1 H3 := fun {D H3} ⟨l, b, s, ha, hb, hl, hb2, k1, k2⟩ kk => by
        obtain ⟨x, ex⟩ := hx hl hat
        obtain ⟨z, ez⟩ := hx hl hov
        refine or_if rfl rfl rfl rfl rfl rfl (.of ha) ex ha (.of ha) ex ez (fun c => kk _ ⟨_, b, S2 s hla, upd_same, by rw [upd_ne (Ne.symm nab)]; exact hb, hl.set ?_, hb2, k1.set ex Nat.left_le_or, k2⟩) (kk _ ⟨l, b, s, ha, hb, hl, hb2, k1, k2⟩)
        have h1 := (hl.2 at_ x ex ov c).2
        exact (hl.2 at_ x ex).or ((hl.2 ov z ez).imp fun j _ h => Nat.le_trans h1 h)
      have step4 : ∀ {D : Ends} {H3 : Hp}, G H3 → (∀ H4, G H4 → D.nx σ1 H4) → tOrAsg K 0 3 1 3 D σ1 H3 := fun {D H3} ⟨l, b, s, ha, hb, hl, hb2, k1, k2⟩ kk => by
        obtain ⟨x, ex⟩ := hx hl hat
        obtain ⟨y, ey⟩ := hx hb2 hat
        refine or_asg rfl rfl rfl rfl ha (.of hb) ex ey (kk _ ⟨_, b, S2 s hla, upd_same, by rw [upd_ne (Ne.symm nab)]; exact hb, hl.set ?_, hb2, k1.set ex Nat.left_le_or, k2⟩)
        exact (hl.2 at_ x ex).or ((hb2.2 at_ y ey).imp fun j _ h => Nat.le_of_lt h)
      refine step G0 fun H3 G3 => ?_
      refine step2 G3 fun H4 G4 => ?_
      refine step3 G4 fun H5 G5 => ?_
      refine step4 G5 fun H6 ⟨l, b, s, ha, hb, hl, hb2, k1, k2⟩ => ?_
      exact ⟨⟨l, b, _, _, rfl, s, ha, hb, hl, hb2, k1, k2⟩, rfl⟩
    · subst e
      refine ⟨_, rfl, _, rfl, (by show 2 ≤ sizeLine; decide), fun t ht => ?_⟩
      have S3 := Kb.same_upd (o := .tup [.ref la, .ref lb]) ht
      exact k _ t la lb ls1 bs1 (Same.trans s1 S3) upd_same (S3 _ _ a1) (S3 _ _ b1) L1 B1 le1 le2
end
end K1
set_option Elab.async false
set_option linter.all false
set_option maxRecDepth 100000
set_option maxHeartbeats 4000000
namespace K1
open PySem PySem.Spec PyProof.Rows L2 Kb Kc Kn
abbrev s_parted : Stmt := top 23
theorem sc_parted : FnScope ["lows", "belows", "unlike", "one", "other"] ["lows", "belows", "unlike"] (defScope s_parted) := ⟨rfl, rfl, rfl, by decide +kernel, rfl, by decide +kernel, by decide +kernel⟩
abbrev s_beside : Stmt := top 24
theorem sc_beside : FnScope ["lows", "belows", "figures", "above", "at"] ["lows", "belows", "figures"] (defScope s_beside) := ⟨rfl, rfl, rfl, by decide +kernel, rfl, by decide +kernel, by decide +kernel⟩
def PairsAt (K : PySem.W.Frag) (H : Hp) (us : List (Nat × Nat)) (ys : List V) : Prop := ys.length = us.length ∧ ∀ (i : Nat) (y : V) (u : Nat × Nat), ys[i]? = some y → us[i]? = some u → ∃ t : Addr, y = .ref t ∧ SqT K H t [nv u.1, nv u.2]
theorem PairsAt.same {K : PySem.W.Frag} {H H' : Hp} {us : List (Nat × Nat)} {ys : List V} (s : Same H H') (h : PairsAt K H us ys) : PairsAt K H' us ys := ⟨h.1, fun i y u e1 e2 => by
  obtain ⟨t, e, q⟩ := h.2 i y u e1 e2
  exact ⟨t, e, Kb.Same.seqT s q⟩⟩
def spParted (K : PySem.W.Frag) : Sp := fun vs H Q _ => ∃ (a b u : Addr) (n : Nat) (r : Nat → Nat) (ls bs : List Nat) (us : List (Nat × Nat)) (ys : List V), vs = [.ref a, .ref b, .ref u] ∧ SqL K H a (ls.map nv) ∧ SqL K H b (bs.map nv) ∧ SqT K H u ys ∧ PairsAt K H us ys ∧
  (∀ p ∈ us, p.1 < n ∧ p.2 < n ∧ r p.1 ≠ r p.2) ∧ n ≤ 8 ∧ Rows (LoR r) n ls ∧ Rows (BeR r) n bs ∧
  ∀ H' b' bs', Same H H' → H' b' = some (.lst (bs'.map nv)) → Rows (BeR r) n bs' → LeL bs bs' → Q (.ref b') H'
/-- belows[one] = belows[one] | 1 << other -/
def tOneAsg (K : PySem.W.Frag) (iq i1 i2 : Nat) : TS := tAsg (tOp (rI0 fun i j => V.int (Builtin.bitOr i j)) (tOp (rIxL K) (tVar iq) (tVar i1)) (tOp (fun x y H Q => ∃ k : Nat, x = V.int 1 ∧ y = V.int (k : Int) ∧ k ≤ 134217727 ∧ Q (V.int (2 ^ k)) H) (tC (V.int 1)) (tVar i2))) (gSub (tVar iq) (tVar i1) rSetL)
theorem one_asg {K : PySem.W.Frag} {iq i1 i2 i j y : Nat} {q : Addr} {qs : List Nat} {σ : L2.St} {H : Hp} {D : Ends} (h1 : σ[iq]? = some (some (.ref q))) (h2 : σ[i1]? = some (some (nv i))) (h3 : σ[i2]? = some (some (nv j))) (hj : j ≤ 1000)
    (hq : H q = some (.lst (qs.map nv))) (hy : qs[i]? = some y) (h : D.nx σ (upd H q (.lst ((qs.set i (y ||| 2 ^ j)).map nv)))) : tOneAsg K iq i1 i2 D σ H := by
  refine ⟨_, h1, _, h2, q, _, _, _, rfl, rfl, .of hq, nv_at hy, _, h3, j, rfl, rfl, by omega, _, _, rfl, rfl, ?_⟩
  show gSub (tVar iq) (tVar i1) rSetL (V.int (Builtin.bitOr (y : Int) ((2 : Int) ^ j))) σ H D.nx
  have e : ((2 : Int) ^ j) = ((2 ^ j : Nat) : Int) := by simp
  rw [e, bor]
  refine ⟨_, h1, _, h2, q, _, _, i, rfl, rfl, hq, ixN_nat (by rw [List.length_map]; exact (List.getElem?_eq_some_iff.mp hy).1), ?_⟩
  show D.nx σ (upd H q (.lst ((qs.map nv).set i (nv (y ||| 2 ^ j)))))
  rw [nv_set]
  exact h
section
variable {P : Program} {w : World} {K : PySem.W.Frag} {mg : Str → Option Value} {base : Heap}
theorem ok_parted {f : Addr} {fd : FuncData} (F : Fun K "parted" "parted" s_parted f fd) (B : Bl mg) : FnOk P w K mg base CX0 1 f fd ["lows", "belows", "unlike"] (spParted K) := by
  refine F.ok sc_parted (fun vs H Q E h => ?_) (fun cdv A outer s H vs Q E hr h => ?_)
  · obtain ⟨a, b, u, n, r, ls, bs, us, ys, rfl, _⟩ := h
    rfl
  · obtain ⟨a, b, u, n, r, ls, bs, us, ys, rfl, hA, hB, hU, hP, hus, n8, hL, hBe, k⟩ := h
    refine ⟨_, (pss_cons (ps_set (i := 1) sc_parted.nd rfl (Or.inl rfl) (pe_callTy call_list_of (by rfl) B.list (by decide +kernel) (pa_cons (pv 1) pa_nil)))
      (pss_cons (ps_for PassesOwn.never rfl (pi_tup (pv 2)) (pg_tup rfl (pgs_cons (pg_name (i := 3) sc_parted.nd rfl (Or.inl rfl)) (pgs_cons (pg_name (i := 4) sc_parted.nd rfl (Or.inl rfl)) pgs_nil)))
        (pss_cons (ps_if (pt_truth (pe_op op_and (pe_op op_shrN (pe_ix ix_list (pv 0) (pv 3) (fun _ _ => rfl)) (pv 4)) pe_int) (by intro _; rfl))
        (pss_one (ps_asg (pe_op op_or (pe_ix ix_list (pv 1) (pv 3) (fun _ _ => rfl)) (pe_op op_oneShl pe_int (pv 4))) (pg_sub (pv 1) (pv 3) set_list)))
        pss_nil)
      (pss_one (ps_if (pt_truth (pe_op op_and (pe_op op_shrN (pe_ix ix_list (pv 0) (pv 4) (fun _ _ => rfl)) (pv 3)) pe_int) (by intro _; rfl))
        (pss_one (ps_asg (pe_op op_or (pe_ix ix_list (pv 1) (pv 4) (fun _ _ => rfl)) (pe_op op_oneShl pe_int (pv 3))) (pg_sub (pv 1) (pv 4) set_list)))
        pss_nil))))
      (pss_one (ps_ret (pv 1))))), ?_⟩
    refine ⟨_, rfl, b, _, rfl, .inl hB, fun lb hlb => ?_⟩
    have eb : (upd H lb (.lst (bs.map nv))) lb = some (.lst (bs.map nv)) := upd_same
    have S0 : Same H (upd H lb (.lst (bs.map nv))) := Kb.same_upd hlb
    obtain ⟨J, qJ⟩ : ∃ z, z = upd H lb (.lst (bs.map nv)) := ⟨_, rfl⟩
    rw [← qJ] at eb S0 ⊢
    refine ⟨_, rfl, u, rfl, ⟨_, Kb.Same.seqT S0 hU⟩, ?_⟩
    have S2 : ∀ {H3 : Hp} {o : HO}, Same H H3 → Same H (upd H3 lb o) := fun s b o e => by
      rw [upd_ne (ne_of_none e hlb)]
      exact s b o e
    refine for_it (walk_tup (xs := ys)) (fun _ σ H1 => ∃ (bs' : List Nat) (v1 v2 : Option V), σ = [some (.ref a), some (.ref lb), some (.ref u), v1, v2] ∧ Same H H1 ∧ H1 lb = some (.lst (bs'.map nv)) ∧ Rows (BeR r) n bs' ∧ LeL bs bs') ⟨bs, none, none, rfl, S0, eb, hBe, .refl _⟩ (fun i σ H1 _ ⟨_, _, _, _, s, _⟩ => Kb.Same.seqT s hU) (fun i x σ H1 H2 hi ⟨bs1, v1, v2, e, s1, e1, B1, le1⟩ y => ?_) fun σ H1 ⟨bs1, v1, v2, e, s1, e1, B1, le1⟩ => ?_
    · subst e
      obtain ⟨rfl, hx⟩ := y
      have hi' : i < us.length := by rw [← hP.1]; exact hi
      obtain ⟨p, hp⟩ : ∃ p, us[i]? = some p := ⟨_, List.getElem?_eq_getElem hi'⟩
      obtain ⟨t, rfl, hq⟩ := hP.2 i x p hx hp
      obtain ⟨p1, p2, pne⟩ := hus p (List.mem_of_getElem? hp)
      refine ⟨t, _, rfl, Kb.Same.seqT s1 hq, rfl, _, _, rfl, _, _, rfl, rfl, ?_⟩
      let σ1 : L2.St := [some (.ref a), some (.ref lb), some (.ref u), some (nv p.1), some (nv p.2)]
      obtain ⟨x1, f1⟩ : ∃ x, ls[p.1]? = some x := ⟨_, List.getElem?_eq_getElem (by rw [hL.1]; exact p1)⟩
      obtain ⟨x2, f2⟩ : ∃ x, ls[p.2]? = some x := ⟨_, List.getElem?_eq_getElem (by rw [hL.1]; exact p2)⟩
      let G : Hp → Prop := fun H3 => ∃ bs' : List Nat, Same H H3 ∧ H3 lb = some (.lst (bs'.map nv)) ∧ Rows (BeR r) n bs' ∧ LeL bs bs'
      have step : ∀ {D : Ends} {H3 : Hp} {ia io i j xx : Nat}, σ1[ia]? = some (some (nv i)) → σ1[io]? = some (some (nv j)) → i < n → j < n → r i ≠ r j → ls[i]? = some xx → G H3 → (∀ H4, G H4 → D.nx σ1 H4) → tIfS (tBit K 0 ia io) (tOneAsg K 1 ia io) tNext D σ1 H3 := fun {D H3 ia io i j xx} q1 q2 hi hj hne hxx ⟨b', s, hb, hb2, k2⟩ kk => by
        obtain ⟨y, ey⟩ : ∃ y, b'[i]? = some y := ⟨_, List.getElem?_eq_getElem (by rw [hb2.1]; exact hi)⟩
        refine bit_read rfl q1 q2 (Same.seq s hA) hxx ?_
        cases c : xx.testBit j with
        | true =>
          refine iteT (one_asg rfl q1 q2 (by omega) hb ey (kk _ ⟨_, S2 s, upd_same, hb2.set ((hb2.2 i y ey).or (Kn.Row.one hj ?_)), k2.set ey Nat.left_le_or⟩))
          have := (hL.2 i xx hxx j c).2
          show r i < r j
          have : r i ≤ r j := this
          omega
        | false => exact iteF (kk _ ⟨b', s, hb, hb2, k2⟩)
      refine step (ia := 3) (io := 4) rfl rfl p1 p2 pne f1 ⟨bs1, s1, e1, B1, le1⟩ fun H3 G3 => ?_
      refine step (ia := 4) (io := 3) rfl rfl p2 p1 (Ne.symm pne) f2 G3 fun H4 ⟨b', s, hb, hb2, k2⟩ => ?_
      exact ⟨b', _, _, rfl, s, hb, hb2, k2⟩
    · subst e
      exact ⟨_, rfl, k H1 lb bs1 s1 e1 B1 le1⟩
end
end K1
set_option Elab.async false
set_option linter.all false
set_option maxRecDepth 100000
set_option maxHeartbeats 4000000
namespace K1
open PySem PySem.Spec PyProof.Rows L2 Kb Kc Kn
/-- figures stand side by side: no other sign lies among them -/
def Side (n fg : Nat) (r : Nat → Nat) : Prop := (∀ j, fg.testBit j = true → j < n) ∧ ∀ s, s < n → fg.testBit s = false → (∀ f, fg.testBit f = true → r s < r f) ∨ (∀ f, fg.testBit f = true → r f < r s)
def spBeside (K : PySem.W.Frag) : Sp := fun vs H Q _ => ∃ (a b : Addr) (n fg : Nat) (r : Nat → Nat) (ls bs : List Nat), vs = [.ref a, .ref b, nv fg] ∧ SqL K H a (ls.map nv) ∧ SqL K H b (bs.map nv) ∧ Side n fg r ∧ n ≤ 8 ∧ Rows (LoR r) n ls ∧ Rows (BeR r) n bs ∧
  ∀ H' b' bs', Same H H' → H' b' = some (.lst (bs'.map nv)) → Rows (BeR r) n bs' → LeL bs bs' → Q (.ref b') H'
/-- figures >> at & 1 -/
def tBitV (K : PySem.W.Frag) (iv ia : Nat) : TT := fun σ H Q => tOp (rI0 fun i j => V.int (Builtin.bitAnd i j)) (tOp (fun x y H Q => ∃ (i : Int) (k : Nat), x = V.int i ∧ y = V.int (k : Int) ∧ Q (V.int (i / 2 ^ k)) H) (tVar iv) (tVar ia)) (tC (V.int 1)) σ H fun x H' => ∃ k, TruV K x H' k ∧ Q k H'
theorem bitv_read {K : PySem.W.Frag} {iv ia k x : Nat} {σ : L2.St} {H : Hp} {Q : Bool → Hp → Prop} (h1 : σ[iv]? = some (some (nv x))) (h2 : σ[ia]? = some (some (nv k))) (h : Q (x.testBit k) H) : tBitV K iv ia σ H Q := by
  refine ⟨_, h1, _, h2, _, _, rfl, rfl, _, _, rfl, rfl, _, rfl, ?_⟩
  rw [bit1, bit_test]
  exact h
theorem and_ne {x y : Nat} (h : (((x &&& y : Nat) : Int) != 0) = true) : ∃ j, x.testBit j = true ∧ y.testBit j = true := by
  have h0 : x &&& y ≠ 0 := fun e => by
    rw [e] at h
    exact absurd h (by decide)
  obtain ⟨j, hj⟩ := Nat.exists_testBit_of_ne_zero h0
  rw [Nat.testBit_and, Bool.and_eq_true] at hj
  exact ⟨j, hj⟩
abbrev s_figure_bits : Stmt := top 21
theorem sc_figure_bits : FnScope ["signs", "at", "sign"] ["signs"] (defScope s_figure_bits) := ⟨rfl, rfl, rfl, by decide +kernel, rfl, by decide +kernel, by decide +kernel⟩
def figs (sg : List Str) : Nat → Nat
  | 0 => 0
  | n + 1 => figs sg n + (if isFig (sg.getD n "") = true then 2 ^ n else 0)
theorem figs_bits (sg : List Str) : ∀ n, figs sg n < 2 ^ n ∧ ∀ j, (figs sg n).testBit j = (decide (j < n) && isFig (sg.getD j ""))
  | 0 => ⟨Nat.one_pos, fun j => by simp [figs]⟩
  | n + 1 => by
    obtain ⟨h1, h2⟩ := figs_bits sg n
    unfold figs
    by_cases c : isFig (sg.getD n "") = true
    · rw [if_pos c]
      refine ⟨by rw [Nat.pow_succ]; omega, fun j => ?_⟩
      rw [Nat.add_comm]
      rcases Nat.lt_trichotomy j n with l | e | l
      · rw [Nat.testBit_two_pow_add_gt l, h2 j, decide_eq_true l, decide_eq_true (Nat.lt_succ_of_lt l)]
      · subst e
        rw [Nat.testBit_two_pow_add_eq, h2 j, decide_eq_false (Nat.lt_irrefl j), decide_eq_true (Nat.lt_succ_self j), c]
        rfl
      · rw [decide_eq_false (by omega), Bool.false_and]
        refine Nat.testBit_lt_two_pow ?_
        have : 2 ^ (n + 1) ≤ 2 ^ j := Nat.pow_le_pow_right (by decide) l
        rw [Nat.pow_succ] at this
        omega
    · rw [if_neg c, Nat.add_zero]
      refine ⟨by rw [Nat.pow_succ]; omega, fun j => ?_⟩
      rw [h2 j]
      by_cases e : j = n
      · subst e
        rw [Bool.eq_false_iff.mpr c, Bool.and_false, Bool.and_false]
      · by_cases l : j < n
        · rw [decide_eq_true l, decide_eq_true (by omega : j < n + 1)]
        · rw [decide_eq_false l, decide_eq_false (by omega : ¬ j < n + 1)]
def spFigBits (K : PySem.W.Frag) : Sp := fun vs H Q _ => ∃ (a : Addr) (sg : List Str), vs = [.ref a] ∧ SqT K H a (sg.map V.str) ∧ SgOk sg ∧ ∀ H', Same H H' → Q (nv (figs sg sg.length)) H'
theorem pi_enumTK {X : Cx} {K : PySem.W.Frag} (hK : X.K = K) {e : Expr} {ta : TA} {p pos tpos : Pos} {elts : List Expr} {kk : Nat} (hg : Gl X "enumerate") (hm : X.mg "enumerate" = none) (ha : PA X [e] ta) (hs : starEach [e] X.env = [(false, eval e X.env)] := by rfl) :
    PI X (.Tuple elts kk tpos) (.Call (.Name "enumerate" p) [e] [] pos) (iEnumT K ta) := hK ▸ pi_enumT hg hm ha hs
theorem pi_enumK {X : Cx} {K : PySem.W.Frag} (hK : X.K = K) {e : Expr} {ta : TA} {p pos tpos : Pos} {elts : List Expr} {kk : Nat} (hg : Gl X "enumerate") (hm : X.mg "enumerate" = none) (ha : PA X [e] ta) (hs : starEach [e] X.env = [(false, eval e X.env)] := by rfl) :
    PI X (.Tuple elts kk tpos) (.Call (.Name "enumerate" p) [e] [] pos) (iEnum K ta) := hK ▸ pi_enum hg hm ha hs
section
variable {P : Program} {w : World} {K : PySem.W.Frag} {mg : Str → Option Value} {base : Heap}
theorem ok_figure_bits {f : Addr} {fd : FuncData} (F : Fun K "figure_bits" "figure_bits" s_figure_bits f fd) (B : Bl mg) (C : Gb K mg) : FnOk P w K mg base CX0 1 f fd ["signs"] (spFigBits K) := by
  obtain ⟨t1, gFIGURES⟩ := C.FIGURES
  refine F.ok sc_figure_bits (fun vs H Q E h => ?_) (fun cdv A outer s H vs Q E hr h => ?_)
  · obtain ⟨a, sg, rfl, _⟩ := h
    rfl
  · obtain ⟨a, sg, rfl, hS, hsg, k⟩ := h
    refine ⟨_, (pss_one (ps_ret (pe_callB (cr_sum rfl) (by rfl) B.sum (by decide +kernel) (pa_cons (pe_lc (own := [("at", 1), ("sign", 2)]) rfl sc_figure_bits.nd (pi_enumT (by rfl) B.enumerate (pa_cons (pv 0) pa_nil)) (blkOk_by (own := [("at", 1), ("sign", 2)]) (N := ["signs", "at", "sign"]) (sc := defScope s_figure_bits) (by decide +kernel)) (fun _ _ _ _ _ => (pg_tupK (K := K) (n := 2) rfl rfl (pgs_cons (pg_name (i := 1) sc_figure_bits.nd rfl (Or.inl rfl)) (pgs_cons (pg_name (i := 2) sc_figure_bits.nd rfl (Or.inl rfl)) pgs_nil)))) (fun _ _ _ _ _ => (pts_one (pt_cmpR op_in_sign (pv 2) (pe_glob (v := .str _) (by rfl) gFIGURES ⟨_, rfl⟩) rfl))) (fun _ _ _ _ _ => (pe_op op_oneShl pe_int (pv 1)))) pa_nil)))), ?_⟩
    refine ⟨_, rfl, a, _, rfl, hS, fun D hD => lc_it walk_enumT (fun i H1 => Same H H1 ∧ ∃ ns : List Int, H1 D = some (.lst (ns.map V.int)) ∧ ns.length ≤ i ∧ ns.sum = (figs sg i : Nat)) ⟨Kb.same_upd hD, [], upd_same, Nat.le_refl _, rfl⟩ (fun i H1 _ ⟨s, _⟩ => Kb.Same.seqT s hS) (fun i x H1 H' hi ⟨s, ns, eD, nl, es⟩ y => ?_) fun H1 ⟨s, ns, eD, _, es⟩ => ?_⟩
    · obtain ⟨T, x1, x2, rfl, hT, rfl, e1, e2⟩ := y
      cases e1
      rw [List.length_map] at hi
      obtain ⟨z, hz, rfl⟩ : ∃ z, sg[i]? = some z ∧ x2 = V.str z := by
        replace e2 : (sg.map V.str)[i]? = some x2 := e2
        rw [List.getElem?_map] at e2
        cases e : sg[i]? with
        | none =>
          rw [e] at e2
          cases e2
        | some z =>
          rw [e] at e2
          exact ⟨z, rfl, (Option.some.inj e2).symm⟩
      have eg : sg.getD i "" = z := by rw [List.getD_eq_getElem?_getD, hz]; rfl
      obtain ⟨c, ec, hc⟩ := fig_one z (hsg.2.2.2 z (List.mem_of_getElem? hz))
      refine ⟨T, _, rfl, .of upd_same, rfl, _, _, rfl, _, _, rfl, rfl, ?_⟩
      have S1 : Same H1 (upd H1 T (.tup [V.int (i : Int), V.str z])) := Kb.same_upd hT
      refine ⟨rfl, ?_⟩
      refine ⟨_, rfl, c, _, by rw [ec], rfl, _, rfl, ?_⟩
      rw [hc]
      by_cases cf : isFig z = true
      · rw [cf]
        refine iteT ⟨_, rfl, i, rfl, rfl, ?_, _, S1 _ _ eD, ?_, fun b o e => ?_, ns ++ [((2 : Int) ^ i)], ?_, ?_, ?_⟩
        · have := hsg.2.1
          omega
        · rw [List.length_map]
          have := hsg.2.1
          exact Nat.lt_of_le_of_lt (show ns.length ≤ 8 by omega) (by decide)
        · rw [upd_ne (ne_of_none e hD)]
          exact S1 _ _ (s _ _ e)
        · rw [upd_same, List.map_append]
          rfl
        · rw [List.length_append]
          exact Nat.succ_le_succ nl
        · show (ns ++ [((2 : Int) ^ i)]).sum = ((figs sg i + (if isFig (sg.getD i "") = true then 2 ^ i else 0) : Nat) : Int)
          rw [eg, if_pos cf, List.sum_append, es]
          simp
      · rw [Bool.eq_false_iff.mpr cf]
        refine iteF ⟨Same.trans s S1, ns, S1 _ _ eD, Nat.le_succ_of_le nl, ?_⟩
        show ns.sum = ((figs sg i + (if isFig (sg.getD i "") = true then 2 ^ i else 0) : Nat) : Int)
        rw [eg, if_neg cf, es]
        rfl
    · refine ⟨D, ns, rfl, .of eD, ?_⟩
      rw [es, List.length_map]
      exact k H1 s
theorem ok_beside {f : Addr} {fd : FuncData} (F : Fun K "beside" "beside" s_beside f fd) (B : Bl mg) : FnOk P w K mg base CX0 1 f fd ["lows", "belows", "figures"] (spBeside K) := by
  refine F.ok sc_beside (fun vs H Q E h => ?_) (fun cdv A outer s H vs Q E hr h => ?_)
  · obtain ⟨a, b, n, fg, r, ls, bs, rfl, _⟩ := h
    rfl
  · obtain ⟨a, b, n, fg, r, ls, bs, rfl, hA, hB, ⟨hF1, hF2⟩, n8, hL, hBe, k⟩ := h
    refine ⟨_, (pss_cons (ps_set (i := 1) sc_beside.nd rfl (Or.inl rfl) (pe_callTy call_list_of (by rfl) B.list (by decide +kernel) (pa_cons (pv 1) pa_nil)))
      (pss_cons (ps_set (i := 3) sc_beside.nd rfl (Or.inl rfl) pe_int)
      (pss_cons (ps_for PassesOwn.never rfl (pi_range1 rfl B.range (pa_cons (pe_callB call_len_seq (by rfl) B.len (by decide +kernel) (pa_cons (pv 0) pa_nil)) pa_nil)) (pg_name (i := 4) sc_beside.nd rfl (Or.inl rfl))
        (pss_one (ps_if (pt_truth (pe_op op_and (pe_op op_shrN (pv 2) (pv 4)) pe_int) (by intro _; rfl))
        (pss_one (ps_set (i := 3) sc_beside.nd rfl (Or.inl rfl) (pe_op op_or (pv 3) (pe_op op_and (pe_ix ix_list (pv 0) (pv 4) (fun _ _ => rfl)) (pe_un un_inv (pv 2))))))
        (pss_one (ps_if (pt_truth (pe_op op_and (pe_ix ix_list (pv 0) (pv 4) (fun _ _ => rfl)) (pv 2)) (by intro _; rfl))
        (pss_one (ps_asg (pe_op op_or (pe_ix ix_list (pv 1) (pv 4) (fun _ _ => rfl)) (pv 2)) (pg_sub (pv 1) (pv 4) set_list)))
        pss_nil)))))
      (pss_cons (ps_for PassesOwn.never rfl (pi_range1 rfl B.range (pa_cons (pe_callB call_len_seq (by rfl) B.len (by decide +kernel) (pa_cons (pv 0) pa_nil)) pa_nil)) (pg_name (i := 4) sc_beside.nd rfl (Or.inl rfl))
        (pss_one (ps_if (pt_truth (pe_op op_and (pe_op op_shrN (pv 2) (pv 4)) pe_int) (by intro _; rfl))
        (pss_one (ps_asg (pe_op op_or (pe_ix ix_list (pv 1) (pv 4) (fun _ _ => rfl)) (pv 3)) (pg_sub (pv 1) (pv 4) set_list)))
        pss_nil)))
      (pss_one (ps_ret (pv 1))))))), ?_⟩
    refine ⟨_, rfl, b, _, rfl, .inl hB, fun lb hlb => ?_⟩
    have eb : (upd H lb (.lst (bs.map nv))) lb = some (.lst (bs.map nv)) := upd_same
    have S0 : Same H (upd H lb (.lst (bs.map nv))) := Kb.same_upd hlb
    obtain ⟨J, qJ⟩ : ∃ z, z = upd H lb (.lst (bs.map nv)) := ⟨_, rfl⟩
    rw [← qJ] at eb S0 ⊢
    have S2 : ∀ {H3 : Hp} {o : HO}, Same H H3 → Same H (upd H3 lb o) := fun s b o e => by
      rw [upd_ne (ne_of_none e hlb)]
      exact s b o e
    have hx : ∀ {l : List Nat} {R : Nat → Nat → Prop} {i : Nat}, Rows R n l → i < n → ∃ x, l[i]? = some x := fun h hi => ⟨_, List.getElem?_eq_getElem (by rw [h.1]; exact hi)⟩
    let AR : Nat → Prop := fun j => fg.testBit j = false ∧ ∃ f, fg.testBit f = true ∧ r f ≤ r j
    let G : List Nat → Hp → Prop := fun b' H3 => Same H H3 ∧ H3 lb = some (.lst (b'.map nv)) ∧ Rows (BeR r) n b' ∧ LeL bs b'
    refine ⟨_, rfl, a, _, rfl, .inl (Same.seq S0 hA), _, rfl, by omega, ?_, ?_⟩
    · rw [List.length_map, hL.1]
      omega
    rw [List.length_map, hL.1, Int.toNat_natCast]
    refine for_range (n := n) (fun _ σ H1 => ∃ (b' : List Nat) (ab : Nat) (v : Option V), σ = [some (.ref a), some (.ref lb), some (nv fg), some (nv ab), v] ∧ G b' H1 ∧ Kn.Row AR n ab) ⟨bs, 0, none, rfl, ⟨S0, eb, hBe, .refl _⟩, Kn.Row.zero⟩ (fun i σ H1 hi ⟨b1, ab, v, e, ⟨s1, e1, B1, le1⟩, hab⟩ => ?_) fun σ H1 ⟨b1, ab, v, e, ⟨s1, e1, B1, le1⟩, hab⟩ => ?_
    · subst e
      rw [Int.zero_add]
      obtain ⟨x, ex⟩ := hx hL hi
      obtain ⟨y, ey⟩ := hx B1 hi
      refine bitv_read rfl rfl ?_
      cases c : fg.testBit i with
      | true =>
        refine iteT ?_
        refine ⟨_, rfl, _, rfl, _, rfl, a, _, _, _, rfl, rfl, Same.seq s1 hA, nv_at ex, _, rfl, _, rfl, _, _, rfl, rfl, _, _, rfl, rfl, ?_⟩
        show gName 3 (V.int (Builtin.bitOr (ab : Int) (Builtin.bitAnd (x : Int) (Builtin.bitNot (fg : Int))))) _ H1 _
        rw [bnot, bor]
        refine ⟨b1, _, _, rfl, ⟨s1, e1, B1, le1⟩, hab.or ((Kn.Row.sub (y := fg) (hL.2 i x ex)).imp fun j _ ⟨h1, h2⟩ => ⟨h2, i, c, h1⟩)⟩
      | false =>
        refine iteF ?_
        refine ⟨_, rfl, _, rfl, a, _, _, _, rfl, rfl, Same.seq s1 hA, nv_at ex, _, rfl, _, _, rfl, rfl, _, rfl, ?_⟩
        show if (Builtin.bitAnd (x : Int) (fg : Int) != 0) = true then _ else _
        rw [band]
        refine ite2 (fun t => ?_) (fun t => ?_)
        · obtain ⟨q, hq1, hq2⟩ := and_ne t
          have h1 := (hL.2 i x ex q hq1).2
          have hall : ∀ f, fg.testBit f = true → r i < r f := by
            rcases hF2 i hi c with h | h
            · exact h
            · have h2 := h q hq2
              have h1' : r i ≤ r q := h1
              omega
          refine ⟨_, rfl, _, rfl, lb, _, _, _, rfl, rfl, .of e1, nv_at ey, _, rfl, _, _, rfl, rfl, ?_⟩
          show gSub (tVar 1) (tVar 4) rSetL (V.int (Builtin.bitOr (y : Int) (fg : Int))) _ H1 _
          rw [bor]
          refine ⟨_, rfl, _, rfl, lb, _, _, i, rfl, rfl, e1, ixN_nat (by rw [List.length_map]; exact (List.getElem?_eq_some_iff.mp ey).1), ?_⟩
          refine ⟨b1.set i (y ||| fg), ab, _, rfl, ⟨S2 s1, ?_, B1.set ((B1.2 i y ey).or fun j hj => ⟨hF1 j hj, hall j hj⟩), le1.set ey Nat.left_le_or⟩, hab⟩
          rw [upd_same, ← nv_set]
          rfl
        · exact ⟨b1, ab, _, rfl, ⟨s1, e1, B1, le1⟩, hab⟩
    · subst e
      refine ⟨_, rfl, a, _, rfl, .inl (Same.seq s1 hA), _, rfl, by omega, ?_, ?_⟩
      · rw [List.length_map, hL.1]
        omega
      rw [List.length_map, hL.1, Int.toNat_natCast]
      refine for_range (n := n) (fun _ σ H1 => ∃ (b' : List Nat) (v : Option V), σ = [some (.ref a), some (.ref lb), some (nv fg), some (nv ab), v] ∧ G b' H1) ⟨b1, v, rfl, ⟨s1, e1, B1, le1⟩⟩ (fun i σ H1 hi ⟨b1, v, e, ⟨s1, e1, B1, le1⟩⟩ => ?_) fun σ H1 ⟨b1, v, e, ⟨s1, e1, B1, le1⟩⟩ => ?_
      · subst e
        rw [Int.zero_add]
        obtain ⟨y, ey⟩ := hx B1 hi
        refine bitv_read rfl rfl ?_
        cases c : fg.testBit i with
        | true =>
          refine iteT ?_
          refine ⟨_, rfl, _, rfl, lb, _, _, _, rfl, rfl, .of e1, nv_at ey, _, rfl, _, _, rfl, rfl, ?_⟩
          show gSub (tVar 1) (tVar 4) rSetL (V.int (Builtin.bitOr (y : Int) (ab : Int))) _ H1 _
          rw [bor]
          refine ⟨_, rfl, _, rfl, lb, _, _, i, rfl, rfl, e1, ixN_nat (by rw [List.length_map]; exact (List.getElem?_eq_some_iff.mp ey).1), ?_⟩
          refine ⟨b1.set i (y ||| ab), _, rfl, ⟨S2 s1, ?_, B1.set ((B1.2 i y ey).or (hab.imp fun j hj ⟨h1, q, h2, h3⟩ => ?_)), le1.set ey Nat.left_le_or⟩⟩
          · rw [upd_same, ← nv_set]
            rfl
          · show r i < r j
            rcases hF2 j hj h1 with h | h
            · have := h q h2
              omega
            · exact h i c
        | false => exact iteF ⟨b1, _, rfl, ⟨s1, e1, B1, le1⟩⟩
      · subst e
        exact ⟨_, rfl, k H1 lb b1 s1 e1 B1 le1⟩
end
end K1
set_option Elab.async false
set_option linter.all false
set_option maxRecDepth 100000
set_option maxHeartbeats 4000000
namespace Kc
open PySem PySem.Spec PyProof.Rows L2 Kb
/-! ### any of a list of ints -/
theorem truth_ints {prog : Program} {w : World} {A : Around} {ns : List Int} {its : List Value} (r : Vals (ns.map V.int) its) :
    TruthOf prog w A (fun i v => its.toArray[i]? = some v) (fun i => ns.getD i 0 != 0) := fun i v s Q E hv hq => by
  have hv' : its[i]? = some v := by simpa using hv
  have hl := r.length
  rw [List.length_map] at hl
  have lt : i < ns.length := by
    have := (List.getElem?_eq_some_iff.mp hv').1
    omega
  obtain ⟨u, hu, ru⟩ := r.get (i := i) (x := V.int ns[i]) (by rw [List.getElem?_map, List.getElem?_eq_getElem lt]; rfl)
  rw [hv'] at hu
  cases hu
  obtain ⟨t, rfl⟩ := ru
  have hg : ns.getD i 0 = ns[i] := by rw [List.getD_eq_getElem?_getD, List.getElem?_eq_getElem lt]; rfl
  have hq' : Q (ns.getD i 0 != 0) s := hq
  rw [hg] at hq'
  exact PyProof.Rows.truthy_int hq'
theorem any_rangeI : ∀ ns : List Int, (List.range ns.length).any (fun i => ns.getD i 0 != 0) = ns.any (· != 0)
  | [] => rfl
  | b :: bs => by
    rw [List.length_cons, List.range_succ_eq_map, List.any_cons, List.any_map, List.any_cons, ← any_rangeI bs]
    all_goals rfl
theorem all_rangeI : ∀ ns : List Int, (List.range ns.length).all (fun i => ns.getD i 0 != 0) = ns.all (· != 0)
  | [] => rfl
  | b :: bs => by
    rw [List.length_cons, List.range_succ_eq_map, List.all_cons, List.all_map, List.all_cons, ← all_rangeI bs]
    all_goals rfl
def rAnyI (K : PySem.W.Frag) : List V → Hp → VK → Prop := fun vs H Q => ∃ (a : Addr) (ns : List Int), vs = [V.ref a] ∧ SqL K H a (ns.map V.int) ∧ Q (.bl (ns.any (· != 0))) H
theorem cr_anyI {X : Cx} (hc : X.calm = true) : CallR X (.builtin "any") (rAnyI X.K) := by
  intro pins s σ H vs us Q I r h
  obtain ⟨a, ns, rfl, hs, q⟩ := h
  obtain ⟨its, rv, hl, _⟩ := I.list hs
  rw [Vals.ref1 r]
  refine call_any_walk (iter_any hl.isList fun s₂ e2 st hne => ?_)
  subst e2
  refine ⟨_, _, _, _, _, _, _, rfl, Walks.list (A := X.A.in1) (I.ok.hd hc) _ a hne its.toArray, st, truth_ints rv, fun h' tk hk => ?_⟩
  refine ⟨.bl _, H, I.kept fun b o eo => hk b o (fun hmem => ?_) (Heap.get?_push_of_some _ eo), ?_, q⟩
  · rcases List.mem_cons.mp hmem with e1 | hmem
    · exact absurd (e1 ▸ Heap.lt_size eo) (Nat.lt_irrefl _)
    · cases hmem
  · show Value.bool _ = Value.bool _
    have hl2 := rv.length
    rw [List.length_map] at hl2
    rw [← any_rangeI, List.size_toArray, ← hl2]
end Kc
set_option Elab.async false
set_option linter.all false
set_option maxRecDepth 100000
set_option maxHeartbeats 4000000
namespace K1
open PySem PySem.Spec PyProof.Rows L2 Kb Kc Kn
def dInts (ls : List Nat) : PyData := .list (ls.map fun (n : Nat) => PyData.int (n : Int))
theorem dp_nats {K : PySem.W.Frag} {H : Hp} : ∀ ls : List Nat, DpAll K H (ls.map nv) (ls.map fun (n : Nat) => PyData.int (n : Int))
  | [] => .nil
  | b :: r => .cons (.int _) (dp_nats r)
theorem lay_nats : ∀ ls : List Nat, PyData.canLayAll0 (ls.map fun (n : Nat) => PyData.int (n : Int)) = true
  | [] => rfl
  | b :: r => by simp [PyData.canLayAll0, PyData.canLay0, lay_nats r]
theorem dep_nats : ∀ ls : List Nat, PyData.depthAll (ls.map fun (n : Nat) => PyData.int (n : Int)) = 0
  | [] => rfl
  | b :: r => by simp [PyData.depthAll, PyData.depth, dep_nats r]
theorem eqv_nats : ∀ ls ms : List Nat, PyData.eqvAll (ls.map fun (n : Nat) => PyData.int (n : Int)) (ms.map fun (n : Nat) => PyData.int (n : Int)) = decide (ls = ms)
  | [], [] => rfl
  | [], _ :: _ => rfl
  | _ :: _, [] => rfl
  | a :: r, b :: t => by
    simp only [List.map_cons, PyData.eqvAll, PyData.eqv, eqv_nats r t]
    by_cases e : a = b
    · subst e
      simp
    · have : ¬ (a : Int) = (b : Int) := by omega
      simp [e, this]
theorem shaped_rows (a b : List Nat) : SeqAt.shaped (.tuple [dInts a, dInts b]) = true := by
  simp [dInts, SeqAt.shaped, PyData.canLay0, PyData.canLayAll0, PyData.depth, PyData.depthAll, lay_nats, dep_nats]
theorem eqv_rows (a b c d : List Nat) : PyData.eqv (.tuple [dInts a, dInts b]) (.tuple [dInts c, dInts d]) = decide (a = c ∧ b = d) := by
  simp [dInts, PyData.eqv, PyData.eqvAll, eqv_nats]
abbrev s_closed : Stmt := top 25
theorem sc_closed : FnScope ["lows", "belows", "figures", "unlike", "earlier", "at"] ["lows", "belows", "figures", "unlike"] (defScope s_closed) := ⟨rfl, rfl, rfl, by decide +kernel, rfl, by decide +kernel, by decide +kernel⟩
def spClosed (K : PySem.W.Frag) : Sp := fun vs H Q _ => ∃ (a b u : Addr) (n fg : Nat) (r : Nat → Nat) (ls bs : List Nat) (us : List (Nat × Nat)) (ys : List V), vs = [.ref a, .ref b, nv fg, .ref u] ∧ SqL K H a (ls.map nv) ∧ SqL K H b (bs.map nv) ∧ SqT K H u ys ∧ PairsAt K H us ys ∧
  (∀ p ∈ us, p.1 < n ∧ p.2 < n ∧ r p.1 ≠ r p.2) ∧ (fg ≠ 0 → Side n fg r) ∧ n ≤ 8 ∧ Rows (LoR r) n ls ∧ Rows (BeR r) n bs ∧ ∀ H' t, Same H H' → Q (.ref t) H'
theorem lc_rangeM {lo : Int} {n : Nat} {g : TG} {te : TE} {vs : List Nat} {σ : L2.St} {H1 : Hp} {D : Addr} {Qd : Hp → Prop} (f : Nat → V) (nD : H1 D = none) (hz : n < sizeLine)
    (hs : ∀ i H2 Q, i < n → Same H1 H2 → (∀ H3, Same H2 H3 → Q (f i) H3) → g (.int (lo + i)) (wipe σ vs) H2 fun σ2 H3 => wipe σ2 vs = wipe σ vs ∧ te σ2 H3 Q)
    (gmono : ∀ x σ H P P', g x σ H P → (∀ σ2 H2, P σ2 H2 → P' σ2 H2) → g x σ H P')
    (hd : ∀ H', Same H1 H' → H' D = some (.lst ((List.range n).map f)) → Qd H') :
    ∃ W : Nat → Nat → Hp → Prop, (∃ m, W 0 m (upd H1 D (.lst []))) ∧ ∀ i m H, W i m H → ((Itr lo n).stop i H ∧ Qd H) ∨ ((Itr lo n).go i H ∧ ∃ Nx : Hp → Prop, (∀ H', Nx H' → ∃ m', m' < m ∧ W (i + 1) m' H') ∧ ∀ x H', (Itr lo n).yld i H x H' →
      g x (wipe σ vs) H' fun σ2 H2 => wipe σ2 vs = wipe σ vs ∧ tYes σ2 H2 fun b H3 => if b = true then te σ2 H3 fun y H4 => ∃ acc, H4 D = some (.lst acc) ∧ acc.length < sizeLine ∧ Nx (upd H4 D (.lst (acc ++ [y]))) else Nx H3) := by
  refine lc_range (fun i H => Same H1 H ∧ H D = some (.lst ((List.range i).map f))) ⟨Kb.same_upd nD, upd_same⟩ (fun i H hi ⟨s, eD⟩ => ?_) fun H ⟨s, eD⟩ => hd H s eD
  refine gmono _ _ _ _ _ (hs i H (fun y H4 => ∃ acc, H4 D = some (.lst acc) ∧ acc.length < sizeLine ∧ Same H1 (upd H4 D (.lst (acc ++ [y]))) ∧ upd H4 D (.lst (acc ++ [y])) D = some (.lst ((List.range (i + 1)).map f))) hi s fun H3 s3 => ?_) fun σ2 H3 ⟨e, h⟩ => ⟨e, h⟩
  refine ⟨_, s3 _ _ eD, by rw [List.length_map, List.length_range]; omega, fun b o e => ?_, ?_⟩
  · rw [upd_ne (ne_of_none e nD)]
    exact s3 _ _ (s b o e)
  · rw [upd_same, List.range_succ, List.map_append]
    rfl
section
variable {P : Program} {w : World} {K : PySem.W.Frag} {mg : Str → Option Value} {base : Heap}
theorem ok_closed {f flinked fparted fbeside : Addr} {fd fdlinked fdparted fdbeside : FuncData} (F : Fun K "closed" "closed" s_closed f fd) (B : Bl mg)
    (Flinked : Fun K "linked" "linked" s_linked flinked fdlinked) (blinked : Binds K fdlinked ["lows", "belows"] []) (glinked : mg "linked" = some (.ref flinked))
    (Fparted : Fun K "parted" "parted" s_parted fparted fdparted) (bparted : Binds K fdparted ["lows", "belows", "unlike"] []) (gparted : mg "parted" = some (.ref fparted))
    (Fbeside : Fun K "beside" "beside" s_beside fbeside fdbeside) (bbeside : Binds K fdbeside ["lows", "belows", "figures"] []) (gbeside : mg "beside" = some (.ref fbeside)) :
    FnOk P w K mg base CX0 2 f fd ["lows", "belows", "figures", "unlike"] (spClosed K) := by
  have Glinked : FnOk P w K mg base CX0 1 flinked fdlinked ["lows", "belows"] (spLinked K) := ok_linked Flinked B
  have Gparted : FnOk P w K mg base CX0 1 fparted fdparted ["lows", "belows", "unlike"] (spParted K) := ok_parted Fparted B
  have Gbeside : FnOk P w K mg base CX0 1 fbeside fdbeside ["lows", "belows", "figures"] (spBeside K) := ok_beside Fbeside B
  refine F.ok sc_closed (fun vs H Q E h => ?_) (fun cdv A outer s H vs Q E hr h => ?_)
  · obtain ⟨a, b, u, n, fg, r, ls, bs, us, ys, rfl, _⟩ := h
    rfl
  · obtain ⟨a, b, u, n, fg, r, ls, bs, us, ys, rfl, hA, hB, hU, hP, hus, hSd, n8, hL, hBe, k⟩ := h
    refine ⟨_, (pss_cons (ps_set (i := 4) sc_closed.nd rfl (Or.inl rfl) pe_non)
      (pss_cons (ps_while PassesOwn.never (pt_cmpR (op_neD hr.units) (pv 4) (pe_tup (pa_cons (pv 0) (pa_cons (pv 1) pa_nil))) (nomark _))
        (pss_cons (ps_set (i := 4) sc_closed.nd rfl (Or.inl rfl) (pe_tup (pa_cons (pv 0) (pa_cons (pv 1) pa_nil))))
      (pss_cons (ps_asg (pe_call Glinked hr (by rfl) glinked Flinked.kp blinked .nil pass0 (pa_cons (pv 0) (pa_cons (pv 1) pa_nil))) (pg_tup rfl (pgs_cons (pg_name (i := 0) sc_closed.nd rfl (Or.inl rfl)) (pgs_cons (pg_name (i := 1) sc_closed.nd rfl (Or.inr rfl)) pgs_nil))))
      (pss_cons (ps_set (i := 1) sc_closed.nd rfl (Or.inr rfl) (pe_call Gparted hr (by rfl) gparted Fparted.kp bparted .nil pass0 (pa_cons (pv 0) (pa_cons (pv 1) (pa_cons (pv 3) pa_nil)))))
      (pss_one (ps_if (pt_truth (pv 2) (by intro _; rfl))
        (pss_one (ps_set (i := 1) sc_closed.nd rfl (Or.inr rfl) (pe_call Gbeside hr (by rfl) gbeside Fbeside.kp bbeside .nil pass0 (pa_cons (pv 0) (pa_cons (pv 1) (pa_cons (pv 2) pa_nil))))))
        pss_nil))))))
      (pss_cons (ps_if (pt_val (pe_callB (cr_anyI rfl) (by rfl) B.any (by decide +kernel) (pa_cons (pe_lc (own := [("at", 5)]) (g := gName 5) (tt := tYes) rfl sc_closed.nd (pi_range1 rfl B.range (pa_cons (pe_callB call_len_seq (by rfl) B.len (by decide +kernel) (pa_cons (pv 0) pa_nil)) pa_nil)) (blkOk_by (own := [("at", 5)]) (N := ["lows", "belows", "figures", "unlike", "earlier", "at"]) (sc := defScope s_closed) (by decide +kernel)) (fun _ _ _ _ _ => (pg_name (i := 5) sc_closed.nd rfl (Or.inl rfl))) (fun _ _ _ _ _ => pts_nil) (fun _ _ _ _ _ => (pe_op op_and (pe_op op_shrN (pe_ix (ix_listK (K := K) rfl) (pv 1) (pv 5) (fun _ _ => rfl)) (pv 5)) pe_int))) pa_nil)))
        (pss_one (ps_ret pe_non))
        pss_nil)
      (pss_one (ps_ret (pe_tup (pa_cons (pv 0) (pa_cons (pv 1) pa_nil)))))))), ?_⟩
    refine ⟨fun m σ H1 => ∃ (al ab : Addr) (l b : List Nat) (prev : Option (List Nat × List Nat)) (ev : V) (v5 : Option V), σ = [some (.ref al), some (.ref ab), some (nv fg), some (.ref u), some ev, v5] ∧ Same H H1 ∧ SqL K H1 al (l.map nv) ∧ SqL K H1 ab (b.map nv) ∧ Rows (LoR r) n l ∧ Rows (BeR r) n b ∧
      (match prev with | none => ev = .non | some (pl, pb) => ∃ te pa pc, ev = .ref te ∧ SqT K H1 te [.ref pa, .ref pc] ∧ SqL K H1 pa (pl.map nv) ∧ SqL K H1 pc (pb.map nv)) ∧ m = 2 * (2 * (n * 2 ^ n) - (l.sum + b.sum)) + (if prev = some (l, b) then 0 else 1), ⟨_, a, b, ls, bs, none, .non, none, rfl, Same.refl H, hA, hB, hL, hBe, rfl, rfl⟩, ?_⟩
    rintro m σ H1 ⟨al, ab, l, b1, prev, ev, v5, rfl, s1, hl, hb, L1, B1, hp, rfl⟩
    refine ⟨_, rfl, _, rfl, _, rfl, (by show 2 ≤ sizeLine; decide), fun t ht => ?_⟩
    have S2 : Same H1 (upd H1 t (.tup [.ref al, .ref ab])) := Kb.same_upd ht
    have et : (upd H1 t (.tup [.ref al, .ref ab])) t = some (.tup [.ref al, .ref ab]) := upd_same
    obtain ⟨J, qJ⟩ : ∃ z, z = upd H1 t (.tup [.ref al, .ref ab]) := ⟨_, rfl⟩
    rw [← qJ] at S2 et ⊢
    have hl2 := Same.seq S2 hl
    have hb2 := Same.seq S2 hb
    have dt : Dp K J (.ref t) (.tuple [dInts l, dInts b1]) := .tup (.of et) (.cons (.lst hl2 (dp_nats l)) (.cons (.lst hb2 (dp_nats b1)) .nil))
    have de : ∃ d, Dp K J ev d ∧ SeqAt.shaped d = true ∧ PyData.eqv d (.tuple [dInts l, dInts b1]) = decide (prev = some (l, b1)) := by
      cases prev with
      | none =>
        subst hp
        exact ⟨.none, .non, by decide +kernel, by simp [PyData.eqv]⟩
      | some p =>
        obtain ⟨pl, pb⟩ := p
        obtain ⟨te, pa, pc, rfl, h1, h2, h3⟩ := hp
        refine ⟨.tuple [dInts pl, dInts pb], .tup (Kb.Same.seqT S2 h1) (.cons (.lst (Same.seq S2 h2) (dp_nats pl)) (.cons (.lst (Same.seq S2 h3) (dp_nats pb)) .nil)), shaped_rows _ _, ?_⟩
        rw [eqv_rows]
        simp
    obtain ⟨d, hd1, hd2, hd3⟩ := de
    refine ⟨d, _, hd1, dt, hd2, shaped_rows _ _, ?_⟩
    rw [hd3]
    refine ⟨_, rfl, ?_⟩
    have s2 := Same.trans s1 S2
    by_cases ep : prev = some (l, b1)
    · rw [decide_eq_true ep]
      refine iteF ?_
      refine ⟨_, rfl, al, _, rfl, .inl hl2, _, rfl, by omega, ?_, ?_⟩
      · rw [List.length_map, L1.1]
        omega
      rw [List.length_map, L1.1, Int.toNat_natCast]
      refine fun D hD => lc_rangeM (fun _ => V.int 0) hD (Nat.lt_of_le_of_lt n8 (by decide)) (fun i H2 Q2 hi s2' k2 => ?_) (gname_mono 5) fun H2 s3 eD => ?_
      · rw [Int.zero_add]
        obtain ⟨x, ex⟩ : ∃ x, b1[i]? = some x := ⟨_, List.getElem?_eq_getElem (by rw [B1.1]; exact hi)⟩
        refine ⟨rfl, ?_⟩
        refine ⟨_, rfl, _, rfl, ab, _, _, _, rfl, rfl, Same.seq s2' hb2, nv_at ex, _, rfl, _, _, rfl, rfl, _, _, rfl, rfl, ?_⟩
        have hb0 : x.testBit i = false := by
          cases c : x.testBit i with
          | false => rfl
          | true => exact absurd (B1.2 i x ex i c).2 (Nat.lt_irrefl _)
        have h0 : Builtin.bitAnd ((x : Int) / 2 ^ i) 1 = 0 := by
          rw [bit1]
          rw [bit_div] at hb0
          have h2 := of_decide_eq_false hb0
          have : x / 2 ^ i % 2 < 2 := Nat.mod_lt _ (by decide)
          omega
        show Q2 (V.int (Builtin.bitAnd ((x : Int) / 2 ^ i) 1)) H2
        rw [h0]
        exact k2 _ (Same.refl _)
      · have ez : (List.range n).map (fun _ => V.int 0) = (List.replicate n (0 : Int)).map V.int := by
          simp [List.map_const']
        rw [ez] at eD
        refine ⟨D, List.replicate n 0, rfl, .of eD, ?_⟩
        have hany : (List.replicate n (0 : Int)).any (· != 0) = false := by simp
        rw [hany]
        refine ⟨_, rfl, iteF ?_⟩
        refine ⟨_, rfl, _, rfl, (by show 2 ≤ sizeLine; decide), fun t2 ht2 => ?_⟩
        exact k _ _ (Same.trans (Same.trans s2 s3) (Kb.same_upd ht2))
    · rw [decide_eq_false ep, if_neg ep]
      refine iteT ?_
      refine ⟨fun σ' H' => ∃ (al' ab' te : Addr) (l' b' : List Nat) (v5 : Option V), σ' = [some (.ref al'), some (.ref ab'), some (nv fg), some (.ref u), some (.ref te), v5] ∧ Same J H' ∧ SqT K H' te [.ref al, .ref ab] ∧ SqL K H' al' (l'.map nv) ∧ SqL K H' ab' (b'.map nv) ∧ Rows (LoR r) n l' ∧ Rows (BeR r) n b' ∧ LeL l l' ∧ LeL b1 b', ?_, ?_⟩
      · rintro σ' H' ⟨al', ab', te, l', b', v5', rfl, sJ, ht', hl', hb', L', B', le1, le2⟩
        refine ⟨_, ?_, al', ab', l', b', some (l, b1), .ref te, v5', rfl, Same.trans s2 sJ, hl', hb', L', B', ⟨te, al, ab, rfl, ht', Same.seq sJ hl2, Same.seq sJ hb2⟩, rfl⟩
        have g1 := L'.sum
        have g2 := B'.sum
        obtain ⟨g3, g4⟩ := le1.sum
        obtain ⟨g5, g6⟩ := le2.sum
        by_cases e : some (l, b1) = some (l', b')
        · rw [if_pos e]
          omega
        · rw [if_neg e]
          have : l.sum + b1.sum ≠ l'.sum + b'.sum := fun z => e (by rw [g4 (by omega), g6 (by omega)])
          omega
      refine ⟨_, rfl, _, rfl, (by show 2 ≤ sizeLine; decide), fun t2 ht2 => ?_⟩
      have S3 : Same J (upd J t2 (.tup [.ref al, .ref ab])) := Kb.same_upd ht2
      have et2 : (upd J t2 (.tup [.ref al, .ref ab])) t2 = some (.tup [.ref al, .ref ab]) := upd_same
      obtain ⟨J3, qJ3⟩ : ∃ z, z = upd J t2 (.tup [.ref al, .ref ab]) := ⟨_, rfl⟩
      rw [← qJ3] at S3 et2 ⊢
      refine ⟨_, rfl, _, rfl, al, ab, n, r, l, b1, rfl, Same.seq S3 hl2, Same.seq S3 hb2, n8, L1, B1, fun H4 t4 a4 b4 l4 m4 s34 e4 ea4 eb4 L4 B4 le4 le5 => ?_⟩
      refine ⟨t4, _, rfl, .of e4, rfl, _, _, rfl, _, _, rfl, rfl, ?_⟩
      have S4 := Same.trans S3 s34
      have s4 := Same.trans s2 S4
      refine ⟨_, rfl, _, rfl, _, rfl, a4, b4, u, n, r, l4, m4, us, ys, rfl, .of ea4, .of eb4, Kb.Same.seqT s4 hU, hP.same s4, hus, n8, L4, B4, fun H5 b5 m5 s45 eb5 B5 le6 => ?_⟩
      have S5 := Same.trans S4 s45
      refine ⟨_, rfl, _, rfl, ?_⟩
      by_cases cz : fg = 0
      · have e0 : ((fg : Int) != 0) = false := by
          subst cz
          rfl
        show if ((fg : Int) != 0) = true then _ else _
        rw [e0]
        refine iteF ?_
        exact ⟨a4, b5, t2, l4, m5, _, rfl, S5, .of (s45 _ _ (s34 _ _ et2)), .of (s45 _ _ ea4), .of eb5, L4, B5, le4, le5.trans le6⟩
      · have e0 : ((fg : Int) != 0) = true := by
          simp only [bne_iff_ne, ne_eq]
          omega
        show if ((fg : Int) != 0) = true then _ else _
        rw [e0]
        refine iteT ?_
        refine ⟨_, rfl, _, rfl, _, rfl, a4, b5, n, fg, r, l4, m5, rfl, .of (s45 _ _ ea4), .of eb5, hSd cz, n8, L4, B5, fun H6 b6 m6 s56 eb6 B6 le7 => ?_⟩
        exact ⟨a4, b6, t2, l4, m6, _, rfl, Same.trans S5 s56, .of (s56 _ _ (s45 _ _ (s34 _ _ et2))), .of (s56 _ _ (s45 _ _ ea4)), .of eb6, L4, B6, le4, (le5.trans le6).trans le7⟩
end
end K1
set_option Elab.async false
set_option linter.all false
set_option maxRecDepth 100000
set_option maxHeartbeats 4000000
namespace K1
open PySem PySem.Spec PyProof.Rows L2 Kb Kc Kn
abbrev s_fact_rows : Stmt := top 26
theorem sc_fact_rows : FnScope ["signs", "facts", "lows", "belows", "unlike", "low", "word", "high", "one", "other", "at", "sign"] ["signs", "facts"] (defScope s_fact_rows) := ⟨rfl, rfl, rfl, by decide +kernel, rfl, by decide +kernel, by decide +kernel⟩
/-- ranks by the signs' places -/
def at_ (sg : List Str) (r : Str → Nat) (i : Nat) : Nat := r (sg.getD i "")
def spFactRows (K : PySem.W.Frag) : Sp := fun vs H Q _ => ∃ (a t : Addr) (sg : List Str) (xs : List Fact) (ys : List V) (r : Str → Nat), vs = [.ref a, .ref t] ∧ SgT H a sg ∧ SqT K H t ys ∧ FactsAt K H xs ys ∧ SgOk sg ∧ (∀ x ∈ xs, FactOk sg x) ∧ xs.length ≤ 12 ∧ (∀ x ∈ xs, Keeps r x) ∧
  ∀ H' p la lb lu ls bs us zs, Same H H' → H' p = some (.tup [.ref la, .ref lb, .ref lu]) → H' la = some (.lst (ls.map nv)) → H' lb = some (.lst (bs.map nv)) → H' lu = some (.tup zs) → PairsAt K H' us zs → Rows (LoR (at_ sg r)) sg.length ls → Rows (BeR (at_ sg r)) sg.length bs →
    (∀ q ∈ us, q.1 < sg.length ∧ q.2 < sg.length ∧ at_ sg r q.1 ≠ at_ sg r q.2) → Q (.ref p) H'
theorem place {sg : List Str} {s : Str} (h : s ∈ sg) (nd : sg.Nodup) : ∃ i, i < sg.length ∧ sg[i]? = some s ∧ (∀ m, m < i → sg[m]? ≠ some s) ∧ sg.getD i "" = s := by
  obtain ⟨i, hi, e⟩ := List.getElem_of_mem h
  have e2 : sg[i]? = some s := by rw [List.getElem?_eq_getElem hi, e]
  refine ⟨i, hi, e2, fun m hm e3 => ?_, by rw [List.getD_eq_getElem?_getD, e2]; rfl⟩
  have := nd_ix nd e3 e2
  omega
section
variable {P : Program} {w : World} {K : PySem.W.Frag} {mg : Str → Option Value} {base : Heap}
theorem ok_fact_rows {f : Addr} {fd : FuncData} (F : Fun K "fact_rows" "fact_rows" s_fact_rows f fd) (B : Bl mg) : FnOk P w K mg base CX0 1 f fd ["signs", "facts"] (spFactRows K) := by
  refine F.ok sc_fact_rows (fun vs H Q E h => ?_) (fun cdv A outer s H vs Q E hr h => ?_)
  · obtain ⟨a, t, sg, xs, ys, r, rfl, _⟩ := h
    rfl
  · obtain ⟨a, t, sg, xs, ys, r, rfl, hS, hT, hF, hsg, hx, l12, hk, k⟩ := h
    have n8 := hsg.2.1
    refine ⟨_, (pss_cons (ps_setLc (i := 2) (own := [("at", 10)]) (g := gName 10) (tt := tYes) rfl sc_fact_rows.nd rfl rfl (sw_true rfl rfl rfl (by decide +kernel)) (pi_range1 rfl B.range (pa_cons (pe_callB call_len_seq (by rfl) B.len (by decide +kernel) (pa_cons (pv 0) pa_nil)) pa_nil)) (blkOk_by (own := [("at", 10)]) (N := ["signs", "facts", "lows", "belows", "unlike", "low", "word", "high", "one", "other", "at", "sign"]) (sc := defScope s_fact_rows) (by decide +kernel)) (fun _ _ _ _ _ => (pg_name (i := 10) sc_fact_rows.nd rfl (Or.inl rfl))) (fun _ _ _ _ _ => pts_nil) (fun _ _ _ _ _ => (pe_op op_oneShl pe_int (pv 10))))
      (pss_cons (ps_setLc (i := 3) (own := [("sign", 11)]) (g := gName 11) (tt := tYes) rfl sc_fact_rows.nd rfl rfl (sw_true rfl rfl rfl (by decide +kernel)) (pi_tup (pv 0)) (blkOk_by (own := [("sign", 11)]) (N := ["signs", "facts", "lows", "belows", "unlike", "low", "word", "high", "one", "other", "at", "sign"]) (sc := defScope s_fact_rows) (by decide +kernel)) (fun _ _ _ _ _ => (pg_name (i := 11) sc_fact_rows.nd rfl (Or.inl rfl))) (fun _ _ _ _ _ => pts_nil) (fun _ _ _ _ _ => pe_int))
      (pss_cons (ps_set (i := 4) sc_fact_rows.nd rfl (Or.inl rfl) (pe_lstB pa_nil))
      (pss_cons (ps_for PassesOwn.never rfl (pi_tup (pv 1)) (pg_tup rfl (pgs_cons (pg_name (i := 5) sc_fact_rows.nd rfl (Or.inl rfl)) (pgs_cons (pg_name (i := 6) sc_fact_rows.nd rfl (Or.inl rfl)) (pgs_cons (pg_name (i := 7) sc_fact_rows.nd rfl (Or.inl rfl)) pgs_nil))))
        (pss_cons (ps_par (i := 8) (j := 9) (by rfl) sc_fact_rows.nd rfl rfl (by decide) rfl rfl (pa_cons (pe_bmF PySem.F.plainAttrs_tuple PySem.F.slot_tuple_index PySem.F.type_tuple_index mt_tup_index (pv 0) (pa_cons (pv 5) pa_nil)) (pa_cons (pe_bmF PySem.F.plainAttrs_tuple PySem.F.slot_tuple_index PySem.F.type_tuple_index mt_tup_index (pv 0) (pa_cons (pv 7) pa_nil)) pa_nil)) (by rfl))
      (pss_cons (ps_if (pt_cmpR op_eq (pv 6) pe_str (nomark _))
        (pss_one (ps_expr (pe_bm PySem.F.plainAttrs_list PySem.F.slot_list_append PySem.F.type_list_append mt_append (pv 4) (pa_cons (pe_tup (pa_cons (pv 8) (pa_cons (pv 9) pa_nil))) pa_nil))))
        (pss_one (ps_if (pt_cmpR op_eq (pv 6) pe_str (nomark _))
        (pss_one (ps_asg (pe_op op_or (pe_ix ix_list (pv 3) (pv 8) (fun _ _ => rfl)) (pe_op op_oneShl pe_int (pv 9))) (pg_sub (pv 3) (pv 8) set_list)))
        (pss_one (ps_asg (pe_op op_or (pe_ix ix_list (pv 2) (pv 8) (fun _ _ => rfl)) (pe_op op_oneShl pe_int (pv 9))) (pg_sub (pv 2) (pv 8) set_list))))))
      (pss_one (ps_if (pt_cmpR op_eq (pv 6) pe_str (nomark _))
        (pss_one (ps_asg (pe_op op_or (pe_ix ix_list (pv 2) (pv 9) (fun _ _ => rfl)) (pe_op op_oneShl pe_int (pv 8))) (pg_sub (pv 2) (pv 9) set_list)))
        pss_nil)))))
      (pss_one (ps_ret (pe_tup (pa_cons (pv 2) (pa_cons (pv 3) (pa_cons (pe_tupleOf (by rfl) B.tuple (pv 4)) pa_nil)))))))))), ?_⟩
    refine ⟨_, rfl, a, _, rfl, .inr hS.sq, _, rfl, by omega, ?_, ?_⟩
    · rw [List.length_map]
      omega
    rw [List.length_map, Int.toNat_natCast]
    refine fun la hla => lc_rangeM (fun i => nv (2 ^ i)) hla (Nat.lt_of_le_of_lt n8 (by decide)) (fun i H2 Q2 hi s2' k2 => ?_) (gname_mono 10) fun H1 s1 eA => ?_
    · rw [Int.zero_add]
      refine ⟨rfl, _, rfl, i, rfl, rfl, by omega, ?_⟩
      have e : ((2 : Int) ^ i) = ((2 ^ i : Nat) : Int) := by simp
      rw [e]
      exact k2 _ (Same.refl _)
    refine ⟨_, rfl, a, rfl, ⟨_, (hS.same s1).sq⟩, fun lb hlb => lc_mapT (fun _ _ y => y = nv 0) (fun _ _ _ _ _ h => h) (Same.refl H1) hlb (hS.same s1).sq (by rw [List.length_map]; exact Nat.lt_of_le_of_lt n8 (by decide)) (fun j x H2 G2 Q2 hj s12 _ _ k2 => ?_) (gname_mono 11) fun H2 bz s12 eB lB rB => ?_⟩
    · exact ⟨rfl, k2 _ _ (Same.refl _) rfl⟩
    have eB' : bz = (List.replicate sg.length 0).map nv := by
      refine List.ext_getElem? fun i => ?_
      rw [List.length_map] at lB
      by_cases lt : i < bz.length
      · rw [List.getElem?_eq_getElem lt, rB i _ (List.getElem?_eq_getElem lt)]
        rw [lB] at lt
        simp [List.getElem?_replicate, lt]
      · rw [List.getElem?_eq_none (by omega), List.getElem?_eq_none (by simp; omega)]
    rw [eB'] at eB
    have eA2 := s12 _ _ eA
    have s2 := Same.trans s1 s12
    refine ⟨(by show 0 ≤ sizeLine; decide), fun lu hlu _ => ?_⟩
    have eA3 : (upd H2 lu (.lst [])) la = some (.lst (((List.range sg.length).map fun i => 2 ^ i).map nv)) := by
      have := Kb.same_upd (o := .lst []) hlu _ _ eA2
      rw [List.map_map]
      exact this
    have eB3 := Kb.same_upd (o := .lst []) hlu _ _ eB
    have eU3 : (upd H2 lu (.lst [])) lu = some (.lst []) := upd_same
    have S3 : Same H (upd H2 lu (.lst [])) := Same.trans s2 (Kb.same_upd hlu)
    have nla : H la = none := hla
    have nlb : H lb = none := s1.free hlb
    have nlu : H lu = none := s2.free hlu
    have dab : la ≠ lb := fun z => by
      rw [z] at eA
      rw [eA] at hlb
      cases hlb
    have dau : la ≠ lu := fun z => by
      rw [z] at eA2
      rw [eA2] at hlu
      cases hlu
    have dbu : lb ≠ lu := fun z => by
      rw [z] at eB
      rw [eB] at hlu
      cases hlu
    obtain ⟨J, qJ⟩ : ∃ z, z = upd H2 lu (.lst []) := ⟨_, rfl⟩
    rw [← qJ] at eA3 eB3 eU3 S3 ⊢
    have S0 : ∀ {H3 : Hp} {q : Addr} {o : HO}, Same H H3 → H q = none → Same H (upd H3 q o) := fun s n b o e => by
      rw [upd_ne (ne_of_none e n)]
      exact s b o e
    let n := sg.length
    let ri := at_ sg r
    let G : List Nat → List Nat → List (Nat × Nat) → List V → Hp → Prop := fun ls bs us zs H3 => Same H H3 ∧ H3 la = some (.lst (ls.map nv)) ∧ H3 lb = some (.lst (bs.map nv)) ∧ H3 lu = some (.lst zs) ∧ PairsAt K H3 us zs ∧ Rows (LoR ri) n ls ∧ Rows (BeR ri) n bs ∧ (∀ q ∈ us, q.1 < n ∧ q.2 < n ∧ ri q.1 ≠ ri q.2) ∧ (∀ (j : Nat) (y : V), zs[j]? = some y → ∃ q, y = V.ref q ∧ q ≠ la ∧ q ≠ lb ∧ q ≠ lu)
    have G0 : G ((List.range sg.length).map fun i => 2 ^ i) (List.replicate sg.length 0) [] [] J := by
      refine ⟨S3, eA3, eB3, eU3, ⟨rfl, fun i y u e => by simp at e⟩, ⟨by simp [n], fun i x e => ?_⟩, ⟨by simp [n], fun i x e => ?_⟩, fun q hq => by simp at hq, fun j y e => by simp at e⟩
      · rw [List.getElem?_map] at e
        by_cases lt : i < sg.length
        · rw [List.getElem?_range lt] at e
          cases e
          exact Kn.Row.one lt (Nat.le_refl _)
        · rw [List.getElem?_eq_none (by simp; omega)] at e
          cases e
      · rw [List.getElem?_replicate] at e
        split at e
        · cases e
          exact Kn.Row.zero
        · cases e
    refine ⟨_, rfl, t, rfl, ⟨_, Kb.Same.seqT S3 hT⟩, ?_⟩
    refine for_it (walk_tup (xs := ys)) (fun j σ H3 => ∃ (ls bs : List Nat) (us : List (Nat × Nat)) (zs : List V) (v5 v6 v7 v8 v9 : Option V), σ = [some (.ref a), some (.ref t), some (.ref la), some (.ref lb), some (.ref lu), v5, v6, v7, v8, v9, none, none] ∧ G ls bs us zs H3 ∧ zs.length ≤ j) ⟨_, _, _, _, none, none, none, none, none, rfl, G0, Nat.le_refl _⟩ (fun i σ H1 _ ⟨_, _, _, _, _, _, _, _, _, _, ⟨s, _⟩, _⟩ => Kb.Same.seqT s hT) (fun i y σ H4 H3 hi ⟨ls, bs, us, zs, v5, v6, v7, v8, v9, e, ⟨s3, e1, e2, e3, hPa, L1, B1, hus, hz⟩, hzl⟩ hy => ?_) fun σ H3 ⟨ls, bs, us, zs, v5, v6, v7, v8, v9, e, ⟨s3, e1, e2, e3, hPa, L1, B1, hus, hz⟩, hzl⟩ => ?_
    · subst e
      obtain ⟨rfl, hyi⟩ := hy
      have hi' : i < xs.length := by rw [← hF.1]; exact hi
      obtain ⟨x, hxi⟩ : ∃ x, xs[i]? = some x := ⟨_, List.getElem?_eq_getElem hi'⟩
      obtain ⟨tf, rfl, hq⟩ := hF.2 i y x hyi hxi
      have hxm := List.mem_of_getElem? hxi
      obtain ⟨f1, f2, f3, f4⟩ := hx x hxm
      obtain ⟨k1, k2, k3, k4⟩ := hk x hxm
      obtain ⟨i1, l1, g1, n1, d1⟩ := place f1 hsg.2.2.1
      obtain ⟨i2, l2, g2, n2, d2⟩ := place f2 hsg.2.2.1
      have r1 : ri i1 = r x.lo := by show r _ = _; rw [d1]
      have r2 : ri i2 = r x.hi := by show r _ = _; rw [d2]
      refine ⟨tf, _, rfl, Kb.Same.seqT s3 hq, rfl, _, _, rfl, _, _, rfl, _, _, rfl, rfl, ?_⟩
      have tyS : ∃ (p : Addr) (o : Obj) (u : HO), V.ref a = .ref p ∧ H3 p = some (.frz o u) ∧ o.cls = .type "tuple" ∧ o.dict = none := by
        obtain ⟨o, h1, h2, h3⟩ := hS.same s3
        exact ⟨a, o, _, rfl, h3, h1, h2⟩
      refine ⟨_, rfl, tyS, _, rfl, a, sg, x.lo, i1, rfl, rfl, (hS.same s3).sq, g1, n1, ?_⟩
      refine ⟨_, rfl, tyS, _, rfl, a, sg, x.hi, i2, rfl, rfl, (hS.same s3).sq, g2, n2, _, _, rfl, ?_⟩
      let σ1 : L2.St := [some (.ref a), some (.ref t), some (.ref la), some (.ref lb), some (.ref lu), some (.str x.lo), some (.str x.rel), some (.str x.hi), some (nv i1), some (nv i2), none, none]
      have hx1 : ∀ {l : List Nat} {R : Nat → Nat → Prop} {i : Nat}, Rows R n l → i < n → ∃ x, l[i]? = some x := fun h hi => ⟨_, List.getElem?_eq_getElem (by rw [h.1]; exact hi)⟩
      obtain ⟨y1, ey1⟩ := hx1 L1 (i := i1) l1
      obtain ⟨w1, ew1⟩ := hx1 B1 (i := i1) l1
      have PaS : ∀ {H4 : Hp} {q : Addr} {o : HO} {us : List (Nat × Nat)} {zs : List V}, (q = la ∨ q = lb ∨ q = lu) → PairsAt K H4 us zs → (∀ (j : Nat) (y : V), zs[j]? = some y → ∃ q, y = V.ref q ∧ q ≠ la ∧ q ≠ lb ∧ q ≠ lu) → PairsAt K (upd H4 q o) us zs := fun {H4 q o us zs} hq h hz => ⟨h.1, fun j y u e1 e2 => by
        obtain ⟨t', e, qq⟩ := h.2 j y u e1 e2
        obtain ⟨t2, e', ne1, ne2, ne3⟩ := hz j y e1
        rw [e] at e'
        cases e'
        refine ⟨t', e, ?_⟩
        have nq : t' ≠ q := by
          rcases hq with z | z | z <;> rw [z] <;> assumption
        rcases qq with (h1 | ⟨o1, h1⟩) | h1
        · exact .inl (.inl (by rw [upd_ne nq]; exact h1))
        · exact .inl (.inr ⟨o1, by rw [upd_ne nq]; exact h1⟩)
        · exact .inr h1⟩
      have gA : ∀ {ls bs : List Nat} {us : List (Nat × Nat)} {zs : List V} {H4 : Hp} {j y : Nat}, G ls bs us zs H4 → Kn.Row (LoR ri j) n y → G (ls.set j y) bs us zs (upd H4 la (.lst ((ls.set j y).map nv))) := fun {ls bs us zs H4 j y} ⟨s, a1, a2, a3, a4, a5, a6, a7, a8⟩ h =>
        ⟨S0 s nla, upd_same, by rw [upd_ne (Ne.symm dab)]; exact a2, by rw [upd_ne (Ne.symm dau)]; exact a3, PaS (.inl rfl) a4 a8, a5.set h, a6, a7, a8⟩
      have gB : ∀ {ls bs : List Nat} {us : List (Nat × Nat)} {zs : List V} {H4 : Hp} {j y : Nat}, G ls bs us zs H4 → Kn.Row (BeR ri j) n y → G ls (bs.set j y) us zs (upd H4 lb (.lst ((bs.set j y).map nv))) := fun {ls bs us zs H4 j y} ⟨s, a1, a2, a3, a4, a5, a6, a7, a8⟩ h =>
        ⟨S0 s nlb, by rw [upd_ne dab]; exact a1, upd_same, by rw [upd_ne (Ne.symm dbu)]; exact a3, PaS (.inr (.inl rfl)) a4 a8, a5, a6.set h, a7, a8⟩
      have G3 : G ls bs us zs H3 := ⟨s3, e1, e2, e3, hPa, L1, B1, hus, hz⟩
      have fin : ∀ {ls' bs' : List Nat} {us' : List (Nat × Nat)} {zs' : List V} {H' : Hp}, G ls' bs' us' zs' H' → zs'.length ≤ i + 1 → ∃ (ls bs : List Nat) (us : List (Nat × Nat)) (zs : List V) (v5 v6 v7 v8 v9 : Option V), σ1 = [some (.ref a), some (.ref t), some (.ref la), some (.ref lb), some (.ref lu), v5, v6, v7, v8, v9, none, none] ∧ G ls bs us zs H' ∧ zs.length ≤ i + 1 :=
        fun g l => ⟨_, _, _, _, _, _, _, _, _, rfl, g, l⟩
      have zl : zs.length ≤ i + 1 := Nat.le_succ_of_le hzl
      have zs12 : zs.length < sizeLine := Nat.lt_of_le_of_lt (show zs.length ≤ 12 by omega) (by decide)
      simp only [FC, List.mem_cons, List.not_mem_nil, or_false] at f4
      rcases f4 with f4 | f4 | f4 | f4
      · have t1 : decide (V.str x.rel = V.str "!=") = false := by rw [f4]; decide +kernel
        have t2 : decide (V.str x.rel = V.str "<") = true := by rw [f4]; decide +kernel
        have t3 : decide (V.str x.rel = V.str "=") = false := by rw [f4]; decide +kernel
        refine ⟨_, rfl, rfl, _, rfl, ?_⟩
        rw [t1]
        refine iteF ⟨_, rfl, rfl, _, rfl, ?_⟩
        rw [t2]
        refine iteT (one_asg rfl rfl rfl (by omega) e2 ew1 ?_)
        refine ⟨_, rfl, rfl, _, rfl, ?_⟩
        rw [t3]
        refine iteF (fin (gB G3 ((B1.2 i1 w1 ew1).or (Kn.Row.one l2 ?_))) zl)
        show ri i1 < ri i2
        rw [r1, r2]
        exact k1 f4
      · have t1 : decide (V.str x.rel = V.str "!=") = false := by rw [f4]; decide +kernel
        have t2 : decide (V.str x.rel = V.str "<") = false := by rw [f4]; decide +kernel
        have t3 : decide (V.str x.rel = V.str "=") = false := by rw [f4]; decide +kernel
        refine ⟨_, rfl, rfl, _, rfl, ?_⟩
        rw [t1]
        refine iteF ⟨_, rfl, rfl, _, rfl, ?_⟩
        rw [t2]
        refine iteF (one_asg rfl rfl rfl (by omega) e1 ey1 ?_)
        refine ⟨_, rfl, rfl, _, rfl, ?_⟩
        rw [t3]
        refine iteF (fin (gA G3 ((L1.2 i1 y1 ey1).or (Kn.Row.one l2 ?_))) zl)
        show ri i1 ≤ ri i2
        rw [r1, r2]
        exact k2 f4
      · have t1 : decide (V.str x.rel = V.str "!=") = false := by rw [f4]; decide +kernel
        have t2 : decide (V.str x.rel = V.str "<") = false := by rw [f4]; decide +kernel
        have t3 : decide (V.str x.rel = V.str "=") = true := by rw [f4]; decide +kernel
        refine ⟨_, rfl, rfl, _, rfl, ?_⟩
        rw [t1]
        refine iteF ⟨_, rfl, rfl, _, rfl, ?_⟩
        rw [t2]
        have hr12 : ri i1 = ri i2 := by rw [r1, r2]; exact k3 f4
        have G4 := gA G3 ((L1.2 i1 y1 ey1).or (Kn.Row.one l2 (show ri i1 ≤ ri i2 by omega)))
        refine iteF (one_asg rfl rfl rfl (by omega) e1 ey1 ?_)
        refine ⟨_, rfl, rfl, _, rfl, ?_⟩
        rw [t3]
        obtain ⟨_, b1, _, _, _, M1, _⟩ := id G4
        obtain ⟨y2, ey2⟩ := hx1 M1 (i := i2) l2
        refine iteT (one_asg rfl rfl rfl (by omega) b1 ey2 ?_)
        exact fin (gA G4 ((M1.2 i2 y2 ey2).or (Kn.Row.one l1 (show ri i2 ≤ ri i1 by omega)))) zl
      · have t1 : decide (V.str x.rel = V.str "!=") = true := by rw [f4]; decide +kernel
        have t3 : decide (V.str x.rel = V.str "=") = false := by rw [f4]; decide +kernel
        refine ⟨_, rfl, rfl, _, rfl, ?_⟩
        rw [t1]
        refine iteT ⟨_, rfl, .inl ⟨rfl, _, .of e3⟩, _, rfl, _, rfl, (by show 2 ≤ sizeLine; decide), fun tq htq => ⟨lu, zs, .ref tq, rfl, rfl, Kb.same_upd htq _ _ e3, zs12, ?_⟩⟩
        refine ⟨_, rfl, rfl, _, rfl, ?_⟩
        rw [t3]
        have Sq := Kb.same_upd (o := .tup [nv i1, nv i2]) htq
        have nqa : tq ≠ la := fun z => by rw [z, e1] at htq; cases htq
        have nqb : tq ≠ lb := fun z => by rw [z, e2] at htq; cases htq
        have nqu : tq ≠ lu := fun z => by rw [z, e3] at htq; cases htq
        have hP4 := PaS (o := .lst (zs ++ [.ref tq])) (.inr (.inr rfl)) (hPa.same Sq) hz
        refine iteF (fin (us' := us ++ [(i1, i2)]) (zs' := zs ++ [.ref tq]) ⟨S0 (Same.trans s3 Sq) nlu, by rw [upd_ne dau]; exact Sq _ _ e1, by rw [upd_ne dbu]; exact Sq _ _ e2, upd_same, ⟨by rw [List.length_append, List.length_append, hPa.1]; rfl, fun j y u q1 q2 => ?_⟩, L1, B1, fun q hq => ?_, fun j y q1 => ?_⟩ ?_)
        · by_cases lt : j < zs.length
          · rw [List.getElem?_append_left lt] at q1
            rw [List.getElem?_append_left (by rw [← hPa.1]; exact lt)] at q2
            exact hP4.2 j y u q1 q2
          · have hj : j = zs.length := by
              have := (List.getElem?_eq_some_iff.mp q1).1
              rw [List.length_append] at this
              simp only [List.length_cons, List.length_nil] at this
              omega
            subst hj
            rw [List.getElem?_append_right (Nat.le_refl _)] at q1
            rw [hPa.1, List.getElem?_append_right (Nat.le_refl _)] at q2
            simp at q1 q2
            subst q1 q2
            exact ⟨tq, rfl, .of (by rw [upd_ne nqu]; exact upd_same)⟩
        · rcases List.mem_append.mp hq with m | m
          · exact hus q m
          · simp only [List.mem_cons, List.not_mem_nil, or_false] at m
            subst m
            exact ⟨l1, l2, by rw [r1, r2]; exact k4 f4⟩
        · by_cases lt : j < zs.length
          · rw [List.getElem?_append_left lt] at q1
            exact hz j y q1
          · have hj : j = zs.length := by
              have := (List.getElem?_eq_some_iff.mp q1).1
              rw [List.length_append] at this
              simp only [List.length_cons, List.length_nil] at this
              omega
            subst hj
            rw [List.getElem?_append_right (Nat.le_refl _)] at q1
            simp at q1
            subst q1
            exact ⟨tq, rfl, nqa, nqb, nqu⟩
        · rw [List.length_append]
          exact Nat.succ_le_succ hzl
    · subst e
      refine ⟨_, rfl, _, rfl, _, rfl, .inl ⟨lu, zs, rfl, .of e3, fun tu htu => ⟨(by show 3 ≤ sizeLine; decide), fun p hp => ?_⟩⟩⟩
      have s4 := Kb.same_upd (o := .tup zs) htu
      have s5 := Kb.same_upd (o := .tup [.ref la, .ref lb, .ref tu]) hp
      have s45 := Same.trans s4 s5
      exact k _ p la lb tu ls bs us zs (Same.trans s3 s45) upd_same (s45 _ _ e1) (s45 _ _ e2) (s5 _ _ upd_same) (hPa.same s45) L1 B1 hus
end
end K1
set_option Elab.async false
set_option linter.all false
set_option maxRecDepth 100000
set_option maxHeartbeats 4000000
namespace K1
open PySem PySem.Spec PyProof.Rows L2 Kb Kc Kn
theorem sc_has_world : FnScope ["signs", "word", "facts", "lows", "belows", "unlike", "figures"] ["signs", "word", "facts"] (defScope s_has_world) := ⟨rfl, rfl, rfl, by decide +kernel, rfl, by decide +kernel, by decide +kernel⟩
theorem fig_side {sg : List Str} {r : Str → Nat} (h : ∀ s ∈ sg, isFig s = false → (∀ f ∈ sg, isFig f = true → r s < r f) ∨ (∀ f ∈ sg, isFig f = true → r f < r s)) : Side sg.length (figs sg sg.length) (at_ sg r) := by
  obtain ⟨_, hb⟩ := figs_bits sg sg.length
  have gm : ∀ j, j < sg.length → sg.getD j "" ∈ sg := fun j hj => by
    rw [List.getD_eq_getElem?_getD, List.getElem?_eq_getElem hj]
    exact List.getElem_mem hj
  refine ⟨fun j hj => ?_, fun s hs hf => ?_⟩
  · rw [hb, Bool.and_eq_true] at hj
    exact of_decide_eq_true hj.1
  · rw [hb, decide_eq_true hs, Bool.true_and] at hf
    have key : ∀ f, (figs sg sg.length).testBit f = true → sg.getD f "" ∈ sg ∧ isFig (sg.getD f "") = true := fun f hf => by
      rw [hb, Bool.and_eq_true] at hf
      exact ⟨gm f (of_decide_eq_true hf.1), hf.2⟩
    rcases h _ (gm s hs) hf with g | g
    · exact .inl fun f hf2 => g _ (key f hf2).1 (key f hf2).2
    · exact .inr fun f hf2 => g _ (key f hf2).1 (key f hf2).2
section
variable {P : Program} {w : World} {K : PySem.W.Frag} {mg : Str → Option Value} {base : Heap}
theorem ok_has_world {f ffact_rows ffigure_bits fclosed : Addr} {fd fdfact_rows fdfigure_bits fdclosed : FuncData} (F : Fun K "has_world" "has_world" s_has_world f fd) (B : Bl mg) (C : Gb K mg)
    (Ffact_rows : Fun K "fact_rows" "fact_rows" s_fact_rows ffact_rows fdfact_rows) (bfact_rows : Binds K fdfact_rows ["signs", "facts"] []) (gfact_rows : mg "fact_rows" = some (.ref ffact_rows))
    (Ffigure_bits : Fun K "figure_bits" "figure_bits" s_figure_bits ffigure_bits fdfigure_bits) (bfigure_bits : Binds K fdfigure_bits ["signs"] []) (gfigure_bits : mg "figure_bits" = some (.ref ffigure_bits))
    (Fclosed : Fun K "closed" "closed" s_closed fclosed fdclosed) (bclosed : Binds K fdclosed ["lows", "belows", "figures", "unlike"] []) (gclosed : mg "closed" = some (.ref fclosed))
    (Gclosed : FnOk P w K mg base CX0 2 fclosed fdclosed ["lows", "belows", "figures", "unlike"] (spClosed K)) : FnOk P w K mg base CX0 3 f fd ["signs", "word", "facts"] (spHasWorld K) := by
  have Gfact_rows : FnOk P w K mg base CX0 1 ffact_rows fdfact_rows ["signs", "facts"] (spFactRows K) := ok_fact_rows Ffact_rows B
  have Gfigure_bits : FnOk P w K mg base CX0 1 ffigure_bits fdfigure_bits ["signs"] (spFigBits K) := ok_figure_bits Ffigure_bits B C
  refine F.ok sc_has_world (fun vs H Q E h => ?_) (fun cdv A outer s H vs Q E hr h => ?_)
  · obtain ⟨a, t, word, sg, xs, ys, rfl, _⟩ := h
    rfl
  · obtain ⟨a, t, word, sg, xs, ys, rfl, hS, hT, hF, hsg, hx, l12, ⟨r, hk, hfig⟩, k⟩ := h
    refine ⟨_, (pss_cons (ps_asg (pe_call Gfact_rows (hr.mono (by decide)) (by rfl) gfact_rows Ffact_rows.kp bfact_rows .nil pass0 (pa_cons (pv 0) (pa_cons (pv 2) pa_nil))) (pg_tup rfl (pgs_cons (pg_name (i := 3) sc_has_world.nd rfl (Or.inl rfl)) (pgs_cons (pg_name (i := 4) sc_has_world.nd rfl (Or.inl rfl)) (pgs_cons (pg_name (i := 5) sc_has_world.nd rfl (Or.inl rfl)) pgs_nil)))))
      (pss_cons (ps_set (i := 6) sc_has_world.nd rfl (Or.inl rfl) (pe_ifExp (pt_cmpR op_eq (pv 1) pe_str (nomark _)) (pe_call Gfigure_bits (hr.mono (by decide)) (by rfl) gfigure_bits Ffigure_bits.kp bfigure_bits .nil pass0 (pa_cons (pv 0) pa_nil)) pe_int))
      (pss_one (ps_ret (pe_cmp (pc_notN (pe_call Gclosed hr (by rfl) gclosed Fclosed.kp bclosed .nil pass0 (pa_cons (pv 3) (pa_cons (pv 4) (pa_cons (pv 6) (pa_cons (pv 5) pa_nil)))))) rfl))))), ?_⟩
    refine ⟨_, rfl, _, rfl, a, t, sg, xs, ys, r, rfl, hS, hT, hF, hsg, hx, l12, hk, fun H1 p la lb lu ls bs us zs s1 ep ea eb eu hP L1 B1 hus => ?_⟩
    refine ⟨p, _, rfl, .of ep, rfl, _, _, rfl, _, _, rfl, _, _, rfl, rfl, ?_⟩
    refine ⟨_, rfl, rfl, _, rfl, ?_⟩
    have fin : ∀ {fg : Nat} {H2 : Hp}, Same H1 H2 → (fg ≠ 0 → Side sg.length fg (at_ sg r)) → ∀ {Q2 : VK}, (∀ H' t, Same H2 H' → Q2 (.ref t) H') → spClosed K [.ref la, .ref lb, nv fg, .ref lu] H2 Q2 E0 := fun {fg H2} s2 hs {Q2} k2 =>
      ⟨la, lb, lu, sg.length, fg, at_ sg r, ls, bs, us, zs, rfl, .of (s2 _ _ ea), .of (s2 _ _ eb), .of (s2 _ _ eu), hP.same s2, hus, hs, hsg.2.1, L1, B1, k2⟩
    by_cases ew : word = "figures"
    · rw [decide_eq_true (by rw [ew])]
      refine iteT ⟨_, rfl, a, sg, rfl, (hS.same s1).sq, hsg, fun H2 s2 => ?_⟩
      refine ⟨_, rfl, _, rfl, _, rfl, _, rfl, ?_⟩
      refine fin (Q2 := fun x H1 => Q (V.bl (!decide (x = V.non))) H1) s2 (fun _ => fig_side (hfig ew)) fun H3 t3 s3 => ?_
      show Q (V.bl (!decide (V.ref t3 = V.non))) H3
      rw [decide_eq_false (by intro z; cases z)]
      exact k H3 (Same.trans s1 (Same.trans s2 s3))
    · rw [decide_eq_false (fun z => ew (by injection z))]
      refine iteF ?_
      refine ⟨_, rfl, _, rfl, _, rfl, _, rfl, ?_⟩
      refine fin (Q2 := fun x H1 => Q (V.bl (!decide (x = V.non))) H1) (fg := 0) (Same.refl H1) (fun z => absurd rfl z) fun H3 t3 s3 => ?_
      show Q (V.bl (!decide (V.ref t3 = V.non))) H3
      rw [decide_eq_false (by intro z; cases z)]
      exact k H3 (Same.trans s1 s3)
end
end K1
set_option Elab.async false
set_option linter.all false
set_option maxRecDepth 100000
set_option maxHeartbeats 4000000
namespace Kc
open PySem PySem.Spec PyProof.Rows L2 Kb
/-! ### tuple(dict): its keys -/
section
variable {prog : Program} {w : World} {A : Around} {E : Value → Shared → Prop} {s : Shared} {T : String} {r d : Addr} {n : Nat} {P : Nat → Value → Prop} {OK : Heap → Prop}
theorem collect_src {Q : List Value → Shared → Prop} (K : PySem.W.KdlSrc prog w T r d n P OK) (hh : A.handled = none) (hok : OK s.heap) (hn : n ≤ sizeLine)
    (hQ : ∀ (h' : Heap) (tk : Nat) (acc : Array Value), (∀ b o, s.heap.get? b = some o → h'.get? b = some o) → ItemsOf P acc n → Q acc.toList { s with heap := h', toks := tk }) :
    wpAny (model prog w) A (collect (.ref r)) Q E s := by
  obtain ⟨lr, ld⟩ := K.there _ hok
  unfold collect
  refine wpAny_bind (wpAny_runValue (codeAny_builtin F.entry_proto_collect ?_))
  rw [Around.under_plainId F.plain_proto_collect _]
  show wpAny _ A.in1 (newList [] >>= fun l => again (.builtin "list.__iadd__" ⟨[l, .ref r], []⟩)) _ _ s
  refine wpAny_bind (wpAny_newObj_type ?_)
  refine wpAny_pure ⟨plainId_quiet F.plain_list_iadd _, codeAny_builtin F.entry_list_iadd ?_⟩
  rw [Around.under_plainId F.plain_list_iadd _]
  have kp : ∀ b o, s.heap.get? b = some o → (s.heap.push { cls := .type "list", data := .seq ([] : List Value).toArray }).get? b = some o := fun b o e => Heap.get?_push_of_some _ e
  have hS : (s.heap.push { cls := .type "list", data := .seq ([] : List Value).toArray }).get? s.heap.objs.size = some { cls := .type "list", data := .seq #[] 0 } := Heap.get?_push_size _ rfl
  have ok2 : OK (s.heap.push { cls := .type "list", data := .seq ([] : List Value).toArray }) := K.keep _ _ hok fun b _ o e => kp b o e
  show wpAny _ A.in1 (Builtin.List.listExtendWith (.ref s.heap.objs.size) (.ref r) (.ref s.heap.objs.size)) _ _ _
  refine wpAny_mono (PySem.W.kdl_extend (A := A) (R := fun rr s' => rr = .ok (.ret (.ref s.heap.objs.size)) ∧ ∃ (h' : Heap) (tk : Nat) (acc : Array Value) (c' : Nat), s' = { s with heap := h', toks := tk } ∧
      (∀ b o, s.heap.get? b = some o → h'.get? b = some o) ∧ h'.get? s.heap.objs.size = some { cls := .type "list", dict := none, data := .seq acc c', slots := #[] } ∧ ItemsOf P acc n)
    (s := { s with heap := s.heap.push { cls := .type "list", data := .seq ([] : List Value).toArray } }) K hh ok2 s.heap.objs.size (Nat.ne_of_gt lr) (Nat.ne_of_gt ld) _ 0 hS
    (fun h' tk acc c' hk e hi => ⟨rfl, h', tk, acc, c', rfl, fun b o q => hk b o (Nat.ne_of_lt (Heap.lt_size q)) (kp b o q), e, hi⟩) hn) (fun fin s' h => ?_) (fun e s' h => ?_)
  · cases fin with
    | done f =>
      obtain ⟨e, h', tk, acc, c', rfl, hk, hS', hi⟩ := h
      cases e
      show wpAny _ A (load s.heap.objs.size >>= _) _ _ _
      exact wpAny_bind (wpAny_load hS' (wpAny_pure (hQ h' tk acc hk hi)))
    | again c' =>
      refine ⟨h.1, codeAny_mono h.2 fun rr s'' hr' => ?_⟩
      obtain ⟨rfl, h', tk, acc, c', rfl, hk, hS', hi⟩ := hr'
      show wpAny _ A (load s.heap.objs.size >>= _) _ _ _
      exact wpAny_bind (wpAny_load hS' (wpAny_pure (hQ h' tk acc hk hi)))
  · exact absurd h.1 (by simp)
theorem code_tuple_src {Q₁ : Value → Shared → Prop} (K : PySem.W.KdlSrc prog w "dict" r d n P OK) (hh : A.handled = none) (hok : OK s.heap) (hn : n ≤ sizeLine)
    (h : ∀ (h' : Heap) (tk : Nat) (acc : Array Value), (∀ b o, s.heap.get? b = some o → h'.get? b = some o) → ItemsOf P acc n → Q₁ (.ref h'.objs.size) { s with heap := h'.push { cls := .type "tuple", data := .seq acc }, toks := tk }) :
    codeAny (model prog w) A (.call (.builtin "tuple.__new__") ⟨[.type "tuple", .ref r], []⟩) (wants Q₁ E) s := by
  refine codeAny_of_tree ?_
  show wpAny _ A.in1 (do checkBuiltinCall "tuple.__new__" ⟨[.type "tuple", .ref r], []⟩; again (.builtin "tuple.__new__" ⟨[.type "tuple", .ref r], []⟩)) _ _ s
  refine wpAny_bind (wpAny_of_eq (F.newCall_tuple_1 _) (wpAny_pure ⟨plainId_quiet F.plain_tuple_new _, codeAny_builtin F.entry_tuple_new ?_⟩))
  rw [Around.under_plainId F.plain_tuple_new _]
  have hsub := sub_tuple_self
  have hinit := init_tuple_lookup
  have hmh := madeHere_tuple
  have hTI : s.TypeIs (.ref r) "dict" := K.type s hok
  have hh1 : A.in1.handled = none := hh
  have hnt := K.notTuple
  wp_walk using wpAny_typeOf hTI, collect_src (A := A.in1) K hh1 hok hn
  intro h' tk acc hk hacc
  show wpAny _ _ (Builtin.Tuple.tupleExact acc.toList.toArray >>= fun v => ret v) _ _ _
  unfold Builtin.Tuple.tupleExact
  refine wpAny_bind (wpAny_newObj_type ?_ (by show acc.toList.toArray.size ≤ sizeLine; simp only [Array.toArray_toList]; rw [hacc.1]; exact hn))
  refine wpAny_pure ?_
  have e : acc.toList.toArray = acc := by simp
  rw [e]
  exact h h' tk acc hk hacc
theorem call_tuple_src {Q : Value → Shared → Prop} (K : PySem.W.KdlSrc prog w "dict" r d n P OK) (hh : A.handled = none) (hok : OK s.heap) (hn : n ≤ sizeLine)
    (hQ : ∀ (h' : Heap) (tk : Nat) (acc : Array Value), (∀ b o, s.heap.get? b = some o → h'.get? b = some o) → ItemsOf P acc n → Q (.ref h'.objs.size) { s with heap := h'.push { cls := .type "tuple", data := .seq acc }, toks := tk }) :
    wpAny (model prog w) A (call (.type "tuple") [.ref r]) Q E s := by
  refine callType_codes (Q₁ := fun obj s₁ => s₁.TypeIs obj "tuple" ∧ Q obj s₁) F.called_tuple (F.typeCall_tuple_1 _) F.entry_object_init
    (code_tuple_src (A := A.in1) K hh hok hn fun h' tk acc hk hacc => ⟨⟨_, Heap.get?_push_size _ rfl, rfl⟩, hQ h' tk acc hk hacc⟩) fun obj s₁ h₁ => ?_
  exact ⟨h₁.1, F.args_object_init_2 obj _, object_init_meets F.called_tuple.init.lookup F.called_tuple.made (by decide) prog w A.in1 _ s₁ ⟨h₁.1, rfl, h₁.2⟩⟩
end
def rTupD : List V → Hp → VK → Prop := fun xs H Q => ∃ p kvs, xs = [.ref p] ∧ H p = some (.dK kvs) ∧ ∀ q, H q = none → Q (.ref q) (upd H q (.tup (kvs.map fun kv => kV kv.1)))
theorem call_tuple_dK {X : Cx} (hc : X.calm = true) : CallR X (.type "tuple") rTupD := by
  intro pins s σ H xs us Q I r h
  obtain ⟨p, kvs, e, hk, q⟩ := h
  subst e
  obtain ⟨u, eu, rx⟩ := vals1 r
  subst eu
  obtain rfl : u = Value.ref p := rx
  obtain ⟨z, lo, vs, rk, hd⟩ := (show ObjOk X.prog X.w H s.heap p (.dK kvs) from I.hok p _ hk)
  obtain ⟨ep, hat⟩ := hd.dictAt
  have hl : kvs.length = vs.length := Paired.length rk
  refine call_tuple_src (PySem.W.kdl_dict (knd := mixKind X.prog X.w) (kvs := vs) (ep := ep) lo) (I.ok.hd hc) hat (by rw [← hl]; exact z) fun h' tk acc hk' hacc => ?_
  have I1 : Inv X pins σ H { s with heap := h', toks := tk } := I.kept hk'
  have rv : Vals (kvs.map fun kv => kV kv.1) acc.toList := by
    have el : acc.toList.length = acc.size := by simp
    refine vals_of_at (by rw [List.length_map, el, hacc.1, hl]) fun j x w h1 h2 => ?_
    obtain ⟨k, y, hky, hi⟩ := hacc.2 j w (by rw [← Array.getElem?_toList]; exact h2)
    have e1 : (kvs.map (·.1))[j]? = some k := by
      rw [KV.keys rk, List.getElem?_map, hky] <;> rfl
    have e2 : (kvs.map fun kv => kV kv.1)[j]? = some (kV k) := by
      have e3 : (kvs.map fun kv => kV kv.1) = (kvs.map (·.1)).map kV := by rw [List.map_map] <;> rfl
      rw [e3, List.getElem?_map, e1] <;> rfl
    rw [e2] at h1
    cases h1
    exact keyIs_rel hi
  have ea : acc.toList.toArray = acc := by simp
  refine ⟨.ref h'.objs.size, _, I1.laid (t' := tk) (o := .tup (kvs.map fun kv => kV kv.1)) (fun b o e => Heap.get?_push_of_some _ e) (Nat.le_refl _) ⟨by rw [List.length_map]; exact z, acc.toList, rv, by rw [ea]; exact IsTup.new _ _⟩, rfl, q _ (I1.hok.fresh (Nat.le_refl _))⟩
end Kc
set_option Elab.async false
set_option linter.all false
set_option maxRecDepth 100000
set_option maxHeartbeats 4000000
namespace K1
open PySem PySem.Spec PyProof.Rows L2 Kb Kc Kn
abbrev s_spread : Stmt := top 8
theorem sc_spread : FnScope ["items", "places", "body", "mark"] ["items"] (defScope s_spread) := ⟨rfl, rfl, rfl, by decide +kernel, rfl, by decide +kernel, by decide +kernel⟩
abbrev s_places_ahead : Stmt := top 9
theorem sc_places_ahead : FnScope ["places", "at", "ahead"] ["places", "at"] (defScope s_places_ahead) := ⟨rfl, rfl, rfl, by decide +kernel, rfl, by decide +kernel, by decide +kernel⟩
def Places (K : PySem.W.Frag) (H : Hp) (zs : List V) : Prop := ∀ z ∈ zs, isItem K H z
theorem Places.same {K : PySem.W.Frag} {H H' : Hp} {zs : List V} (s : Same H H') (h : Places K H zs) : Places K H' zs := fun z m => (h z m).same s
def spSpread (K : PySem.W.Frag) : Sp := fun vs H Q _ => ∃ (t : Addr) (ys : List V), vs = [.ref t] ∧ SqT K H t ys ∧ Places K H ys ∧ ys.length ≤ 6 ∧ ∀ H' l zs, Same H H' → H' l = some (.lst zs) → zs.length ≤ 12 → Places K H' zs → Q (.ref l) H'
def spAhead (K : PySem.W.Frag) : Sp := fun vs H Q _ => ∃ (l : Addr) (zs : List V) (i : Nat), vs = [.ref l, nv i] ∧ SqL K H l zs ∧ Places K H zs ∧ zs.length ≤ 12 ∧ i ≤ zs.length ∧
  ∀ H' a (ns : List Nat), Same H H' → H a = none → H' a = some (.lst (ns.map nv)) → ns.length ≤ 13 → (∀ n ∈ ns, n ≤ zs.length) → Q (.ref a) H'
section
variable {P : Program} {w : World} {K : PySem.W.Frag} {mg : Str → Option Value} {base : Heap}
theorem ok_spread {f : Addr} {fd : FuncData} (F : Fun K "spread" "spread" s_spread f fd) (B : Bl mg) : FnOk P w K mg base CX0 1 f fd ["items"] (spSpread K) := by
  refine F.ok sc_spread (fun vs H Q E h => ?_) (fun cdv A outer s H vs Q E hr h => ?_)
  · obtain ⟨t, ys, rfl, _⟩ := h
    rfl
  · obtain ⟨t, ys, rfl, hT, hP, l6, k⟩ := h
    refine ⟨_, (pss_cons (ps_set (i := 1) sc_spread.nd rfl (Or.inl rfl) (pe_lstB pa_nil))
      (pss_cons (ps_for PassesOwn.never rfl (pi_tup (pv 0)) (pg_tup rfl (pgs_cons (pg_name (i := 2) sc_spread.nd rfl (Or.inl rfl)) (pgs_cons (pg_name (i := 3) sc_spread.nd rfl (Or.inl rfl)) pgs_nil)))
        (pss_one (ps_if (pt_cmpR op_eq (pv 3) pe_str (nomark _))
        (pss_cons (ps_expr (pe_bm PySem.F.plainAttrs_list PySem.F.slot_list_append PySem.F.type_list_append mt_append (pv 1) (pa_cons (pe_tup (pa_cons (pv 2) (pa_cons pe_str pa_nil))) pa_nil)))
      (pss_one (ps_expr (pe_bm PySem.F.plainAttrs_list PySem.F.slot_list_append PySem.F.type_list_append mt_append (pv 1) (pa_cons (pe_tup (pa_cons (pv 2) (pa_cons pe_str pa_nil))) pa_nil)))))
        (pss_one (ps_expr (pe_bm PySem.F.plainAttrs_list PySem.F.slot_list_append PySem.F.type_list_append mt_append (pv 1) (pa_cons (pe_tup (pa_cons (pv 2) (pa_cons (pv 3) pa_nil))) pa_nil)))))))
      (pss_one (ps_ret (pv 1))))), ?_⟩
    refine ⟨(by show 0 ≤ sizeLine; decide), fun l hl _ => ?_⟩
    have S0 : Same H (upd H l (.lst [])) := Kb.same_upd hl
    refine ⟨_, rfl, t, rfl, ⟨_, Kb.Same.seqT S0 hT⟩, for_it (walk_tup (xs := ys)) (fun i σ H1 => ∃ (zs : List V) (v2 v3 : Option V), σ = [some (.ref t), some (.ref l), v2, v3] ∧ Same H H1 ∧ H1 l = some (.lst zs) ∧ zs.length ≤ 2 * i ∧ Places K H1 zs) ⟨[], none, none, rfl, S0, upd_same, Nat.le_refl _, fun z m => by simp at m⟩ (fun i σ H1 _ ⟨_, _, _, _, s, _⟩ => Kb.Same.seqT s hT) (fun i x σ H2 H1 hi ⟨zs, v2, v3, e, s1, e1, zl, pz⟩ y => ?_) fun σ H1 ⟨zs, v2, v3, e, s1, e1, zl, pz⟩ => ?_⟩
    · subst e
      obtain ⟨rfl, hx⟩ := y
      obtain ⟨q, b, m, rfl, hq⟩ := (hP x (List.mem_of_getElem? hx)).same s1
      refine ⟨q, _, rfl, hq, rfl, _, _, rfl, _, _, rfl, rfl, ?_⟩
      have small : zs.length < sizeLine := Nat.lt_of_le_of_lt (show zs.length ≤ 12 by omega) (by decide)
      have small2 : (zs ++ [V.ref q]).length < sizeLine := Nat.lt_of_le_of_lt (show _ ≤ 13 by rw [List.length_append]; simp only [List.length_cons, List.length_nil]; omega) (by decide)
      have add : ∀ {H3 : Hp} {xs : List V} {p : Addr} {o : HO}, Same H H3 → H3 l = some (.lst xs) → Places K H3 xs → H3 p = none → (∃ b m, o = .tup [.str b, .str m]) →
          (upd H3 p o) l = some (.lst xs) ∧ Same H (upd (upd H3 p o) l (.lst (xs ++ [.ref p]))) ∧ Places K (upd (upd H3 p o) l (.lst (xs ++ [.ref p]))) (xs ++ [.ref p]) := fun {H3 xs p o} s3 e3 p3 hp ⟨b, m, eo⟩ => by
        have S := Kb.same_upd (o := o) hp
        have npl : p ≠ l := fun z => by rw [z, e3] at hp; cases hp
        refine ⟨S _ _ e3, fun b o e => ?_, fun z hz => ?_⟩
        · rw [upd_ne (ne_of_none e hl)]
          exact S _ _ (s3 _ _ e)
        · have st : ∀ {t : Addr} {vs : List V}, SqT K (upd H3 p o) t vs → SqT K (upd (upd H3 p o) l (.lst (xs ++ [.ref p]))) t vs := fun {t vs} h => by
            rcases h with (h1 | ⟨o1, h1⟩) | h1
            · have : t ≠ l := fun z => by rw [z, S _ _ e3] at h1; cases h1
              exact .inl (.inl (by rw [upd_ne this]; exact h1))
            · have : t ≠ l := fun z => by rw [z, S _ _ e3] at h1; cases h1
              exact .inl (.inr ⟨o1, by rw [upd_ne this]; exact h1⟩)
            · exact .inr h1
          rcases List.mem_append.mp hz with hz | hz
          · obtain ⟨t, b', m', e', q'⟩ := (p3 z hz).same S
            exact ⟨t, b', m', e', st q'⟩
          · simp only [List.mem_cons, List.not_mem_nil, or_false] at hz
            subst hz
            exact ⟨p, b, m, rfl, st (.of (by rw [upd_same, eo]))⟩
      refine ⟨_, rfl, rfl, _, rfl, ite2 (fun _ => ?_) (fun _ => ?_)⟩
      · refine ⟨_, rfl, .inl ⟨rfl, _, .of e1⟩, _, rfl, (by show 2 ≤ sizeLine; decide), fun p hp => ?_⟩
        obtain ⟨a1, a2, a3⟩ := add s1 e1 pz hp ⟨b, "", rfl⟩
        refine ⟨l, _, _, rfl, rfl, a1, small, ?_⟩
        have a4 : (upd (upd H1 p (.tup [.str b, .str ""])) l (.lst (zs ++ [.ref p]))) l = some (.lst (zs ++ [.ref p])) := upd_same
        obtain ⟨J, qJ⟩ : ∃ z, z = (upd (upd H1 p (.tup [.str b, .str ""])) l (.lst (zs ++ [.ref p]))) := ⟨_, rfl⟩
        rw [← qJ] at a2 a3 a4 ⊢
        refine ⟨_, rfl, .inl ⟨rfl, _, .of a4⟩, _, rfl, (by show 2 ≤ sizeLine; decide), fun p2 hp2 => ?_⟩
        obtain ⟨b1, b2, b3⟩ := add a2 a4 a3 hp2 ⟨b, "*", rfl⟩
        refine ⟨l, _, _, rfl, rfl, b1, Nat.lt_of_le_of_lt (show _ ≤ 13 by rw [List.length_append]; simp only [List.length_cons, List.length_nil]; omega) (by decide), ?_⟩
        refine ⟨_, _, _, rfl, b2, upd_same, ?_, b3⟩
        simp only [List.length_append, List.length_cons, List.length_nil]
        omega
      · refine ⟨_, rfl, .inl ⟨rfl, _, .of e1⟩, _, rfl, _, rfl, (by show 2 ≤ sizeLine; decide), fun p hp => ?_⟩
        obtain ⟨a1, a2, a3⟩ := add s1 e1 pz hp ⟨b, m, rfl⟩
        refine ⟨l, _, _, rfl, rfl, a1, small, ?_⟩
        refine ⟨_, _, _, rfl, a2, upd_same, ?_, a3⟩
        simp only [List.length_append, List.length_cons, List.length_nil]
        omega
    · subst e
      exact ⟨_, rfl, k H1 l zs s1 e1 (by omega) pz⟩
theorem ok_places_ahead {f : Addr} {fd : FuncData} (F : Fun K "places_ahead" "places_ahead" s_places_ahead f fd) (B : Bl mg) : FnOk P w K mg base CX0 1 f fd ["places", "at"] (spAhead K) := by
  refine F.ok sc_places_ahead (fun vs H Q E h => ?_) (fun cdv A outer s H vs Q E hr h => ?_)
  · obtain ⟨l, zs, i, rfl, _⟩ := h
    rfl
  · obtain ⟨l, zs, i, rfl, hL, hP, l12, hi, k⟩ := h
    refine ⟨_, (pss_cons (ps_set (i := 2) sc_places_ahead.nd rfl (Or.inl rfl) (pe_lstB (pa_cons (pv 1) pa_nil)))
      (pss_cons (ps_while PassesOwn.never (PW.pt (pw_and (pt_cmpR op_lt (pv 1) (pe_callB call_len_seq (by rfl) B.len (by decide +kernel) (pa_cons (pv 0) pa_nil)) (nomark _)) (pw_and1 (pt_cmpR op_in_seq (pe_ix ix_tup (pe_ix ix_list (pv 0) (pv 1) (fun _ _ => rfl)) pe_int (fun _ _ => rfl)) (pe_tup (pa_cons pe_str (pa_cons pe_str pa_nil))) rfl))))
        (pss_cons (ps_set (i := 1) sc_places_ahead.nd rfl (Or.inl rfl) (pe_op op_add (pv 1) pe_int))
      (pss_one (ps_expr (pe_bm PySem.F.plainAttrs_list PySem.F.slot_list_append PySem.F.type_list_append mt_append (pv 2) (pa_cons (pv 1) pa_nil))))))
      (pss_one (ps_ret (pv 2))))), ?_⟩
    refine ⟨_, rfl, (by show 1 ≤ sizeLine; decide), fun a ha _ => ?_⟩
    refine ⟨fun m σ H1 => ∃ (j : Nat) (ns : List Nat), m = zs.length - j ∧ σ = [some (.ref l), some (nv j), some (.ref a)] ∧ j ≤ zs.length ∧ Same H H1 ∧ H1 a = some (.lst (ns.map nv)) ∧ ns.length ≤ j + 1 ∧ ∀ n ∈ ns, n ≤ zs.length, ⟨_, i, [i], rfl, rfl, hi, Kb.same_upd ha, upd_same, by simp, fun n m => by simp at m; omega⟩, ?_⟩
    rintro m σ H1 ⟨j, ns, rfl, rfl, hj, s1, e1, nl, hn⟩
    have fin : ∀ H2, Same H1 H2 → Q (.ref a) H2 := fun H2 s2 => k H2 a ns (Same.trans s1 s2) ha (s2 _ _ e1) (by omega) hn
    refine ⟨_, rfl, _, rfl, l, _, rfl, .inl (Same.seq s1 hL), _, _, rfl, rfl, _, rfl, ?_⟩
    by_cases c : j < zs.length
    · rw [decide_eq_true (by omega)]
      obtain ⟨z, hz⟩ : ∃ z, zs[j]? = some z := ⟨_, List.getElem?_eq_getElem c⟩
      obtain ⟨q, b, m, rfl, hq⟩ := (hP z (List.mem_of_getElem? hz)).same s1
      refine iteT ⟨_, rfl, _, rfl, l, _, _, _, rfl, rfl, Same.seq s1 hL, atI_nat hz, q, _, _, _, rfl, rfl, hq, atI_nat' (by decide) (by rfl), (by show 2 ≤ sizeLine; decide), fun t ht => ⟨t, _, rfl, .inr (.of upd_same), rfl, by rfl, _, rfl, ?_⟩⟩
      have S2 := Kb.same_upd (o := .tup [.str "?", .str "*"]) ht
      refine ite2 (fun _ => ?_) (fun _ => ?_)
      · refine ⟨fun σ' H' => ∃ (ns : List Nat), σ' = [some (.ref l), some (nv (j + 1)), some (.ref a)] ∧ Same H H' ∧ H' a = some (.lst (ns.map nv)) ∧ ns.length ≤ j + 2 ∧ ∀ n ∈ ns, n ≤ zs.length, fun σ' H' ⟨ns, e, b1, b2, b3, b4⟩ => ⟨zs.length - (j + 1), by omega, j + 1, ns, rfl, e, c, b1, b2, b3, b4⟩, ?_⟩
        have ej : V.int ((j : Int) + 1) = nv (j + 1) := rfl
        refine ⟨_, rfl, _, _, rfl, rfl, ?_⟩
        refine ⟨_, rfl, .inl ⟨rfl, _, .of (S2 _ _ e1)⟩, _, rfl, a, _, _, rfl, rfl, S2 _ _ e1, ?_, ?_⟩
        · rw [List.length_map]
          exact Nat.lt_of_le_of_lt (show ns.length ≤ 13 by omega) (by decide)
        · refine ⟨ns ++ [j + 1], rfl, fun b o e => ?_, ?_, by simp; omega, fun n hn' => ?_⟩
          · rw [upd_ne (ne_of_none e ha)]
            exact S2 _ _ (s1 _ _ e)
          · rw [upd_same, List.map_append]
            rfl
          · rcases List.mem_append.mp hn' with m | m
            · exact hn n m
            · simp at m
              omega
      · exact ⟨_, rfl, fin _ S2⟩
    · rw [decide_eq_false (by omega)]
      exact iteF ⟨_, rfl, fin _ (Same.refl _)⟩
end
end K1
set_option Elab.async false
set_option linter.all false
set_option maxRecDepth 100000
set_option maxHeartbeats 4000000
namespace K1
open PySem PySem.Spec PyProof.Rows L2 Kb Kc Kn
theorem call_len_seqK {X : Cx} {K : PySem.W.Frag} (h : X.K = K) : CallR X (.builtin "len") (fun xs H Q => ∃ p ys, xs = [.ref p] ∧ (SqL K H p ys ∨ SqT K H p ys) ∧ Q (.int ys.length) H) := h ▸ call_len_seq
abbrev s_form_rows : Stmt := top 10
theorem sc_form_rows : FnScope ["signs", "items", "first", "places", "ends", "moves", "at", "ahead", "row", "sign", "told", "place"] ["signs", "items", "first"] (defScope s_form_rows) := ⟨rfl, rfl, rfl, by decide +kernel, rfl, by decide +kernel, by decide +kernel⟩
def spFormRows (K : PySem.W.Frag) : Sp := fun vs H Q _ => ∃ (a t : Addr) (sg : List Str) (ys : List V) (n : Int), vs = [.ref a, .ref t, .int n] ∧ SqT K H a (sg.map V.str) ∧ SgOk sg ∧ SqT K H t ys ∧ Places K H ys ∧ ys.length ≤ 6 ∧
  ∀ H' p le lm es ms, Same H H' → H le = none → H lm = none → H' p = some (.tup [.ref le, .ref lm]) → H' le = some (.lst es) → H' lm = some (.lst ms) → es.length ≤ 13 → ms.length ≤ 13 → Q (.ref p) H'
section
variable {P : Program} {w : World} {K : PySem.W.Frag} {mg : Str → Option Value} {base : Heap}
theorem nat_flat (ns : List Nat) : (ns.map nv).all flatV = true := by
  rw [List.all_eq_true]
  intro x hx
  obtain ⟨s, _, rfl⟩ := List.mem_map.mp hx
  rfl
theorem ok_form_rows {f fspread fplaces_ahead : Addr} {fd fdspread fdplaces_ahead : FuncData} (F : Fun K "form_rows" "form_rows" s_form_rows f fd) (B : Bl mg)
    (Fspread : Fun K "spread" "spread" s_spread fspread fdspread) (bspread : Binds K fdspread ["items"] []) (gspread : mg "spread" = some (.ref fspread))
    (Fplaces_ahead : Fun K "places_ahead" "places_ahead" s_places_ahead fplaces_ahead fdplaces_ahead) (bplaces_ahead : Binds K fdplaces_ahead ["places", "at"] []) (gplaces_ahead : mg "places_ahead" = some (.ref fplaces_ahead)) :
    FnOk P w K mg base CX0 2 f fd ["signs", "items", "first"] (spFormRows K) := by
  have Gspread : FnOk P w K mg base CX0 1 fspread fdspread ["items"] (spSpread K) := ok_spread Fspread B
  have Gplaces_ahead : FnOk P w K mg base CX0 1 fplaces_ahead fdplaces_ahead ["places", "at"] (spAhead K) := ok_places_ahead Fplaces_ahead B
  refine F.ok sc_form_rows (fun vs H Q E h => ?_) (fun cdv A outer s H vs Q E hr h => ?_)
  · obtain ⟨a, t, sg, ys, n, rfl, _⟩ := h
    rfl
  · obtain ⟨a, t, sg, ys, n, rfl, hA, hsg, hT, hP, l6, k⟩ := h
    refine ⟨_, (pss_cons (ps_set (i := 3) sc_form_rows.nd rfl (Or.inr rfl) (pe_call Gspread hr (by rfl) gspread Fspread.kp bspread .nil pass0 (pa_cons (pv 1) pa_nil)))
      (pss_cons (ps_set (i := 4) sc_form_rows.nd rfl (Or.inl rfl) (pe_lstB pa_nil))
      (pss_cons (ps_set (i := 5) sc_form_rows.nd rfl (Or.inl rfl) (pe_lstB pa_nil))
      (pss_cons (ps_for PassesOwn.never rfl (pi_range1 rfl B.range (pa_cons (pe_op op_add (pe_callB call_len_seq (by rfl) B.len (by decide +kernel) (pa_cons (pv 3) pa_nil)) pe_int) pa_nil)) (pg_name (i := 6) sc_form_rows.nd rfl (Or.inl rfl))
        (pss_cons (ps_set (i := 7) sc_form_rows.nd rfl (Or.inl rfl) (pe_call Gplaces_ahead hr (by rfl) gplaces_ahead Fplaces_ahead.kp bplaces_ahead .nil pass0 (pa_cons (pv 3) (pa_cons (pv 6) pa_nil))))
      (pss_cons (ps_expr (pe_bm PySem.F.plainAttrs_list PySem.F.slot_list_append PySem.F.type_list_append mt_append (pv 4) (pa_cons (pe_cmpR op_in_seq (pe_callB call_len_seq (by rfl) B.len (by decide +kernel) (pa_cons (pv 3) pa_nil)) (pv 7) rfl) pa_nil)))
      (pss_cons (ps_set (i := 8) sc_form_rows.nd rfl (Or.inl rfl) (pe_lstB pa_nil))
      (pss_cons (ps_for PassesOwn.never rfl (pi_tup (pv 0)) (pg_name (i := 9) sc_form_rows.nd rfl (Or.inr rfl))
        (pss_cons (ps_setLc (i := 10) (own := [("place", 11)]) (g := gName 11) rfl sc_form_rows.nd rfl rfl (sw_true rfl rfl rfl (by decide +kernel)) (pi_list (pv 7)) (blkOk_by (own := [("place", 11)]) (N := ["signs", "items", "first", "places", "ends", "moves", "at", "ahead", "row", "sign", "told", "place"]) (sc := defScope s_form_rows) (by decide +kernel)) (fun _ _ _ _ _ => (pg_name (i := 11) sc_form_rows.nd rfl (Or.inl rfl))) (fun _ _ _ _ _ => (pts_one (PW.pt (pw_and (pt_cmpR op_lt (pv 11) (pe_callB (call_len_seqK (K := K) rfl) (by rfl) B.len (by decide +kernel) (pa_cons (pv 3) pa_nil)) (nomark _)) (pw_and1 (pt_cmpR op_in_sign (pv 9) (pe_ix (ix_tupK (K := K) rfl) (pe_ix (ix_listK (K := K) rfl) (pv 3) (pv 11) (fun _ _ => rfl)) pe_int (fun _ _ => rfl)) rfl)))))) (fun _ _ _ _ _ => (pv 11)))
      (pss_one (ps_expr (pe_bm PySem.F.plainAttrs_list PySem.F.slot_list_append PySem.F.type_list_append mt_append (pv 8) (pa_cons (pe_tupleOf (by rfl) B.tuple (pe_lc (own := [("place", 11)]) (g := gName 11) (tt := tYes) rfl sc_form_rows.nd (pi_list (pv 10)) (blkOk_by (own := [("place", 11)]) (N := ["signs", "items", "first", "places", "ends", "moves", "at", "ahead", "row", "sign", "told", "place"]) (sc := defScope s_form_rows) (by decide +kernel)) (fun _ _ _ _ _ => (pg_name (i := 11) sc_form_rows.nd rfl (Or.inl rfl))) (fun _ _ _ _ _ => pts_nil) (fun _ _ _ _ _ => (pe_op op_add_ib (pe_op op_add (pv 2) (pv 11)) (pe_cmpR op_ne (pe_ix (ix_tupK (K := K) rfl) (pe_ix (ix_listK (K := K) rfl) (pv 3) (pv 11) (fun _ _ => rfl)) pe_int (fun _ _ => rfl)) pe_str (nomark _)))))) pa_nil))))))
      (pss_one (ps_expr (pe_bm PySem.F.plainAttrs_list PySem.F.slot_list_append PySem.F.type_list_append mt_append (pv 5) (pa_cons (pe_tupleOf (by rfl) B.tuple (pv 8)) pa_nil)))))))))
      (pss_one (ps_ret (pe_tup (pa_cons (pv 4) (pa_cons (pv 5) pa_nil))))))))), ?_⟩
    refine ⟨_, rfl, t, ys, rfl, hT, hP, l6, fun H1 l zs s1 el l12 pz => ?_⟩
    refine ⟨(by show 0 ≤ sizeLine; decide), fun le hle _ => ?_⟩
    refine ⟨(by show 0 ≤ sizeLine; decide), fun lm hlm _ => ?_⟩
    have S2 : Same H1 (upd (upd H1 le (.lst [])) lm (.lst [])) := Same.trans (Kb.same_upd hle) (Kb.same_upd hlm)
    have ee : (upd (upd H1 le (.lst [])) lm (.lst [])) le = some (.lst []) := Kb.same_upd hlm _ _ upd_same
    have em : (upd (upd H1 le (.lst [])) lm (.lst [])) lm = some (.lst []) := upd_same
    have nlm : H1 lm = none := (Kb.same_upd hle).free hlm
    have dem : le ≠ lm := fun z => by rw [← z, upd_same] at hlm; cases hlm
    obtain ⟨J, qJ⟩ : ∃ z, z = upd (upd H1 le (.lst [])) lm (.lst []) := ⟨_, rfl⟩
    rw [← qJ] at S2 ee em ⊢
    have S0 : ∀ {H3 : Hp} {q : Addr} {o : HO}, Same H1 H3 → H1 q = none → Same H1 (upd H3 q o) := fun s n b o e => by
      rw [upd_ne (ne_of_none e n)]
      exact s b o e
    let G : Nat → Hp → Prop := fun i H3 => ∃ es ms, Same H1 H3 ∧ H3 le = some (.lst es) ∧ H3 lm = some (.lst ms) ∧ es.length ≤ i ∧ ms.length ≤ i
    refine ⟨_, rfl, l, _, rfl, .inl (.of (S2 _ _ el)), _, _, rfl, rfl, _, rfl, by omega, by omega, ?_⟩
    have en : ((zs.length : Int) + 1).toNat = zs.length + 1 := by omega
    rw [en]
    refine for_range (n := zs.length + 1) (fun i σ H3 => ∃ (v6 v7 v8 v9 v10 v11 : Option V), σ = [some (.ref a), some (.ref t), some (.int n), some (.ref l), some (.ref le), some (.ref lm), v6, v7, v8, v9, v10, v11] ∧ G i H3) ⟨none, none, none, none, none, none, rfl, [], [], S2, ee, em, Nat.le_refl _, Nat.le_refl _⟩ (fun i σ H3 hi ⟨v6, v7, v8, v9, v10, v11, e, es, ms, s3, e1, e2, l1, l2⟩ => ?_) fun σ H3 ⟨v6, v7, v8, v9, v10, v11, e, es, ms, s3, e1, e2, l1, l2⟩ => ?_
    · subst e
      rw [Int.zero_add]
      refine ⟨_, rfl, _, rfl, l, zs, i, rfl, .of (s3 _ _ el), pz.same s3, l12, by omega, fun H4 ah ns s34 nah ea n13 hns => ?_⟩
      have s4 := Same.trans s3 s34
      have e14 := s34 _ _ e1
      have e24 := s34 _ _ e2
      refine ⟨_, rfl, .inl ⟨rfl, _, .of e14⟩, _, rfl, l, _, rfl, .inl (.of (s4 _ _ el)), _, rfl, ah, _, rfl, .inl (.of ea), rfl, nat_flat ns, le, _, _, rfl, rfl, e14, Nat.lt_of_le_of_lt (show es.length ≤ 13 by omega) (by decide), ?_⟩
      generalize V.bl _ = bv
      have e15 : (upd H4 le (.lst (es ++ [bv]))) le = some (.lst (es ++ [bv])) := upd_same
      have e25 : (upd H4 le (.lst (es ++ [bv]))) lm = some (.lst ms) := by rw [upd_ne (Ne.symm dem)]; exact e24
      have s5 : Same H1 (upd H4 le (.lst (es ++ [bv]))) := S0 s4 hle
      have ea5 : (upd H4 le (.lst (es ++ [bv]))) ah = some (.lst (ns.map nv)) := by
        have : ah ≠ le := fun z => by rw [z, e1] at nah; cases nah
        rw [upd_ne this]
        exact ea
      obtain ⟨J5, qJ5⟩ : ∃ z, z = upd H4 le (.lst (es ++ [bv])) := ⟨_, rfl⟩
      rw [← qJ5] at e15 e25 s5 ea5 ⊢
      refine ⟨(by show 0 ≤ sizeLine; decide), fun rw_ hrw _ => ?_⟩
      have e16 := Kb.same_upd (o := .lst []) hrw _ _ e15
      have e26 := Kb.same_upd (o := .lst []) hrw _ _ e25
      have ea6 := Kb.same_upd (o := .lst []) hrw _ _ ea5
      have er6 : (upd J5 rw_ (.lst [])) rw_ = some (.lst []) := upd_same
      have s6 : Same H1 (upd J5 rw_ (.lst [])) := Same.trans s5 (Kb.same_upd hrw)
      have nrw : J5 rw_ = none := hrw
      obtain ⟨J6, qJ6⟩ : ∃ z, z = upd J5 rw_ (.lst []) := ⟨_, rfl⟩
      have s56 : Same J5 J6 := by rw [qJ6]; exact Kb.same_upd hrw
      rw [← qJ6] at e16 e26 ea6 er6 s6 ⊢
      have S5 : ∀ {H3 : Hp} {o : HO}, Same J5 H3 → Same J5 (upd H3 rw_ o) := fun s b o e => by
        rw [upd_ne (ne_of_none e nrw)]
        exact s b o e
      have hA1 : SqT K H1 a (sg.map V.str) := Kb.Same.seqT s1 hA
      refine ⟨_, rfl, a, rfl, ⟨_, Kb.Same.seqT s6 hA1⟩, ?_⟩
      refine for_it (walk_tup (xs := sg.map V.str)) (fun j σ H7 => ∃ (v9 v10 v11 : Option V) (rs : List V), σ = [some (.ref a), some (.ref t), some (.int n), some (.ref l), some (.ref le), some (.ref lm), some (nv i), some (.ref ah), some (.ref rw_), v9, v10, v11] ∧ Same J5 H7 ∧ H7 rw_ = some (.lst rs) ∧ rs.length ≤ j) ⟨v9, v10, v11, [], rfl, s56, er6, Nat.le_refl _⟩ (fun j σ H7 _ ⟨_, _, _, _, _, s, _⟩ => Kb.Same.seqT s (Kb.Same.seqT s5 hA1)) (fun j x σ H8 H7 hj ⟨v9, v10, v11, rs, e, s57, er, lr⟩ y => ?_) fun σ H7 ⟨v9, v10, v11, rs, e, s57, er, lr⟩ => ?_
      · subst e
        obtain ⟨rfl, hx⟩ := y
        rw [List.length_map] at hj
        obtain ⟨z, hz, rfl⟩ : ∃ z, sg[j]? = some z ∧ x = V.str z := by
          rw [List.getElem?_map] at hx
          cases e : sg[j]? with
          | none =>
            rw [e] at hx
            cases hx
          | some z =>
            rw [e] at hx
            exact ⟨z, rfl, (Option.some.inj hx).symm⟩
        obtain ⟨c, ec, _⟩ := sg_one z (hsg.2.2.2 z (List.mem_of_getElem? hz))
        -- told
        refine ⟨_, rfl, ah, rfl, ⟨_, .of (s57 _ _ ea5)⟩, fun D hD => lc_it (walk_list (xs := ns.map nv)) (fun q H9 => Same H7 H9 ∧ ∃ ts : List Nat, H9 D = some (.lst (ts.map nv)) ∧ ts.length ≤ q ∧ ∀ m ∈ ts, m < zs.length) ⟨Kb.same_upd hD, [], upd_same, Nat.le_refl _, fun m h => by simp at h⟩ (fun q H9 _ ⟨s, _⟩ => .of (s _ _ (s57 _ _ ea5))) (fun q x H10 H9 hq ⟨s79, ts, eD, lt, mt⟩ y => ?_) fun H9 ⟨s79, ts, eD, lt, mt⟩ => ?_⟩
        · obtain ⟨rfl, hx⟩ := y
          rw [List.getElem?_map] at hx
          obtain ⟨m, hm, rfl⟩ : ∃ m, m ∈ ns ∧ x = nv m := by
            cases e : ns[q]? with
            | none =>
              rw [e] at hx
              cases hx
            | some m =>
              rw [e] at hx
              exact ⟨m, List.mem_of_getElem? e, (Option.some.inj hx).symm⟩
          have sl := Same.trans s5 (Same.trans s57 s79)
          refine ⟨rfl, ?_⟩
          refine ⟨_, rfl, _, rfl, l, _, rfl, .inl (.of (sl _ _ el)), _, _, rfl, rfl, _, rfl, ?_⟩
          by_cases cm : m < zs.length
          · rw [decide_eq_true (by omega)]
            obtain ⟨u, hu⟩ : ∃ u, zs[m]? = some u := ⟨_, List.getElem?_eq_getElem cm⟩
            obtain ⟨tq, b, mk, rfl, hq2⟩ := (pz u (List.mem_of_getElem? hu)).same sl
            refine iteT ⟨_, rfl, _, rfl, _, rfl, l, _, _, _, rfl, rfl, .of (sl _ _ el), atI_nat hu, tq, _, _, _, rfl, rfl, hq2, atI_nat' (by decide) (by rfl), c, _, by rw [ec], rfl, _, rfl, ?_⟩
            refine ite2 (fun _ => ?_) (fun _ => ?_)
            · refine ⟨_, rfl, _, eD, ?_, fun b o e => ?_, ts ++ [m], ?_, ?_, fun m' h => ?_⟩
              · rw [List.length_map]
                rw [List.length_map] at hq
                exact Nat.lt_of_le_of_lt (show ts.length ≤ 13 by omega) (by decide)
              · rw [upd_ne (ne_of_none e hD)]
                exact s79 b o e
              · rw [upd_same, List.map_append]
                rfl
              · rw [List.length_append]
                exact Nat.succ_le_succ lt
              · rcases List.mem_append.mp h with h | h
                · exact mt m' h
                · simp at h
                  omega
            · exact ⟨s79, ts, eD, Nat.le_succ_of_le lt, mt⟩
          · rw [decide_eq_false (by omega)]
            exact iteF ⟨s79, ts, eD, Nat.le_succ_of_le lt, mt⟩
        · rw [List.length_map] at lt
          have s9 := Same.trans s57 s79
          have er9 := s79 _ _ er
          refine ⟨_, rfl, .inl ⟨rfl, _, .of er9⟩, _, rfl, D, rfl, ⟨_, .of eD⟩, fun D2 hD2 => lc_mapL (fun _ _ _ => True) (fun _ _ _ _ _ h => h) (Same.refl H9) hD2 (.of eD) (by rw [List.length_map]; exact Nat.lt_of_le_of_lt (show ts.length ≤ 13 by omega) (by decide)) (fun q x H10 G2 Q2 hq s910 _ _ k2 => ?_) (gname_mono 11) fun H10 us s910 hus lus _ => ?_⟩
          · rw [List.getElem?_map] at hq
            obtain ⟨m, hm, rfl⟩ : ∃ m, m ∈ ts ∧ x = nv m := by
              cases e : ts[q]? with
              | none =>
                rw [e] at hq
                cases hq
              | some m =>
                rw [e] at hq
                exact ⟨m, List.mem_of_getElem? e, (Option.some.inj hq).symm⟩
            have sl := Same.trans s5 (Same.trans s9 s910)
            obtain ⟨u, hu⟩ : ∃ u, zs[m]? = some u := ⟨_, List.getElem?_eq_getElem (mt m hm)⟩
            obtain ⟨tq, b, mk, rfl, hq2⟩ := (pz u (List.mem_of_getElem? hu)).same sl
            refine ⟨rfl, _, rfl, _, rfl, _, _, rfl, rfl, _, rfl, _, rfl, l, _, _, _, rfl, rfl, .of (sl _ _ el), atI_nat hu, tq, _, _, _, rfl, rfl, hq2, atI_nat' (by decide) (by rfl), rfl, _, _, rfl, rfl, k2 _ _ (Same.refl _) trivial⟩
          · refine .inl ⟨D2, us, rfl, .of hus, fun tq htq => ⟨rw_, rs, .ref tq, rfl, rfl, Kb.same_upd htq _ _ (s910 _ _ er9), ?_, ?_⟩⟩
            · have := hsg.2.1
              exact Nat.lt_of_le_of_lt (show rs.length ≤ 8 by omega) (by decide)
            · refine ⟨_, _, _, rs ++ [.ref tq], rfl, S5 (Same.trans s9 (Same.trans s910 (Kb.same_upd htq))), upd_same, ?_⟩
              rw [List.length_append]
              exact Nat.succ_le_succ lr
      · subst e
        have e17 := s57 _ _ e15
        have e27 := s57 _ _ e25
        refine ⟨_, rfl, .inl ⟨rfl, _, .of e27⟩, _, rfl, .inl ⟨rw_, rs, rfl, .of er, fun tq htq => ⟨lm, ms, .ref tq, rfl, rfl, Kb.same_upd htq _ _ e27, Nat.lt_of_le_of_lt (show ms.length ≤ 13 by omega) (by decide), ?_⟩⟩⟩
        refine ⟨_, _, _, _, _, _, rfl, es ++ [bv], ms ++ [.ref tq], S0 (Same.trans (Same.trans s5 s57) (Kb.same_upd htq)) nlm, ?_, upd_same, ?_, ?_⟩
        · rw [upd_ne dem]
          exact Kb.same_upd htq _ _ e17
        · rw [List.length_append]
          exact Nat.succ_le_succ l1
        · rw [List.length_append]
          exact Nat.succ_le_succ l2
    · subst e
      refine ⟨_, rfl, _, rfl, (by show 2 ≤ sizeLine; decide), fun p hp => ?_⟩
      have S := Kb.same_upd (o := .tup [.ref le, .ref lm]) hp
      exact k _ p le lm es ms (Same.trans s1 (Same.trans s3 S)) (s1.free hle) (s1.free nlm) upd_same (S _ _ e1) (S _ _ e2) (by omega) (by omega)
end
end K1
set_option Elab.async false
set_option linter.all false
set_option maxRecDepth 100000
set_option maxHeartbeats 4000000
namespace K1
open PySem PySem.Spec PyProof.Rows L2 Kb Kc Kn
abbrev s_Machine___init__ : Stmt := inClass (top 5) 0
theorem sc_Machine___init__ : FnScope ["self", "starts", "ends", "moves"] ["self", "starts", "ends", "moves"] (defScope s_Machine___init__) := ⟨rfl, rfl, rfl, by decide +kernel, rfl, by decide +kernel, by decide +kernel⟩
abbrev s_machine_of : Stmt := top 11
theorem sc_machine_of : FnScope ["signs", "forms", "starts", "ends", "moves", "items", "more_ends", "more_moves"] ["signs", "forms"] (defScope s_machine_of) := ⟨rfl, rfl, rfl, by decide +kernel, rfl, by decide +kernel, by decide +kernel⟩
abbrev s_free_machine : Stmt := top 12
theorem sc_free_machine : FnScope ["signs", "sign"] ["signs"] (defScope s_free_machine) := ⟨rfl, rfl, rfl, by decide +kernel, rfl, by decide +kernel, by decide +kernel⟩
structure MachT (K : PySem.W.Frag) (C : Addr) : Prop where
  cl : Cls K C
  n1 : NoAttr K C "starts"
  n2 : NoAttr K C "ends"
  n3 : NoAttr K C "moves"
theorem putF_len (f : Str) (v : V) : ∀ fs : List (Str × V), (putF f v fs).length ≤ fs.length + 1
  | [] => by simp [putF]
  | (g, u) :: r => by
    unfold putF
    split
    · simp
    · have := putF_len f v r
      simp only [List.length_cons]
      omega
/-- only the instance changes -/
def spMachInit (C : Addr) : Sp := fun vs H Q _ => ∃ (p dx : Addr) (x y z : V), vs = [.ref p, x, y, z] ∧ H p = some (.ins C dx []) ∧ ∀ H', (∀ b o, H b = some o → b ≠ p → H' b = some o) → Q .non H'
def spMachineOf (K : PySem.W.Frag) : Sp := fun vs H Q _ => ∃ (a t : Addr) (sg : List Str) (ys : List V), vs = [.ref a, .ref t] ∧ SqT K H a (sg.map V.str) ∧ SgOk sg ∧ SqT K H t ys ∧ (∀ y ∈ ys, isForm K H y) ∧ ys.length ≤ 2 ∧ ∀ H' m, Same H H' → Q (.ref m) H'
def spFree (K : PySem.W.Frag) : Sp := fun vs H Q _ => ∃ (a : Addr) (sg : List Str), vs = [.ref a] ∧ SqT K H a (sg.map V.str) ∧ SgOk sg ∧ ∀ H' m, Same H H' → Q (.ref m) H'
section
variable {P : Program} {w : World} {K : PySem.W.Frag} {mg : Str → Option Value} {base : Heap}
theorem ok_mach_init {f C : Addr} {fd : FuncData} (F : Fun K "__init__" "Machine.__init__" s_Machine___init__ f fd) (T : MachT K C) : FnOk P w K mg base CX0 1 f fd ["self", "starts", "ends", "moves"] (spMachInit C) := by
  refine F.ok sc_Machine___init__ (fun vs H Q E h => ?_) (fun cdv A outer s H vs Q E hr h => ?_)
  · obtain ⟨p, dx, x, y, z, rfl, _⟩ := h
    rfl
  · obtain ⟨p, dx, x, y, z, rfl, hp, k⟩ := h
    refine ⟨_, (pss_cons (ps_fld (pv 0) (pv 1) rfl)
      (pss_cons (ps_fld (pv 0) (pv 2) rfl)
      (pss_one (ps_fld (pv 0) (pv 3) rfl)))), ?_⟩
    refine ⟨_, rfl, _, rfl, p, C, dx, _, rfl, hp, T.cl, T.n1, (by show 0 < 1000; decide), _, rfl, _, rfl, p, C, dx, _, rfl, upd_same, T.cl, T.n2, ?_, _, rfl, _, rfl, p, C, dx, _, rfl, upd_same, T.cl, T.n3, ?_, ?_⟩
    · exact Nat.lt_of_le_of_lt (putF_len _ _ _) (by decide)
    · exact Nat.lt_of_le_of_lt (Nat.le_trans (putF_len _ _ _) (Nat.succ_le_succ (putF_len _ _ _))) (by decide)
    · refine k _ fun b o e nb => ?_
      rw [upd_ne nb, upd_ne nb, upd_ne nb]
      exact e
/-- an object made by such an __init__ -/
theorem made_same {H : Hp} {x dx C : Addr} (nx : H x = none) (ndx : H dx = none) : Same H (upd (upd H dx (.own x)) x (.ins C dx [])) := fun b o e => by
  rw [upd_ne (ne_of_none e nx), upd_ne (ne_of_none e ndx)]
  exact e
theorem ok_free_machine {f fMachine CMachine : Addr} {fd fdMachine : FuncData} (F : Fun K "free_machine" "free_machine" s_free_machine f fd) (B : Bl mg) (T : MachT K CMachine) (MMachine : Mk K CMachine fMachine) (gMachine : mg "Machine" = some (.ref CMachine))
    (FMachine : Fun K "__init__" "Machine.__init__" s_Machine___init__ fMachine fdMachine) (bMachine : Binds K fdMachine ["self", "starts", "ends", "moves"] []) : FnOk P w K mg base CX0 3 f fd ["signs"] (spFree K) := by
  have GMachine : FnOk P w K mg base CX0 1 fMachine fdMachine ["self", "starts", "ends", "moves"] (spMachInit CMachine) := ok_mach_init FMachine T
  refine F.ok sc_free_machine (fun vs H Q E h => ?_) (fun cdv A outer s H vs Q E hr h => ?_)
  · obtain ⟨a, sg, rfl, _⟩ := h
    rfl
  · obtain ⟨a, sg, rfl, hA, hsg, k⟩ := h
    refine ⟨_, (pss_one (ps_ret (pe_make MMachine GMachine hr (by rfl) gMachine bMachine .nil pass0 (pa_cons (pe_tup (pa_cons pe_int pa_nil)) (pa_cons (pe_tup (pa_cons pe_bl pa_nil)) (pa_cons (pe_tup (pa_cons (pe_tupleOf (by rfl) B.tuple (pe_lc (own := [("sign", 1)]) (g := gName 1) (tt := tYes) rfl sc_free_machine.nd (pi_tup (pv 0)) (blkOk_by (own := [("sign", 1)]) (N := ["signs", "sign"]) (sc := defScope s_free_machine) (by decide +kernel)) (fun _ _ _ _ _ => (pg_name (i := 1) sc_free_machine.nd rfl (Or.inl rfl))) (fun _ _ _ _ _ => pts_nil) (fun _ _ _ _ _ => (pe_tup (pa_cons pe_int pa_nil))))) pa_nil)) pa_nil)))))), ?_⟩
    refine ⟨(by show 1 ≤ sizeLine; decide), fun t1 h1 => ⟨(by show 1 ≤ sizeLine; decide), fun t2 h2 => ?_⟩⟩
    have S2 : Same H (upd (upd H t1 (.tup [.int 0])) t2 (.tup [.bl true])) := Same.trans (Kb.same_upd h1) (Kb.same_upd h2)
    obtain ⟨J, qJ⟩ : ∃ z, z = upd (upd H t1 (.tup [.int 0])) t2 (.tup [.bl true]) := ⟨_, rfl⟩
    rw [← qJ] at S2 ⊢
    refine ⟨_, rfl, a, rfl, ⟨_, Kb.Same.seqT S2 hA⟩, fun D hD => lc_mapT (fun _ _ _ => True) (fun _ _ _ _ _ h => h) (Same.refl J) hD (Kb.Same.seqT S2 hA) (by rw [List.length_map]; exact Nat.lt_of_le_of_lt hsg.2.1 (by decide)) (fun j x H2 G2 Q2 hj s12 _ _ k2 => ?_) (gname_mono 1) fun H3 us s3 hus lus _ => ?_⟩
    · exact ⟨rfl, (by show 1 ≤ sizeLine; decide), fun t3 h3 => k2 _ _ (Kb.same_upd h3) trivial⟩
    · refine .inl ⟨D, us, rfl, .of hus, fun t4 h4 => ⟨(by show 1 ≤ sizeLine; decide), fun t5 h5 x dx nx ndx nex => ⟨x, dx, _, _, _, rfl, upd_same, fun H' hk => ⟨rfl, ?_⟩⟩⟩⟩
      have S5 := Same.trans S2 (Same.trans s3 (Same.trans (Kb.same_upd (o := .tup us) h4) (Kb.same_upd (o := .tup [.ref t4]) h5)))
      exact k H' x fun b o e => hk b o (made_same nx ndx _ _ (S5 _ _ e)) (ne_of_none (S5 _ _ e) nx)
theorem ok_machine_of {f fMachine CMachine fform_rows : Addr} {fd fdMachine fdform_rows : FuncData} (F : Fun K "machine_of" "machine_of" s_machine_of f fd) (B : Bl mg) (T : MachT K CMachine) (MMachine : Mk K CMachine fMachine) (gMachine : mg "Machine" = some (.ref CMachine))
    (FMachine : Fun K "__init__" "Machine.__init__" s_Machine___init__ fMachine fdMachine) (bMachine : Binds K fdMachine ["self", "starts", "ends", "moves"] [])
    (Fform_rows : Fun K "form_rows" "form_rows" s_form_rows fform_rows fdform_rows) (bform_rows : Binds K fdform_rows ["signs", "items", "first"] []) (gform_rows : mg "form_rows" = some (.ref fform_rows)) (Gform_rows : FnOk P w K mg base CX0 2 fform_rows fdform_rows ["signs", "items", "first"] (spFormRows K)) :
    FnOk P w K mg base CX0 3 f fd ["signs", "forms"] (spMachineOf K) := by
  have GMachine : FnOk P w K mg base CX0 1 fMachine fdMachine ["self", "starts", "ends", "moves"] (spMachInit CMachine) := ok_mach_init FMachine T
  refine F.ok sc_machine_of (fun vs H Q E h => ?_) (fun cdv A outer s H vs Q E hr h => ?_)
  · obtain ⟨a, t, sg, ys, rfl, _⟩ := h
    rfl
  · obtain ⟨a, t, sg, ys, rfl, hA, hsg, hT, hF, l2, k⟩ := h
    refine ⟨_, (pss_cons (ps_set (i := 2) sc_machine_of.nd rfl (Or.inl rfl) (pe_lstB pa_nil))
      (pss_cons (ps_set (i := 3) sc_machine_of.nd rfl (Or.inl rfl) (pe_lstB pa_nil))
      (pss_cons (ps_set (i := 4) sc_machine_of.nd rfl (Or.inl rfl) (pe_lstB pa_nil))
      (pss_cons (ps_for PassesOwn.never rfl (pi_tup (pv 1)) (pg_name (i := 5) sc_machine_of.nd rfl (Or.inl rfl))
        (pss_cons (ps_expr (pe_bm PySem.F.plainAttrs_list PySem.F.slot_list_append PySem.F.type_list_append mt_append (pv 2) (pa_cons (pe_callB call_len_seq (by rfl) B.len (by decide +kernel) (pa_cons (pv 3) pa_nil)) pa_nil)))
      (pss_cons (ps_asg (pe_call Gform_rows hr (by rfl) gform_rows Fform_rows.kp bform_rows .nil pass0 (pa_cons (pv 0) (pa_cons (pv 5) (pa_cons (pe_callB call_len_seq (by rfl) B.len (by decide +kernel) (pa_cons (pv 3) pa_nil)) pa_nil)))) (pg_tup rfl (pgs_cons (pg_name (i := 6) sc_machine_of.nd rfl (Or.inl rfl)) (pgs_cons (pg_name (i := 7) sc_machine_of.nd rfl (Or.inl rfl)) pgs_nil))))
      (pss_cons (ps_expr (pe_bm PySem.F.plainAttrs_list PySem.F.slot_list_extend PySem.F.type_list_extend mt_extend (pv 3) (pa_cons (pv 6) pa_nil)))
      (pss_one (ps_expr (pe_bm PySem.F.plainAttrs_list PySem.F.slot_list_extend PySem.F.type_list_extend mt_extend (pv 4) (pa_cons (pv 7) pa_nil))))))))
      (pss_one (ps_ret (pe_make MMachine GMachine hr (by rfl) gMachine bMachine .nil pass0 (pa_cons (pe_tupleOf (by rfl) B.tuple (pv 2)) (pa_cons (pe_tupleOf (by rfl) B.tuple (pv 3)) (pa_cons (pe_tupleOf (by rfl) B.tuple (pv 4)) pa_nil)))))))))), ?_⟩
    refine ⟨(by show 0 ≤ sizeLine; decide), fun ls hls _ => ⟨(by show 0 ≤ sizeLine; decide), fun le hle _ => ⟨(by show 0 ≤ sizeLine; decide), fun lm hlm _ => ?_⟩⟩⟩
    have e1 : (upd (upd (upd H ls (.lst [])) le (.lst [])) lm (.lst [])) ls = some (.lst []) := Kb.same_upd hlm _ _ (Kb.same_upd hle _ _ upd_same)
    have e2 : (upd (upd (upd H ls (.lst [])) le (.lst [])) lm (.lst [])) le = some (.lst []) := Kb.same_upd hlm _ _ upd_same
    have e3 : (upd (upd (upd H ls (.lst [])) le (.lst [])) lm (.lst [])) lm = some (.lst []) := upd_same
    have S : Same H (upd (upd (upd H ls (.lst [])) le (.lst [])) lm (.lst [])) := Same.trans (Kb.same_upd hls) (Same.trans (Kb.same_upd hle) (Kb.same_upd hlm))
    have nle : H le = none := (Kb.same_upd hls).free hle
    have nlm : H lm = none := (Same.trans (Kb.same_upd hls) (Kb.same_upd hle)).free hlm
    have d1 : ls ≠ le := fun z => by rw [← z, upd_same] at hle; cases hle
    have d2 : le ≠ lm := fun z => by rw [← z, upd_same] at hlm; cases hlm
    have d3 : ls ≠ lm := fun z => by rw [← z, Kb.same_upd hle _ _ upd_same] at hlm; cases hlm
    obtain ⟨J, qJ⟩ : ∃ z, z = upd (upd (upd H ls (.lst [])) le (.lst [])) lm (.lst []) := ⟨_, rfl⟩
    rw [← qJ] at e1 e2 e3 S ⊢
    have S0 : ∀ {H3 : Hp} {q : Addr} {o : HO}, Same H H3 → H q = none → Same H (upd H3 q o) := fun s n b o e => by
      rw [upd_ne (ne_of_none e n)]
      exact s b o e
    refine ⟨_, rfl, t, rfl, ⟨_, Kb.Same.seqT S hT⟩, for_it (walk_tup (xs := ys)) (fun i σ H1 => ∃ (v5 v6 v7 : Option V) (xs es ms : List V), σ = [some (.ref a), some (.ref t), some (.ref ls), some (.ref le), some (.ref lm), v5, v6, v7] ∧ Same H H1 ∧ H1 ls = some (.lst xs) ∧ H1 le = some (.lst es) ∧ H1 lm = some (.lst ms) ∧ xs.length ≤ i ∧ es.length ≤ 13 * i ∧ ms.length ≤ 13 * i) ⟨none, none, none, [], [], [], rfl, S, e1, e2, e3, Nat.le_refl _, Nat.le_refl _, Nat.le_refl _⟩ (fun i σ H1 _ ⟨_, _, _, _, _, _, _, s, _⟩ => Kb.Same.seqT s hT) (fun i x σ H2 H1 hi ⟨v5, v6, v7, xs, es, ms, e, s1, e1, e2, e3, l1, le1, lm1⟩ y => ?_) fun σ H1 ⟨v5, v6, v7, xs, es, ms, e, s1, e1, e2, e3, l1, le1, lm1⟩ => ?_⟩
    · subst e
      obtain ⟨rfl, hx⟩ := y
      obtain ⟨tq, zs, rfl, hq, l6, hit⟩ := (hF x (List.mem_of_getElem? hx)).same s1
      refine ⟨_, rfl, .inl ⟨rfl, _, .of e1⟩, _, rfl, le, _, rfl, .inl (.of e2), ls, _, _, rfl, rfl, e1, Nat.lt_of_le_of_lt (show xs.length ≤ 2 by omega) (by decide), ?_⟩
      have s2 : Same H (upd H1 ls (.lst (xs ++ [.int (es.length : Nat)]))) := S0 s1 hls
      have f1 : (upd H1 ls (.lst (xs ++ [.int (es.length : Nat)]))) ls = some (.lst (xs ++ [.int (es.length : Nat)])) := upd_same
      have f2 : (upd H1 ls (.lst (xs ++ [.int (es.length : Nat)]))) le = some (.lst es) := by rw [upd_ne (Ne.symm d1)]; exact e2
      have f3 : (upd H1 ls (.lst (xs ++ [.int (es.length : Nat)]))) lm = some (.lst ms) := by rw [upd_ne (Ne.symm d3)]; exact e3
      have hF2 := (hF _ (List.mem_of_getElem? hx)).same s2
      obtain ⟨J2, qJ2⟩ : ∃ z, z = upd H1 ls (.lst (xs ++ [.int (es.length : Nat)])) := ⟨_, rfl⟩
      rw [← qJ2] at s2 f1 f2 f3 hF2 ⊢
      obtain ⟨tq', zs, eq, hq, l6, hit⟩ := hF2
      cases eq
      refine ⟨_, rfl, _, rfl, _, rfl, le, _, rfl, .inl (.of f2), a, tq, sg, zs, _, rfl, Kb.Same.seqT s2 hA, hsg, hq, hit, l6, fun H4 p l4 m4 es4 ms4 s24 z1 z2 ep e4 em4 n4 nm4 => ?_⟩
      refine ⟨p, _, rfl, .of ep, rfl, _, _, rfl, _, _, rfl, rfl, ?_⟩
      have n26 : es.length + es4.length ≤ sizeLine := Nat.le_trans (show _ ≤ 26 + 13 by omega) (by decide)
      have m26 : ms.length + ms4.length ≤ sizeLine := Nat.le_trans (show _ ≤ 26 + 13 by omega) (by decide)
      refine ⟨_, rfl, .inl ⟨rfl, _, .of (s24 _ _ f2)⟩, _, rfl, le, l4, _, _, rfl, rfl, s24 _ _ f2, e4, n26, ?_⟩
      have s5 : Same H (upd H4 le (.lst (es ++ es4))) := S0 (Same.trans s2 s24) nle
      have g1 : (upd H4 le (.lst (es ++ es4))) ls = some (.lst (xs ++ [.int (es.length : Nat)])) := by rw [upd_ne d1]; exact s24 _ _ f1
      have g3 : (upd H4 le (.lst (es ++ es4))) lm = some (.lst ms) := by rw [upd_ne (Ne.symm d2)]; exact s24 _ _ f3
      have nm : m4 ≠ le := fun z => by rw [z, f2] at z2; cases z2
      have g4 : (upd H4 le (.lst (es ++ es4))) m4 = some (.lst ms4) := by rw [upd_ne nm]; exact em4
      refine ⟨_, rfl, .inl ⟨rfl, _, .of g3⟩, _, rfl, lm, m4, _, _, rfl, rfl, g3, g4, m26, ?_⟩
      refine ⟨_, _, _, _, _, _, rfl, S0 s5 nlm, by rw [upd_ne d3]; exact g1, by rw [upd_ne d2]; exact upd_same, upd_same, ?_, ?_, ?_⟩
      · rw [List.length_append]
        exact Nat.succ_le_succ l1
      · rw [List.length_append]
        omega
      · rw [List.length_append]
        omega
    · subst e
      refine ⟨_, rfl, .inl ⟨ls, xs, rfl, .of e1, fun t1 h1 => ?_⟩⟩
      have S1 := Kb.same_upd (o := .tup xs) h1
      refine ⟨_, rfl, .inl ⟨le, es, rfl, .of (S1 _ _ e2), fun t2 h2 => ?_⟩⟩
      have S2 := Kb.same_upd (o := .tup es) h2
      refine ⟨_, rfl, .inl ⟨lm, ms, rfl, .of (S2 _ _ (S1 _ _ e3)), fun t3 h3 x dx nx ndx nex => ⟨x, dx, _, _, _, rfl, upd_same, fun H' hk => ⟨rfl, ?_⟩⟩⟩⟩
      have S5 := Same.trans s1 (Same.trans S1 (Same.trans S2 (Kb.same_upd (o := .tup ms) h3)))
      exact k H' x fun b o e => hk b o (made_same nx ndx _ _ (S5 _ _ e)) (ne_of_none (S5 _ _ e) nx)
end
end K1
set_option Elab.async false
set_option linter.all false
set_option maxRecDepth 100000
set_option maxHeartbeats 4000000
namespace K1
open PySem PySem.Spec PyProof.Rows L2 Kb Kc Kn
abbrev s_House___init__ : Stmt := inClass (top 49) 0
theorem sc_House___init__ : FnScope ["self", "text", "signs", "forms", "rules", "rule", "word", "classes", "facts"] ["self", "text"] (defScope s_House___init__) := ⟨rfl, rfl, rfl, by decide +kernel, rfl, by decide +kernel, by decide +kernel⟩
structure HouseT (K : PySem.W.Frag) (C : Addr) : Prop where
  cl : Cls K C
  n1 : NoAttr K C "text"
  n2 : NoAttr K C "signs"
  n3 : NoAttr K C "rules"
  n4 : NoAttr K C "is_full"
  n5 : NoAttr K C "machine"
  n6 : NoAttr K C "_passes"
def Ps.isKnown : Ps → Bool
  | .known _ _ => true
  | _ => false
def Lore.full (L : Lore) : Bool := L.rs.all fun r => r.2.all fun p => !p.isKnown
def hf6 (t s r b m d : V) : List (Str × V) := [("text", t), ("signs", s), ("rules", r), ("is_full", b), ("machine", m), ("_passes", d)]
theorem put_ne {f g : Str} {u v : V} {fs : List (Str × V)} (h : ¬ g = f) : putF f v ((g, u) :: fs) = (g, u) :: putF f v fs := by
  show (if g = f then _ else _) = _
  rw [if_neg h]
theorem look_ne {f g : Str} {u : V} {fs : List (Str × V)} (h : ¬ f = g) : ((g, u) :: fs).lookup f = fs.lookup f := by
  have : (f == g) = false := by simpa using h
  rw [List.lookup_cons, this]
theorem look_eq {f : Str} {u : V} {fs : List (Str × V)} : ((f, u) :: fs).lookup f = some u := by
  rw [List.lookup_cons]
  simp
def hf1 (t : V) : List (Str × V) := [("text", t)]
def hf2 (t s : V) : List (Str × V) := [("text", t), ("signs", s)]
def hf3 (t s r : V) : List (Str × V) := [("text", t), ("signs", s), ("rules", r)]
def hf4 (t s r b : V) : List (Str × V) := [("text", t), ("signs", s), ("rules", r), ("is_full", b)]
def hf5 (t s r b m : V) : List (Str × V) := [("text", t), ("signs", s), ("rules", r), ("is_full", b), ("machine", m)]
theorem ht1 {t s : V} : putF "signs" s (hf1 t) = hf2 t s := by
  unfold hf1 hf2
  rw [put_ne (by decide +kernel)]
  rfl
theorem ht2 {t s r : V} : putF "rules" r (hf2 t s) = hf3 t s r := by
  unfold hf2 hf3
  rw [put_ne (by decide +kernel), put_ne (by decide +kernel)]
  rfl
theorem ht3 {t s r b : V} : putF "is_full" b (hf3 t s r) = hf4 t s r b := by
  unfold hf3 hf4
  rw [put_ne (by decide +kernel), put_ne (by decide +kernel), put_ne (by decide +kernel)]
  rfl
theorem ht4 {t s r b m : V} : putF "machine" m (hf4 t s r b) = hf5 t s r b m := by
  unfold hf4 hf5
  rw [put_ne (by decide +kernel), put_ne (by decide +kernel), put_ne (by decide +kernel), put_ne (by decide +kernel)]
  rfl
theorem ht5 {t s r b m d : V} : putF "_passes" d (hf5 t s r b m) = hf6 t s r b m d := by
  unfold hf5 hf6
  rw [put_ne (by decide +kernel), put_ne (by decide +kernel), put_ne (by decide +kernel), put_ne (by decide +kernel), put_ne (by decide +kernel)]
  rfl
section
variable {t s r b m d : V}
theorem hf_text : (hf6 t s r b m d).lookup ("text" : Str) = some t := look_eq
theorem hf_signs : (hf6 t s r b m d).lookup ("signs" : Str) = some s := by
  unfold hf6
  rw [look_ne (by decide +kernel), look_eq]
theorem hf_rules : (hf6 t s r b m d).lookup ("rules" : Str) = some r := by
  unfold hf6
  rw [look_ne (by decide +kernel), look_ne (by decide +kernel), look_eq]
theorem hf_full : (hf6 t s r b m d).lookup ("is_full" : Str) = some b := by
  unfold hf6
  rw [look_ne (by decide +kernel), look_ne (by decide +kernel), look_ne (by decide +kernel), look_eq]
theorem hf_machine : (hf6 t s r b m d).lookup ("machine" : Str) = some m := by
  unfold hf6
  rw [look_ne (by decide +kernel), look_ne (by decide +kernel), look_ne (by decide +kernel), look_ne (by decide +kernel), look_eq]
theorem hf_passes : (hf6 t s r b m d).lookup ("_passes" : Str) = some d := by
  unfold hf6
  rw [look_ne (by decide +kernel), look_ne (by decide +kernel), look_ne (by decide +kernel), look_ne (by decide +kernel), look_ne (by decide +kernel), look_eq]
end
theorem nw_sub {H H' : Hp} : Same (Nw H H') H' := fun b o e => by
  by_cases h : H b = none
  · exact (if_pos h).symm.trans e
  · have z := (if_neg h).symm.trans e
    cases z
theorem nw_upd {H H' : Hp} {p : Addr} {o : HO} (h : H p ≠ none) : Same (Nw H H') (Nw H (upd H' p o)) := fun b u e => by
  by_cases hb : H b = none
  · have nb : b ≠ p := fun z => h (by rw [← z]; exact hb)
    refine nw_mk hb ?_
    rw [upd_ne nb]
    exact (if_pos hb).symm.trans e
  · have z := (if_neg hb).symm.trans e
    cases z
/-- what stands behind a house's fields, in a part G of the heap -/
structure HouseIn (K : PySem.W.Frag) (G : Hp) (L : Lore) (a tr d : Addr) : Prop where
  sg : SgT G a L.sg
  rs : SqT K G tr (L.rs.map fun r => V.str r.1)
  ps : ∃ kvs, G d = some (.dK kvs) ∧ RulesAt K G L.rs kvs
theorem HouseIn.same {K : PySem.W.Frag} {G G' : Hp} {L : Lore} {a tr d : Addr} (s : Same G G') (h : HouseIn K G L a tr d) : HouseIn K G' L a tr d := by
  obtain ⟨h1, h2, kvs, h3, h4⟩ := h
  exact ⟨h1.same s, Kb.Same.seqT s h2, kvs, s _ _ h3, h4.same s⟩
theorem rules_keys {K : PySem.W.Frag} {H : Hp} {rs : List Rule} {kvs : List (Key × V)} (h : RulesAt K H rs kvs) : kvs.map (·.1) = rs.map fun r => (Sum.inr r.1 : Key) := by
  refine List.ext_getElem? fun i => ?_
  rw [List.getElem?_map, List.getElem?_map]
  by_cases lt : i < kvs.length
  · have lt2 : i < rs.length := by rw [← h.1]; exact lt
    rw [List.getElem?_eq_getElem lt, List.getElem?_eq_getElem lt2]
    exact congrArg some (h.2 i _ _ (List.getElem?_eq_getElem lt) (List.getElem?_eq_getElem lt2)).1
  · rw [List.getElem?_eq_none (by omega), List.getElem?_eq_none (by rw [← h.1]; omega)]
    rfl
theorem valV_at : ∀ {kvs : List (Key × V)} {i : Nat} {kv : Key × V}, (kvs.map (·.1)).Nodup → kvs[i]? = some kv → valV kvs kv.1 = some kv.2
  | [], _, _, _, h => by simp at h
  | x :: r, 0, kv, _, h => by
    have e : x = kv := Option.some.inj h
    subst e
    simp [valV]
  | x :: r, i + 1, kv, nd, h => by
    have h' : r[i]? = some kv := by simpa using h
    rw [List.map_cons, List.nodup_cons] at nd
    have ne : ¬ x.1 = kv.1 := fun z => nd.1 (by rw [z]; exact List.mem_map.mpr ⟨kv, List.mem_of_getElem? h', rfl⟩)
    have ih := valV_at nd.2 h'
    unfold valV at ih ⊢
    rw [List.find?_cons, decide_eq_false ne]
    exact ih
theorem nodup_inr : ∀ {rs : List Rule}, (rs.map (·.1)).Nodup → (rs.map fun r => (Sum.inr r.1 : Key)).Nodup
  | [], _ => List.nodup_nil
  | r :: t, h => by
    rw [List.map_cons, List.nodup_cons] at h ⊢
    refine ⟨fun m => h.1 ?_, nodup_inr h.2⟩
    obtain ⟨q, hq, e⟩ := List.mem_map.mp m
    have : q.1 = r.1 := by injection e
    exact List.mem_map.mpr ⟨q, hq, this⟩
theorem pass_last {K : PySem.W.Frag} {H : Hp} {p : Ps} {y : V} (h : isPass K H p y) : ∃ (t : Addr) (x1 x2 x3 : V), y = .ref t ∧ SqT K H t [x1, x2, x3] ∧ decide (x3 = .non) = !p.isKnown := by
  cases p with
  | length =>
    obtain ⟨t, e, q⟩ := h
    exact ⟨t, _, _, _, e, q, rfl⟩
  | known w xs =>
    obtain ⟨t, tf, ys, e, q, _⟩ := h
    exact ⟨t, _, _, _, e, q, decide_eq_false (by intro z; cases z)⟩
  | cls w rows =>
    obtain ⟨t, tf, ys, e, q, _⟩ := h
    exact ⟨t, _, _, _, e, q, rfl⟩
def fullB (rs : List Rule) : List Bool := rs.flatMap fun r => r.2.map fun p => !p.isKnown
theorem full_all (L : Lore) : (fullB L.rs).all id = L.full := by
  unfold fullB Lore.full
  rw [List.all_flatMap]
  congr 1
  funext r
  rw [List.all_map]
  rfl
def spHouseInit (K : PySem.W.Frag) (C : Addr) : Sp := fun vs H Q _ => ∃ (p dx : Addr) (L : Lore), vs = [.ref p, .str L.text] ∧ L.Ok ∧ H p = some (.ins C dx []) ∧
  ∀ H' a tr d m, (∀ b o, H b = some o → b ≠ p → H' b = some o) → H' p = some (.ins C dx (hf6 (.str L.text) (.ref a) (.ref tr) (.bl L.full) m (.ref d))) → HouseIn K (Nw H H') L a tr d → Q .non H'
section
variable {P : Program} {w : World} {K : PySem.W.Frag} {mg : Str → Option Value} {base : Heap}
theorem ok_house_init {f C fread_house fmachine_of ffree_machine : Addr} {fd fdread_house fdmachine_of fdfree_machine : FuncData} (F : Fun K "__init__" "House.__init__" s_House___init__ f fd) (B : Bl mg) (T : HouseT K C)
    (Fread_house : Fun K "read_house" "read_house" s_read_house fread_house fdread_house) (bread_house : Binds K fdread_house ["text"] []) (gread_house : mg "read_house" = some (.ref fread_house)) (Gread_house : FnOk P w K mg base CX0 9 fread_house fdread_house ["text"] (spReadHouse K))
    (Fmachine_of : Fun K "machine_of" "machine_of" s_machine_of fmachine_of fdmachine_of) (bmachine_of : Binds K fdmachine_of ["signs", "forms"] []) (gmachine_of : mg "machine_of" = some (.ref fmachine_of)) (Gmachine_of : FnOk P w K mg base CX0 3 fmachine_of fdmachine_of ["signs", "forms"] (spMachineOf K))
    (Ffree_machine : Fun K "free_machine" "free_machine" s_free_machine ffree_machine fdfree_machine) (bfree_machine : Binds K fdfree_machine ["signs"] []) (gfree_machine : mg "free_machine" = some (.ref ffree_machine)) (Gfree_machine : FnOk P w K mg base CX0 3 ffree_machine fdfree_machine ["signs"] (spFree K)) :
    FnOk P w K mg base CX0 10 f fd ["self", "text"] (spHouseInit K C) := by
  refine F.ok sc_House___init__ (fun vs H Q E h => ?_) (fun cdv A outer s H vs Q E hr h => ?_)
  · obtain ⟨p, dx, L, rfl, _⟩ := h
    rfl
  · obtain ⟨p, dx, L, rfl, hok, hp, k⟩ := h
    refine ⟨_, (pss_cons (ps_asg (pe_call Gread_house hr (by rfl) gread_house Fread_house.kp bread_house .nil pass0 (pa_cons (pv 1) pa_nil)) (pg_tup rfl (pgs_cons (pg_name (i := 2) sc_House___init__.nd rfl (Or.inl rfl)) (pgs_cons (pg_name (i := 3) sc_House___init__.nd rfl (Or.inl rfl)) (pgs_cons (pg_name (i := 4) sc_House___init__.nd rfl (Or.inr rfl)) pgs_nil)))))
      (pss_cons (ps_fld (pv 0) (pv 1) rfl)
      (pss_cons (ps_fld (pv 0) (pv 2) rfl)
      (pss_cons (ps_fld (pv 0) (pe_callTy (call_tuple_dK rfl) (by rfl) B.tuple (by decide +kernel) (pa_cons (pv 4) pa_nil)) rfl)
      (pss_cons (ps_fld (pv 0) (pe_callB (cr_all rfl) (by rfl) B.all (by decide +kernel) (pa_cons (pe_lock (pe_lc2 (own := [("rule", 5), ("word", 6), ("classes", 7), ("facts", 8)]) (vs1 := [6, 7, 8]) (g := gName 5) (tt := tYes) (tt1 := tYes) rfl sc_House___init__.nd (pi_keys (pv 4)) (blkOk_by (own := [("rule", 5), ("word", 6), ("classes", 7), ("facts", 8)]) (N := ["self", "text", "signs", "forms", "rules", "rule", "word", "classes", "facts"]) (sc := defScope s_House___init__) (by decide +kernel)) (by decide) (fun _ _ _ _ _ => (pg_name (i := 5) sc_House___init__.nd rfl (Or.inl rfl))) (fun _ _ _ _ _ => pts_nil) (fun _ _ _ _ _ => (pi_tupK (K := K) rfl (pe_dget (hu_of hr) (pv 4) (pv 5) (fun _ _ => rfl)))) (fun _ _ _ _ _ => (pg_tupK (K := K) (n := 3) rfl rfl (pgs_cons (pg_name (i := 6) sc_House___init__.nd rfl (Or.inl rfl)) (pgs_cons (pg_name (i := 7) sc_House___init__.nd rfl (Or.inl rfl)) (pgs_cons (pg_name (i := 8) sc_House___init__.nd rfl (Or.inl rfl)) pgs_nil))))) (fun _ _ _ _ _ => pts_nil) (fun _ _ _ _ _ => (pe_cmp (pc_isN (pv 8)) rfl)))) pa_nil)) rfl)
      (pss_cons (ps_fld (pv 0) (pe_ifExp (pt_truth (pv 3) (by intro _; rfl)) (pe_call Gmachine_of (hr.mono (by decide)) (by rfl) gmachine_of Fmachine_of.kp bmachine_of .nil pass0 (pa_cons (pv 2) (pa_cons (pv 3) pa_nil))) (pe_call Gfree_machine (hr.mono (by decide)) (by rfl) gfree_machine Ffree_machine.kp bfree_machine .nil pass0 (pa_cons (pv 2) pa_nil))) rfl)
      (pss_one (ps_fld (pv 0) (pv 4) rfl)))))))), ?_⟩
    refine ⟨_, rfl, L, rfl, hok, fun H1 t a tf d fys kvs s1 nt et na ea ntf etf lf hfm nd ed ra => ?_⟩
    refine ⟨t, _, rfl, .of et, rfl, _, _, rfl, _, _, rfl, _, _, rfl, rfl, ?_⟩
    have npn : H p ≠ none := by rw [hp]; simp
    -- what is new and what was there, while self changes
    let G : List (Str × V) → Hp → Prop := fun fs H2 => (∀ b o, H b = some o → b ≠ p → H2 b = some o) ∧ H2 p = some (.ins C dx fs) ∧ Same (Nw H H1) (Nw H H2)
    have g0 : G [] H1 := ⟨fun b o e _ => s1 _ _ e, s1 _ _ hp, Same.refl _⟩
    have gU : ∀ {fs fs' : List (Str × V)} {H2 : Hp}, G fs H2 → G fs' (upd H2 p (.ins C dx fs')) := fun {fs fs' H2} ⟨h1, h2, h3⟩ => ⟨fun b o e nb => by rw [upd_ne nb]; exact h1 b o e nb, upd_same, Same.trans h3 (nw_upd npn)⟩
    have gS : ∀ {fs : List (Str × V)} {H2 H3 : Hp}, G fs H2 → Same H2 H3 → G fs H3 := fun {fs H2 H3} ⟨h1, h2, h3⟩ s => ⟨fun b o e nb => s _ _ (h1 b o e nb), s _ _ h2, Same.trans h3 (nw_right s)⟩
    have at1 : ∀ {fs : List (Str × V)} {H2 : Hp} {b : Addr} {o : HO}, G fs H2 → Nw H H1 b = some o → H2 b = some o := fun {fs H2 b o} ⟨_, _, h3⟩ e => nw_sub _ _ (h3 _ _ e)
    have nd1 : Nw H H1 d = some (.dK kvs) := nw_mk nd ed
    have na1 : SgT (Nw H H1) a L.sg := by
      obtain ⟨o, h1, h2, h3⟩ := ea
      exact ⟨o, h1, h2, nw_mk na h3⟩
    have nf1 : Nw H H1 tf = some (.tup fys) := nw_mk ntf etf
    -- text, signs
    refine ⟨_, rfl, _, rfl, p, C, dx, _, rfl, g0.2.1, T.cl, T.n1, (by show 0 < 1000; decide), ?_⟩
    have g1 := gU (fs' := putF "text" (.str L.text) []) g0
    rw [show putF "text" (.str L.text) [] = hf1 (.str L.text) from rfl] at g1 ⊢
    obtain ⟨J1, q1⟩ : ∃ z, z = upd H1 p (.ins C dx (hf1 (.str L.text))) := ⟨_, rfl⟩
    rw [← q1] at g1 ⊢
    refine ⟨_, rfl, _, rfl, p, C, dx, _, rfl, g1.2.1, T.cl, T.n2, (by show 1 < 1000; decide), ?_⟩
    rw [ht1]
    have g2 := gU (fs' := hf2 (.str L.text) (.ref a)) g1
    obtain ⟨J2, q2⟩ : ∃ z, z = upd J1 p (.ins C dx (hf2 (.str L.text) (.ref a))) := ⟨_, rfl⟩
    rw [← q2] at g2 ⊢
    -- rules
    refine ⟨_, rfl, d, kvs, rfl, at1 g2 nd1, fun tr htr => ?_⟩
    have g3 := gS g2 (Kb.same_upd (o := .tup (kvs.map fun kv => kV kv.1)) htr)
    have etr : (upd J2 tr (.tup (kvs.map fun kv => kV kv.1))) tr = some (.tup (kvs.map fun kv => kV kv.1)) := upd_same
    obtain ⟨J3, q3⟩ : ∃ z, z = upd J2 tr (.tup (kvs.map fun kv => kV kv.1)) := ⟨_, rfl⟩
    rw [← q3] at g3 etr ⊢
    refine ⟨_, rfl, p, C, dx, _, rfl, g3.2.1, T.cl, T.n3, (by show 2 < 1000; decide), ?_⟩
    rw [ht2]
    have g4 := gU (fs' := hf3 (.str L.text) (.ref a) (.ref tr)) g3
    have npt : tr ≠ p := fun z => by
      rw [z] at htr
      rw [g2.2.1] at htr
      cases htr
    have etr4 : (upd J3 p (.ins C dx (hf3 (.str L.text) (.ref a) (.ref tr)))) tr = some (.tup (kvs.map fun kv => kV kv.1)) := by rw [upd_ne npt]; exact etr
    have ntr : H tr = none := by
      cases e : H tr with
      | none => rfl
      | some o =>
        have := g2.1 tr o e npt
        rw [htr] at this
        cases this
    obtain ⟨J4, q4⟩ : ∃ z, z = upd J3 p (.ins C dx (hf3 (.str L.text) (.ref a) (.ref tr))) := ⟨_, rfl⟩
    rw [← q4] at g4 etr4 ⊢
    -- is_full
    refine ⟨d, .dK kvs, at1 g4 nd1, trivial, fun od => ?_⟩
    have hnd : (kvs.map (·.1)).Nodup := by
      rw [rules_keys ra]
      exact nodup_inr hok.2.2.2.2.2.2
    have ndp : d ≠ p := fun z => by
      rw [z] at nd
      exact npn nd
    have ed5 : (upd J4 d (.frz od (.dK kvs))) d = some (.frz od (.dK kvs)) := upd_same
    have s45 : ∀ b o, J4 b = some o → b ≠ d → (upd J4 d (.frz od (.dK kvs))) b = some o := fun b o e nb => by rw [upd_ne nb]; exact e
    have s54 : ∀ b o, (upd J4 d (.frz od (.dK kvs))) b = some o → b ≠ d → J4 b = some o := fun b o e nb => by rw [upd_ne nb] at e; exact e
    show tLc2 _ _ _ _ _ _ _ _ _ [some (V.ref p), some (V.str L.text), some (V.ref a), some (V.ref tf), some (V.ref d), none, none, none, none] _ _
    obtain ⟨J5, q5⟩ : ∃ z, z = upd J4 d (.frz od (.dK kvs)) := ⟨_, rfl⟩
    rw [← q5] at ed5 s45 s54 ⊢
    -- the rules' tuples
    have ra5 : ∀ (i : Nat) (kv : Key × V) (r : Rule), kvs[i]? = some kv → L.rs[i]? = some r → ∃ (t : Addr) (ys : List V), kv.2 = .ref t ∧ SqT K J5 t ys ∧ PassesAt K J5 r.2 ys := fun i kv r e1 e2 => by
      obtain ⟨_, t, ys, e3, q, pa⟩ := ra.2 i kv r e1 e2
      -- what is new and not d
      have sub : ∀ b o, Nw H H1 b = some o → b ≠ d → J5 b = some o := fun b o e nb => by
        exact s45 b o (at1 g4 e) nb
      have sq : ∀ {t : Addr} {xs : List V}, SqT K (Nw H H1) t xs → SqT K J5 t xs := fun {t xs} h => by
        rcases h with (h1 | ⟨o1, h1⟩) | h1
        · exact .inl (.inl (sub _ _ h1 fun z => by rw [z, nd1] at h1; cases h1))
        · exact .inl (.inr ⟨o1, sub _ _ h1 fun z => by rw [z, nd1] at h1; cases h1⟩)
        · exact .inr h1
      refine ⟨t, ys, e3, sq q, pa.1, fun j y p e4 e5 => ?_⟩
      have hp := pa.2 j y p e4 e5
      cases p with
      | length =>
        obtain ⟨t, e, q⟩ := hp
        exact ⟨t, e, sq q⟩
      | known w xs =>
        obtain ⟨t, tf, ys, e, q, q2, fa⟩ := hp
        exact ⟨t, tf, ys, e, sq q, sq q2, fa.1, fun i y x e1 e2 => by
          obtain ⟨t, e, q⟩ := fa.2 i y x e1 e2
          exact ⟨t, e, sq q⟩⟩
      | cls w rows =>
        obtain ⟨t, tf, ys, e, q, q2, fa⟩ := hp
        exact ⟨t, tf, ys, e, sq q, sq q2, fa.1, fun i y x e1 e2 => by
          obtain ⟨t, z, e, q, pz, sz⟩ := fa.2 i y x e1 e2
          exact ⟨t, z, e, sq q, pz, sz⟩⟩
    have hkl : kvs.length = L.rs.length := ra.1
    have tot : (fullB L.rs).length ≤ 12 := by
      have : ∀ rs : List Rule, (∀ r ∈ rs, r.2.length ≤ 3) → (fullB rs).length ≤ rs.length * 3 := fun rs h => by
        induction rs with
        | nil => exact Nat.zero_le _
        | cons r t ih =>
          have h1 := h r (.head _)
          have h2 := ih fun x hx => h x (.tail _ hx)
          unfold fullB at h2 ⊢
          rw [List.flatMap_cons, List.length_append, List.length_map, List.length_cons, Nat.add_mul]
          omega
      have h3 := this L.rs fun r hr => (hok.2.2.2.1 r hr).2.2.1
      have h4 := hok.2.2.2.2.2.1
      omega
    refine ⟨_, rfl, d, od, rfl, .inl ⟨kvs, ed5, fun D hD => ?_⟩⟩
    refine ⟨fun i m H' => m = kvs.length - i ∧ i ≤ kvs.length ∧ Same J5 H' ∧ H' D = some (.lst ((fullB (L.rs.take i)).map V.bl)), ⟨kvs.length, rfl, Nat.zero_le _, Kb.same_upd hD, upd_same⟩, ?_⟩
    rintro i m H6 ⟨rfl, hi, s56, eD⟩
    by_cases lt : i < kvs.length
    · obtain ⟨kv, hkv⟩ : ∃ kv, kvs[i]? = some kv := ⟨_, List.getElem?_eq_getElem lt⟩
      obtain ⟨r, hri⟩ : ∃ r, L.rs[i]? = some r := ⟨_, List.getElem?_eq_getElem (by omega)⟩
      obtain ⟨tr_, ys, e2, hq, pa⟩ := ra5 i kv r hkv hri
      have ek := (ra.2 i kv r hkv hri).1
      have et : fullB (L.rs.take (i + 1)) = fullB (L.rs.take i) ++ r.2.map fun p => !p.isKnown := by
        rw [List.take_succ, hri]
        unfold fullB
        simp [List.flatMap_append]
      refine .inr ⟨⟨s56 _ _ ed5, lt⟩, fun H' => Same J5 H' ∧ H' D = some (.lst ((fullB (L.rs.take (i + 1))).map V.bl)), fun H' ⟨s, e⟩ => ⟨kvs.length - (i + 1), by omega, rfl, lt, s, e⟩, ?_⟩
      rintro x H7 ⟨rfl, k', v', ekv, rfl⟩
      rw [hkv] at ekv
      cases ekv
      dsimp only at ek e2
      subst ek e2
      have hval := valV_at hnd hkv
      dsimp only at hval
      refine ⟨rfl, _, rfl, _, rfl, d, _, rfl, .inl ⟨kvs, Sum.inr r.1, .inr ⟨od, s56 _ _ ed5⟩, rfl, hval.symm⟩, tr_, rfl, ⟨_, Kb.Same.seqT s56 hq⟩, fun j q H' => q = r.2.length - j ∧ j ≤ r.2.length ∧ Same J5 H' ∧ H' D = some (.lst ((fullB (L.rs.take i) ++ (r.2.take j).map fun p => !p.isKnown).map V.bl)), ⟨r.2.length, rfl, Nat.zero_le _, s56, by simpa using eD⟩, ?_⟩
      rintro j q H8 ⟨rfl, hj, s58, eD8⟩
      by_cases lj : j < r.2.length
      · obtain ⟨ps, hps⟩ : ∃ p, r.2[j]? = some p := ⟨_, List.getElem?_eq_getElem lj⟩
        obtain ⟨y, hy⟩ : ∃ y, ys[j]? = some y := ⟨_, List.getElem?_eq_getElem (by rw [pa.1]; exact lj)⟩
        obtain ⟨t3, x1, x2, x3, rfl, q3, hb⟩ := pass_last (pa.2 j y ps hy hps)
        refine .inr ⟨⟨ys, _, Kb.Same.seqT s58 hq, hy⟩, fun H' => Same J5 H' ∧ H' D = some (.lst ((fullB (L.rs.take i) ++ (r.2.take (j + 1)).map fun p => !p.isKnown).map V.bl)), fun H' ⟨s, e⟩ => ⟨r.2.length - (j + 1), by omega, rfl, lj, s, e⟩, ?_⟩
        rintro x H9 ⟨rfl, hx⟩
        have ex := hx _ (Kb.Same.seqT s58 hq)
        rw [hy] at ex
        cases ex
        refine ⟨t3, _, rfl, Kb.Same.seqT s58 q3, rfl, _, _, rfl, _, _, rfl, _, _, rfl, rfl, rfl, _, rfl, _, eD8, ?_, fun b o e => ?_, ?_⟩
        · rw [List.length_map, List.length_append, List.length_map]
          have h1 : (fullB (L.rs.take i)).length ≤ 12 := by
            have e := congrArg (fun l => (fullB l).length) (List.take_append_drop i L.rs)
            unfold fullB at e tot ⊢
            simp only [List.flatMap_append, List.length_append] at e
            omega
          have h2 : (r.2.take j).length ≤ 3 := Nat.le_trans (List.length_take_le' _ _) (hok.2.2.2.1 r (List.mem_of_getElem? hri)).2.2.1
          exact Nat.lt_of_le_of_lt (show _ ≤ 15 by omega) (by decide)
        · rw [upd_ne (ne_of_none e hD)]
          exact s58 _ _ e
        · rw [upd_same, List.take_succ, hps]
          show some (HO.lst (_ ++ [V.bl (decide (x3 = V.non))])) = _
          rw [hb]
          simp
      · have ej : j = r.2.length := by omega
        subst ej
        refine .inl ⟨⟨ys, Kb.Same.seqT s58 hq, by rw [pa.1]; exact Nat.le_refl _⟩, s58, ?_⟩
        rw [eD8, et, List.take_length]
    · have ei : i = kvs.length := by omega
      subst ei
      rw [hkl, List.take_length] at eD
      refine .inl ⟨⟨s56 _ _ ed5, Nat.le_refl _⟩, s56 _ _ ed5, ?_⟩
      -- back to the open dict
      have S4 : Same J4 (upd H6 d (.dK kvs)) := fun b o e => by
        by_cases nb : b = d
        · subst nb
          rw [at1 g4 nd1] at e
          rw [upd_same]
          exact e
        · rw [upd_ne nb]
          exact s56 b o (s45 b o e nb)
      have eD7 : (upd H6 d (.dK kvs)) D = some (.lst ((fullB L.rs).map V.bl)) := by
        have : D ≠ d := fun z => by rw [z, ed5] at hD; cases hD
        rw [upd_ne this]
        exact eD
      obtain ⟨J7, q7⟩ : ∃ z, z = upd H6 d (.dK kvs) := ⟨_, rfl⟩
      rw [← q7] at S4 eD7 ⊢
      have g7 := gS g4 S4
      refine ⟨D, fullB L.rs, rfl, .of eD7, ?_⟩
      rw [full_all]
      refine ⟨_, rfl, p, C, dx, _, rfl, g7.2.1, T.cl, T.n4, (by show 3 < 1000; decide), ?_⟩
      rw [ht3]
      have g8 := gU (fs' := hf4 (.str L.text) (.ref a) (.ref tr) (.bl L.full)) g7
      have etr8 : (upd J7 p (.ins C dx (hf4 (.str L.text) (.ref a) (.ref tr) (.bl L.full)))) tr = some (.tup (kvs.map fun kv => kV kv.1)) := by
        rw [upd_ne npt]
        exact S4 _ _ etr4
      obtain ⟨J8, q8⟩ : ∃ z, z = upd J7 p (.ins C dx (hf4 (.str L.text) (.ref a) (.ref tr) (.bl L.full))) := ⟨_, rfl⟩
      rw [← q8] at g8 etr8 ⊢
      -- machine, passes
      have fin : ∀ (J9 : Hp) (m : Addr), Same J8 J9 → Q .non (upd (upd J9 p (.ins C dx (putF "machine" (.ref m) (hf4 (.str L.text) (.ref a) (.ref tr) (.bl L.full))))) p (.ins C dx (putF "_passes" (.ref d) (putF "machine" (.ref m) (hf4 (.str L.text) (.ref a) (.ref tr) (.bl L.full)))))) := fun J9 m s => by
        have g9 := gS g8 s
        rw [ht4, ht5]
        have g10 := gU (fs' := hf6 (.str L.text) (.ref a) (.ref tr) (.bl L.full) (.ref m) (.ref d)) (gU (fs' := hf5 (.str L.text) (.ref a) (.ref tr) (.bl L.full) (.ref m)) g9)
        refine k _ a tr d (.ref m) g10.1 g10.2.1 ⟨?_, ?_, ?_⟩
        · exact na1.same g10.2.2
        · refine .of (nw_mk ntr ?_)
          rw [upd_ne npt, upd_ne npt, s _ _ etr8]
          have e1 : (kvs.map fun kv => kV kv.1) = L.rs.map fun r => V.str r.1 := by
            have e2 : (kvs.map fun kv => kV kv.1) = (kvs.map (·.1)).map kV := by
              rw [List.map_map]
              rfl
            rw [e2, rules_keys ra, List.map_map]
            rfl
          rw [e1]
        · exact ⟨kvs, g10.2.2 _ _ nd1, ra.same g10.2.2⟩
      refine ⟨_, rfl, _, .inr (.inl ⟨fys, .of (at1 g8 nf1), rfl⟩), ?_⟩
      have ha8 : SgT J8 a L.sg := na1.same fun b o e => at1 g8 e
      refine ite2 (fun _ => ?_) (fun _ => ?_)
      · refine ⟨_, rfl, _, rfl, a, tf, L.sg, fys, rfl, ha8.sq, hok.1, .of (at1 g8 nf1), fun y m => (hfm y m).same fun b o e => at1 g8 e, by rw [lf]; exact hok.2.1, fun J9 m s => ?_⟩
        have g9 := gS g8 s
        refine ⟨_, rfl, p, C, dx, _, rfl, g9.2.1, T.cl, T.n5, (by show 4 < 1000; decide), _, rfl, _, rfl, p, C, dx, _, rfl, upd_same, T.cl, T.n6, ?_, fin J9 m s⟩
        exact Nat.lt_of_le_of_lt (putF_len _ _ _) (show 5 < 1000 by decide)
      · refine ⟨_, rfl, a, L.sg, rfl, ha8.sq, hok.1, fun J9 m s => ?_⟩
        have g9 := gS g8 s
        refine ⟨_, rfl, p, C, dx, _, rfl, g9.2.1, T.cl, T.n5, (by show 4 < 1000; decide), _, rfl, _, rfl, p, C, dx, _, rfl, upd_same, T.cl, T.n6, ?_, fin J9 m s⟩
        exact Nat.lt_of_le_of_lt (putF_len _ _ _) (show 5 < 1000 by decide)
end
end K1
set_option Elab.async false
set_option linter.all false
set_option maxRecDepth 100000
set_option maxHeartbeats 4000000
namespace K1
open PySem PySem.Spec PyProof.Rows L2 Kb Kc Kn
abbrev s__law_pot : Stmt := top 51
theorem sc__law_pot : FnScope ["_law_script", "_law_place", "_law_cell", "_law_own", "_law_small"] ["_law_script", "_law_place"] (defScope s__law_pot) := ⟨rfl, rfl, rfl, by decide +kernel, rfl, by decide +kernel, by decide +kernel⟩
abbrev s__law_take : Stmt := top 52
theorem sc__law_take : FnScope ["_law_pot_here", "_law_upto", "_law_digit", "_law_prime", "_law_mixed"] ["_law_pot_here", "_law_upto"] (defScope s__law_take) := ⟨rfl, rfl, rfl, by decide +kernel, rfl, by decide +kernel, by decide +kernel⟩
abbrev s__law_of : Stmt := top 53
theorem sc__law_of : FnScope ["_law_pot_here", "_law_some_here"] ["_law_pot_here", "_law_some_here"] (defScope s__law_of) := ⟨rfl, rfl, rfl, by decide +kernel, rfl, by decide +kernel, by decide +kernel⟩
abbrev s__law_cells : Stmt := top 55
theorem sc__law_cells : FnScope ["_law_script", "_law_most"] ["_law_script", "_law_most"] (defScope s__law_cells) := ⟨rfl, rfl, rfl, by decide +kernel, rfl, by decide +kernel, by decide +kernel⟩
/-- a def that can be called -/
structure Cal (P : Program) (w : World) (K : PySem.W.Frag) (mg : Str → Option Value) (base : Heap) (k : Nat) (x : Str) (st : Stmt) (ps : List Str) (sp : Sp) (f : Addr) (fd : FuncData) : Prop where
  F : Fun K x x st f fd
  b : Binds K fd ps []
  g : mg x = some (.ref f)
  G : FnOk P w K mg base CX0 k f fd ps sp
section
variable {P : Program} {w : World} {K : PySem.W.Frag} {mg : Str → Option Value} {base : Heap}
theorem ok_pot {f : Addr} {fd : FuncData} (F : Fun K "_law_pot" "_law_pot" s__law_pot f fd) (B : Bl mg) : FnOk P w K mg base CX0 1 f fd ["_law_script", "_law_place"] (spPot K) := by
  refine F.ok sc__law_pot (fun vs H Q E h => ?_) (fun cdv A outer s H vs Q E hr h => ?_)
  · obtain ⟨a, ns, i, rfl, _⟩ := h
    rfl
  · obtain ⟨a, ns, i, rfl, hS, h0, h1, k⟩ := h
    refine ⟨_, (pss_cons (ps_set (i := 2) sc__law_pot.nd rfl (Or.inl rfl) (pe_ifExp (pt_cmpR op_lt (pv 1) (pe_callB call_len_seq (by rfl) B.len (by decide +kernel) (pa_cons (pv 0) pa_nil)) (nomark _)) (pe_ix ix_list (pv 0) (pv 1) (fun _ _ => rfl)) (pe_op op_add (pe_op op_mul pe_int (pv 1)) pe_int)))
      (pss_cons (ps_set (i := 3) sc__law_pot.nd rfl (Or.inl rfl) (pe_op op_mul (pe_op op_mod (pe_callTy call_int1 (by rfl) B.int (by decide +kernel) (pa_cons (pe_callB call_abs (by rfl) B.abs (by decide +kernel) (pa_cons (pv 2) pa_nil)) pa_nil)) (pe_op op_powG (pe_op op_pow pe_int pe_int) pe_int)) (pe_callTy call_int1 (by rfl) B.int (by decide +kernel) (pa_cons (pe_cmpR op_ge (pe_callB call_abs (by rfl) B.abs (by decide +kernel) (pa_cons (pv 2) pa_nil)) (pe_op op_pow pe_int pe_int) (nomark _)) pa_nil))))
      (pss_cons (ps_set (i := 4) sc__law_pot.nd rfl (Or.inl rfl) (pe_op op_mod (pe_callTy call_int1 (by rfl) B.int (by decide +kernel) (pa_cons (pv 2) pa_nil)) pe_int))
      (pss_one (ps_ret (pe_lstB (pa_cons (pv 3) (pa_cons (pe_op op_mod (pe_callTy call_int1 (by rfl) B.int (by decide +kernel) (pa_cons (pe_op op_add (pe_op op_add (pe_op op_mul (pv 4) pe_int) (pe_op op_mul (pe_op op_mul pe_int (pv 1)) (pv 1))) pe_int) pa_nil)) pe_int) (pa_cons pe_int pa_nil))))))))), ?_⟩
    refine ⟨_, rfl, .ref a, rfl, a, _, rfl, .inl hS, _, _, rfl, rfl, _, rfl, ite2 (fun c => ?_) (fun c => ?_)⟩
    · have c' := of_decide_eq_true c
      rw [List.length_map] at c'
      obtain ⟨z, hz⟩ : ∃ z, ns[i.toNat]? = some z := ⟨_, List.getElem?_eq_getElem (by omega)⟩
      refine ⟨_, rfl, _, rfl, a, _, _, _, rfl, rfl, hS, atI_nat' h0 (v := V.int z) (by rw [List.getElem?_map, hz]; all_goals rfl), ?_⟩
      refine ⟨_, rfl, _, rfl, .inl ⟨_, rfl, _, _, rfl, rfl, ⟨by decide, by decide, by decide⟩, _, _, rfl, rfl, ⟨by decide, by decide +kernel, by decide +kernel⟩, _, _, rfl, rfl, big300, ?_⟩⟩
      refine ⟨_, rfl, _, rfl, _, _, rfl, rfl, ⟨by decide, by decide, by decide⟩, _, _, rfl, rfl, .inr ⟨_, rfl, _, _, rfl, rfl, .inr (b01 _), ?_⟩⟩
      refine ⟨_, rfl, .inl ⟨_, rfl, _, _, rfl, rfl, (by show (0 : Int) < 2305843009213693951; decide), ?_⟩⟩
      refine ⟨_, rfl, _, rfl, _, _, rfl, rfl, .inr (by decide), _, rfl, _, _, rfl, rfl, .inl (by decide), _, rfl, _, _, rfl, rfl, .inl (by omega), _, _, rfl, rfl, _, _, rfl, rfl, .inl ⟨_, rfl, _, _, rfl, rfl, (by show (0 : Int) < 2305843009213693921; decide), ?_⟩⟩
      refine ⟨(by show 3 ≤ sizeLine; decide), fun p hp _ => k _ p (Kb.same_upd hp) hp ⟨_, _, _, upd_same, Int.emod_nonneg _ (by decide), Int.emod_lt_of_pos _ (by decide), by decide, by decide⟩⟩
    · refine ⟨_, rfl, _, _, rfl, rfl, .inl (by decide), _, _, rfl, rfl, ?_⟩
      refine ⟨_, rfl, _, rfl, .inl ⟨_, rfl, _, _, rfl, rfl, ⟨by decide, by decide, by decide⟩, _, _, rfl, rfl, ⟨by decide, by decide +kernel, by decide +kernel⟩, _, _, rfl, rfl, big300, ?_⟩⟩
      refine ⟨_, rfl, _, rfl, _, _, rfl, rfl, ⟨by decide, by decide, by decide⟩, _, _, rfl, rfl, .inr ⟨_, rfl, _, _, rfl, rfl, .inr (b01 _), ?_⟩⟩
      refine ⟨_, rfl, .inl ⟨_, rfl, _, _, rfl, rfl, (by show (0 : Int) < 2305843009213693951; decide), ?_⟩⟩
      refine ⟨_, rfl, _, rfl, _, _, rfl, rfl, .inr (by decide), _, rfl, _, _, rfl, rfl, .inl (by decide), _, rfl, _, _, rfl, rfl, .inl (by omega), _, _, rfl, rfl, _, _, rfl, rfl, .inl ⟨_, rfl, _, _, rfl, rfl, (by show (0 : Int) < 2305843009213693921; decide), ?_⟩⟩
      refine ⟨(by show 3 ≤ sizeLine; decide), fun p hp _ => k _ p (Kb.same_upd hp) hp ⟨_, _, _, upd_same, Int.emod_nonneg _ (by decide), Int.emod_lt_of_pos _ (by decide), by decide, by decide⟩⟩
theorem ok_take {f : Addr} {fd : FuncData} (F : Fun K "_law_take" "_law_take" s__law_take f fd) (B : Bl mg) : FnOk P w K mg base CX0 1 f fd ["_law_pot_here", "_law_upto"] spTake := by
  refine F.ok sc__law_take (fun vs H Q E h => ?_) (fun cdv A outer s H vs Q E hr h => ?_)
  · obtain ⟨p, u, n, rfl, _⟩ := h
    rfl
  · obtain ⟨p, u, n, rfl, hP, hn, h0, h1, k⟩ := h
    obtain ⟨a, b, c, e, b0, b1, c0, c1⟩ := id hP.ex
    refine ⟨_, (pss_cons (ps_if (pt_cmpR op_gt (pe_ix ix_list (pv 0) pe_int (fun _ _ => rfl)) pe_int (nomark _))
        (pss_cons (ps_set (i := 2) sc__law_take.nd rfl (Or.inl rfl) (pe_op op_mod (pe_callTy call_int1 (by rfl) B.int (by decide +kernel) (pa_cons (pe_ix ix_list (pv 0) pe_int (fun _ _ => rfl)) pa_nil)) (pv 1)))
      (pss_cons (ps_asg (pe_op op_fdivW (pe_ix ix_list (pv 0) pe_int (fun _ _ => rfl)) (pv 1)) (pg_sub (pv 0) pe_int set_list))
      (pss_one (ps_ret (pv 2)))))
        pss_nil)
      (pss_cons (ps_asg (pe_op op_add (pe_ix ix_list (pv 0) pe_int (fun _ _ => rfl)) pe_int) (pg_sub (pv 0) pe_int set_list))
      (pss_cons (ps_set (i := 3) sc__law_take.nd rfl (Or.inl rfl) (pe_ix ix_list (pe_lstB (pa_cons pe_int (pa_cons pe_int (pa_cons pe_int (pa_cons pe_int (pa_cons pe_int pa_nil)))))) (pe_op op_mod (pe_callTy call_int1 (by rfl) B.int (by decide +kernel) (pa_cons (pe_ix ix_list (pv 0) pe_int (fun _ _ => rfl)) pa_nil)) pe_int) (fun _ _ => rfl)))
      (pss_cons (ps_set (i := 4) sc__law_take.nd rfl (Or.inl rfl) (pe_op op_mod (pe_callTy call_int1 (by rfl) B.int (by decide +kernel) (pa_cons (pe_op op_pow (pe_callTy call_int1 (by rfl) B.int (by decide +kernel) (pa_cons (pe_op op_add (pe_op op_add (pe_ix ix_list (pv 0) pe_int (fun _ _ => rfl)) (pe_op op_mul (pe_op op_mul pe_int (pe_ix ix_list (pv 0) pe_int (fun _ _ => rfl))) (pe_ix ix_list (pv 0) pe_int (fun _ _ => rfl)))) pe_int) pa_nil)) pe_int) pa_nil)) (pv 3)))
      (pss_cons (ps_set (i := 4) sc__law_take.nd rfl (Or.inl rfl) (pe_op op_mod (pe_callTy call_int1 (by rfl) B.int (by decide +kernel) (pa_cons (pe_op op_mul (pv 4) (pe_op op_add (pe_op op_mod (pe_callTy call_int1 (by rfl) B.int (by decide +kernel) (pa_cons (pv 4) pa_nil)) pe_int) (pe_op op_mul pe_int (pe_ix ix_list (pv 0) pe_int (fun _ _ => rfl))))) pa_nil)) pe_int))
      (pss_one (ps_ret (pe_op op_mod (pe_callTy call_int1 (by rfl) B.int (by decide +kernel) (pa_cons (pe_op op_fdivW (pv 4) pe_int) pa_nil)) (pv 1))))))))), ?_⟩
    refine ⟨_, rfl, p, _, _, _, rfl, rfl, .of e, (by rfl), _, _, rfl, rfl, _, rfl, ite2 (fun q => ?_) (fun q => ?_)⟩
    · refine ⟨_, rfl, p, _, _, _, rfl, rfl, .of e, (by rfl), .inl ⟨_, rfl, _, rfl, _, _, rfl, rfl, h0, ?_⟩⟩
      refine ⟨_, rfl, p, _, _, _, rfl, rfl, .of e, (by rfl), _, rfl, _, _, rfl, rfl, wide_div (b := 64) h0 (by omega) (by decide) (by decide), ?_⟩
      refine ⟨_, rfl, p, _, _, 0, rfl, rfl, e, (by rfl), _, rfl, ?_⟩
      exact k _ _ (Int.emod_nonneg _ (by omega)) (Int.emod_lt_of_pos _ h0) ⟨⟨_, _, _, upd_same, b0, b1, c0, by omega⟩, .pot⟩
    · refine ⟨_, rfl, p, _, _, _, rfl, rfl, .of e, (by rfl), _, _, rfl, rfl, ?_⟩
      refine ⟨_, rfl, p, _, _, 2, rfl, rfl, e, (by rfl), ?_⟩
      refine ⟨(by show 5 ≤ sizeLine; decide), fun l hl _ => ?_⟩
      have lp : p ≠ l := fun z => by
        rw [← z, upd_same] at hl
        cases hl
      have e1 : (upd (upd H p (.lst [.int a, .int b, .int (c + 1)])) l (.lst [.int 2147483647, .int 2147483629, .int 2147483587, .int 2147483579, .int 2147483563])) p = some (.lst [.int a, .int b, .int (c + 1)]) := by
        rw [upd_ne lp, upd_same]
      refine ⟨_, rfl, p, _, _, _, rfl, rfl, .of e1, (by rfl), .inl ⟨_, rfl, _, _, rfl, rfl, (by show (0 : Int) < 5; decide), ?_⟩⟩
      obtain ⟨pr, hp, p0, p1⟩ : ∃ pr : Int, atI [V.int 2147483647, V.int 2147483629, V.int 2147483587, V.int 2147483579, V.int 2147483563] ((c + 1) % 5) = some (V.int pr) ∧ 0 < pr ∧ pr < 2147483648 := by
        have z0 := Int.emod_nonneg (c + 1) (show (5 : Int) ≠ 0 by decide)
        have z1 := Int.emod_lt_of_pos (c + 1) (show (0 : Int) < 5 by decide)
        rcases (by omega : (c + 1) % 5 = 0 ∨ (c + 1) % 5 = 1 ∨ (c + 1) % 5 = 2 ∨ (c + 1) % 5 = 3 ∨ (c + 1) % 5 = 4) with z | z | z | z | z <;> rw [z]
        · exact ⟨2147483647, rfl, by decide, by decide⟩
        · exact ⟨2147483629, rfl, by decide, by decide⟩
        · exact ⟨2147483587, rfl, by decide, by decide⟩
        · exact ⟨2147483579, rfl, by decide, by decide⟩
        · exact ⟨2147483563, rfl, by decide, by decide⟩
      refine ⟨l, _, _, _, rfl, rfl, .of upd_same, hp, ?_⟩
      have hc : c + 1 ≤ 1000001 := by omega
      have g1 : (c + 1) * (c + 1) ≤ 1000001 * 1000001 := Int.mul_le_mul hc hc (by omega) (by omega)
      have g0 : 0 ≤ (c + 1) * (c + 1) := Int.mul_nonneg (by omega) (by omega)
      have g2 : 100049 * (c + 1) * (c + 1) = 100049 * ((c + 1) * (c + 1)) := Int.mul_assoc _ _ _
      refine ⟨_, rfl, p, _, _, _, rfl, rfl, .of e1, (by rfl), _, rfl, p, _, _, _, rfl, rfl, .of e1, (by rfl), _, _, rfl, rfl, .inl (by decide), _, rfl, p, _, _, _, rfl, rfl, .of e1, (by rfl), _, _, rfl, rfl, .inl (by omega), _, _, rfl, rfl, _, _, rfl, rfl, .inl ⟨_, rfl, _, _, rfl, rfl, ⟨by decide, by decide, by omega⟩, ?_⟩⟩
      refine .inl ⟨_, rfl, _, rfl, _, _, rfl, rfl, p0, ?_⟩
      generalize (b + 100049 * (c + 1) * (c + 1) + 41) ^ Int.toNat 3 = big
      refine ⟨_, rfl, _, rfl, .inl ⟨_, rfl, _, _, rfl, rfl, (by show (0 : Int) < 10039; decide), _, rfl, p, _, _, _, rfl, rfl, .of e1, (by rfl), _, _, rfl, rfl, .inl (by decide), _, _, rfl, rfl, _, _, rfl, rfl, .inr (by omega), .inl ⟨_, rfl, _, _, rfl, rfl, (by show (0 : Int) < 2305843009213693907; decide), ?_⟩⟩⟩
      refine ⟨_, rfl, _, _, rfl, rfl, wide_div (b := 64) (by decide) (by decide) (by decide) (by decide), .inl ⟨_, rfl, _, rfl, _, _, rfl, rfl, h0, ?_⟩⟩
      refine k _ _ (Int.emod_nonneg _ (by omega)) (Int.emod_lt_of_pos _ h0) ⟨⟨_, _, _, e1, b0, b1, by omega, by omega⟩, .trans .pot (.new hl)⟩
theorem ok_of {f f_law_take : Addr} {fd fd_law_take : FuncData} (F : Fun K "_law_of" "_law_of" s__law_of f fd) (B : Bl mg) (c_law_take : Cal P w K mg base 1 "_law_take" s__law_take ["_law_pot_here", "_law_upto"] spTake f_law_take fd_law_take) :
    FnOk P w K mg base CX0 2 f fd ["_law_pot_here", "_law_some_here"] (spOf K) := by
  refine F.ok sc__law_of (fun vs H Q E h => ?_) (fun cdv A outer s H vs Q E hr h => ?_)
  · obtain ⟨p, l, xs, n, rfl, _⟩ := h
    rfl
  · obtain ⟨p, l, xs, n, rfl, hP, hn, hS, h0, h1, k⟩ := h
    refine ⟨_, (pss_one (ps_ret (pe_ix ix_list (pv 1) (pe_call c_law_take.G (hr.mono (by decide)) (by rfl) c_law_take.g c_law_take.F.kp c_law_take.b .nil pass0 (pa_cons (pv 0) (pa_cons (pe_callB call_len_seq (by rfl) B.len (by decide +kernel) (pa_cons (pv 1) pa_nil)) pa_nil))) (fun _ _ => rfl)))), ?_⟩
    refine ⟨_, rfl, _, rfl, .ref l, rfl, l, _, rfl, .inl (seq_rest hS), p, _, n, rfl, hP, hn, by omega, by omega, fun H' i i0 i1 T => ?_⟩
    obtain ⟨v, hv⟩ : ∃ v, xs[i.toNat]? = some v := ⟨_, List.getElem?_eq_getElem (by omega)⟩
    exact ⟨l, _, _, _, rfl, rfl, seq_rest (seq_ext T.2 hS), atI_nat' i0 hv, k H' v (List.mem_of_getElem? hv) T⟩
theorem ok_cells {f : Addr} {fd : FuncData} (F : Fun K "_law_cells" "_law_cells" s__law_cells f fd) (B : Bl mg) : FnOk P w K mg base CX0 1 f fd ["_law_script", "_law_most"] (spCells K) := by
  refine F.ok sc__law_cells (fun vs H Q E h => ?_) (fun cdv A outer s H vs Q E hr h => ?_)
  · obtain ⟨a, xs, m, rfl, _⟩ := h
    rfl
  · obtain ⟨a, xs, m, rfl, hS, hl, hm, k⟩ := h
    refine ⟨_, (pss_one (ps_ret (pe_listRg rfl (by rfl) B.list (prg_1 (by rfl) B.range (pe_callB (call_max2 rfl) (by rfl) B.max (by decide +kernel) (pa_cons pe_int (pa_cons (pe_callB (call_min2 rfl) (by rfl) B.min (by decide +kernel) (pa_cons (pv 1) (pa_cons (pe_callB call_len_seq (by rfl) B.len (by decide +kernel) (pa_cons (pv 0) pa_nil)) pa_nil))) pa_nil))))))), ?_⟩
    refine ⟨_, rfl, .ref a, rfl, a, _, rfl, .inl hS, _, _, rfl, _, _, rfl, _, rfl, ?_⟩
    generalize hz : (if (if (xs.length : Int) < m then (xs.length : Int) else m) > 1 then (if (xs.length : Int) < m then (xs.length : Int) else m) else 1) = z
    have z0 : 0 ≤ z ∧ z ≤ 60 := by
      subst hz
      split <;> split <;> omega
    refine ⟨RgOk.of_le (by decide) (by omega) (by decide) (by omega), fun q hq => ?_⟩
    refine k _ q z.toNat (by omega) (Kb.same_upd hq) hq ?_
    rw [upd_same]
    unfold rgV upto
    simp
end
end K1
set_option Elab.async false
set_option linter.all false
set_option maxRecDepth 100000
set_option maxHeartbeats 4000000
namespace K1
open PySem PySem.Spec PyProof.Rows L2 Kb Kc Kn
abbrev s__law_some : Stmt := top 54
theorem sc__law_some : FnScope ["_law_pot_here", "_law_pool", "_law_many", "_law_left", "_law_found", "_law_lap"] ["_law_pot_here", "_law_pool", "_law_many"] (defScope s__law_some) := ⟨rfl, rfl, rfl, by decide +kernel, rfl, by decide +kernel, by decide +kernel⟩
/-- so many unlike ones of a pool of texts -/
def spSome (K : PySem.W.Frag) : Sp := fun vs H Q _ => ∃ (p l : Addr) (xs : List Str) (m n : Nat), vs = [.ref p, .ref l, nv m] ∧ PotAt H p n ∧ n + m ≤ 900000 ∧ SqL K (Rest p H) l (xs.map V.str) ∧ xs.Nodup ∧ m ≤ xs.length ∧ xs.length ≤ 100 ∧
  ∀ H' r (ys : List Str), Took p n m H H' → H r = none → r ≠ sysModules → Rest p H' r = some (.lst (ys.map V.str)) → ys.length = m → ys.Nodup → (∀ y ∈ ys, y ∈ xs) → Q (.ref r) H'
theorem nodup_erase : ∀ {xs : List Str} {i : Nat} {y : Str}, xs.Nodup → xs[i]? = some y → (xs.eraseIdx i).Nodup ∧ y ∉ xs.eraseIdx i
  | [], _, _, _, h => by simp at h
  | x :: r, 0, y, nd, h => by
    have e : x = y := Option.some.inj h
    subst e
    rw [List.nodup_cons] at nd
    exact ⟨nd.2, nd.1⟩
  | x :: r, i + 1, y, nd, h => by
    rw [List.nodup_cons] at nd
    have h' : r[i]? = some y := by simpa using h
    have ih := nodup_erase nd.2 h'
    have my := List.mem_of_getElem? h'
    have sub : ∀ z ∈ r.eraseIdx i, z ∈ r := fun z m => (List.eraseIdx_sublist r i).mem m
    rw [List.eraseIdx_cons_succ, List.nodup_cons, List.mem_cons]
    refine ⟨⟨fun m => nd.1 (sub _ m), ih.1⟩, fun m => ?_⟩
    rcases m with m | m
    · exact nd.1 (by rw [← m]; exact my)
    · exact ih.2 m
theorem erase_map {α β : Type} {f : α → β} : ∀ {xs : List α} {i : Nat}, (xs.map f).eraseIdx i = (xs.eraseIdx i).map f
  | [], _ => rfl
  | _ :: _, 0 => rfl
  | x :: r, i + 1 => by
    rw [List.map_cons, List.eraseIdx_cons_succ, List.eraseIdx_cons_succ, List.map_cons, erase_map]
theorem _root_.Kb.Took.put {p q : Addr} {n m : Nat} {H H1 : Hp} {o : HO} (h : Took p n m H H1) (e : H q = none) (ne : q ≠ p) : Took p n m H (upd H1 q o) := by
  obtain ⟨⟨a, b, c, h1, h2⟩, h3⟩ := h
  refine ⟨⟨a, b, c, by rw [upd_ne (Ne.symm ne)]; exact h1, h2⟩, .of fun x u ex nx => ?_⟩
  rw [upd_ne (ne_of_none ex e)]
  exact h3.at nx ex
section
variable {P : Program} {w : World} {K : PySem.W.Frag} {mg : Str → Option Value} {base : Heap}
theorem ok_some {f f_law_take : Addr} {fd fd_law_take : FuncData} (F : Fun K "_law_some" "_law_some" s__law_some f fd) (B : Bl mg) (c_law_take : Cal P w K mg base 1 "_law_take" s__law_take ["_law_pot_here", "_law_upto"] spTake f_law_take fd_law_take) :
    FnOk P w K mg base CX0 2 f fd ["_law_pot_here", "_law_pool", "_law_many"] (spSome K) := by
  refine F.ok sc__law_some (fun vs H Q E h => ?_) (fun cdv A outer s H vs Q E hr h => ?_)
  · obtain ⟨p, l, xs, m, n, rfl, _⟩ := h
    rfl
  · obtain ⟨p, l, xs, m, n, rfl, hP, hn, hL, nd, hm, lx, k⟩ := h
    refine ⟨_, (pss_cons (ps_par (i := 3) (j := 4) (by rfl) sc__law_some.nd rfl rfl (by decide) rfl rfl (pa_cons (pe_callTy call_list_of (by rfl) B.list (by decide +kernel) (pa_cons (pv 1) pa_nil)) (pa_cons (pe_lstB pa_nil) pa_nil)) (by rfl))
      (pss_cons (ps_for PassesOwn.never rfl (pi_range1 rfl B.range (pa_cons (pv 2) pa_nil)) (pg_name (i := 5) sc__law_some.nd rfl (Or.inl rfl))
        (pss_one (ps_expr (pe_bm PySem.F.plainAttrs_list PySem.F.slot_list_append PySem.F.type_list_append mt_append (pv 4) (pa_cons (pe_bm PySem.F.plainAttrs_list PySem.F.slot_list_pop PySem.F.type_list_pop mt_popAt (pv 3) (pa_cons (pe_call c_law_take.G (hr.mono (by decide)) (by rfl) c_law_take.g c_law_take.F.kp c_law_take.b .nil pass0 (pa_cons (pv 0) (pa_cons (pe_callB call_len_seq (by rfl) B.len (by decide +kernel) (pa_cons (pv 3) pa_nil)) pa_nil))) pa_nil)) pa_nil)))))
      (pss_one (ps_ret (pv 4))))), ?_⟩
    have hL0 := seq_rest hL
    refine ⟨_, rfl, l, _, rfl, .inl hL0, fun l1 h1 => ⟨(by show 0 ≤ sizeLine; decide), fun l2 h2 g2 => ?_⟩⟩
    have n2 : H l2 = none := (Kb.same_upd h1).free h2
    have d12 : l1 ≠ l2 := fun z => by rw [← z, upd_same] at h2; cases h2
    have p1 : l1 ≠ p := hP.ne h1
    have p2 : l2 ≠ p := hP.ne n2
    have T0 : Took p n 0 H (upd (upd H l1 (.lst (xs.map V.str))) l2 (.lst [])) := ((Took.refl hP).new h1).new h2
    have e1 : (upd (upd H l1 (.lst (xs.map V.str))) l2 (.lst [])) l1 = some (.lst (xs.map V.str)) := by rw [upd_ne d12, upd_same]
    have e2 : (upd (upd H l1 (.lst (xs.map V.str))) l2 (.lst [])) l2 = some (.lst (([] : List Str).map V.str)) := upd_same
    obtain ⟨J, qJ⟩ : ∃ z, z = upd (upd H l1 (.lst (xs.map V.str))) l2 (.lst []) := ⟨_, rfl⟩
    rw [← qJ] at T0 e1 e2 ⊢
    refine ⟨_, _, rfl, _, rfl, (m : Nat), rfl, by show -(2 ^ 62) ≤ (m : Int); omega, by show (m : Int) < 2 ^ 62; omega, ?_⟩
    have tm : (m : Int).toNat = m := by omega
    show ∃ W : Nat → Nat → L2.St → Hp → Prop, _
    rw [tm]
    refine for_range (n := m) (fun i σ H1 => ∃ (le ys : List Str) (v5 : Option V), σ = [some (.ref p), some (.ref l), some (nv m), some (.ref l1), some (.ref l2), v5] ∧ Took p n i H H1 ∧ H1 l1 = some (.lst (le.map V.str)) ∧ H1 l2 = some (.lst (ys.map V.str)) ∧ le.length + i = xs.length ∧ ys.length = i ∧ le.Nodup ∧ ys.Nodup ∧ (∀ y ∈ ys, y ∉ le) ∧ (∀ y ∈ le, y ∈ xs) ∧ ∀ y ∈ ys, y ∈ xs) ⟨xs, [], none, rfl, T0, e1, e2, rfl, rfl, nd, List.nodup_nil, fun y m => by simp at m, fun y m => m, fun y m => by simp at m⟩ (fun i σ H1 hi ⟨le, ys, v5, e, T1, f1, f2, c1, c2, c3, c4, c5, c6, c7⟩ => ?_) fun σ H1 ⟨le, ys, v5, e, T1, f1, f2, c1, c2, c3, c4, c5, c6, c7⟩ => ?_
    · subst e
      refine ⟨_, rfl, .inl ⟨rfl, _, .of f2⟩, _, rfl, .inl ⟨rfl, _, .of f1⟩, ?_⟩
      refine ⟨_, rfl, _, rfl, l1, _, rfl, .inl (.of f1), p, _, n + i, rfl, T1.1, by omega, by rw [List.length_map]; omega, by rw [List.length_map]; omega, fun H2 z z0 z1 T2 => ?_⟩
      have T3 := T1.go T2
      have r1 : H2 l1 = some (.lst (le.map V.str)) := T2.2.at p1 f1
      have r2 : H2 l2 = some (.lst (ys.map V.str)) := T2.2.at p2 f2
      rw [List.length_map] at z1
      obtain ⟨j, rfl⟩ : ∃ j : Nat, z = (j : Int) := ⟨z.toNat, by omega⟩
      obtain ⟨y, hy⟩ : ∃ y, le[j]? = some y := ⟨_, List.getElem?_eq_getElem (by omega)⟩
      have hix : seqIndex? (j : Int) (le.map V.str).length = some j := by
        rw [List.length_map]
        unfold seqIndex?
        simp
        omega
      refine ⟨l1, _, _, j, _, rfl, rfl, r1, by omega, by omega, hix, by rw [List.getElem?_map, hy]; all_goals rfl, ?_⟩
      have er : (le.map V.str).eraseIdx j = (le.eraseIdx j).map V.str := erase_map
      rw [er]
      refine ⟨l2, _, _, rfl, rfl, by rw [upd_ne (Ne.symm d12)]; exact r2, by rw [List.length_map]; exact Nat.lt_of_le_of_lt (show ys.length ≤ 100 by omega) (by decide), ?_⟩
      have ea : ys.map V.str ++ [V.str y] = (ys ++ [y]).map V.str := by simp
      show ∃ le ys v5, _
      obtain ⟨q1, q2⟩ := nodup_erase c3 hy
      have sub : ∀ z ∈ le.eraseIdx j, z ∈ le := fun z m => (List.eraseIdx_sublist le j).mem m
      have my := List.mem_of_getElem? hy
      refine ⟨le.eraseIdx j, ys ++ [y], _, rfl, (T3.put h1 p1).put n2 p2, by rw [upd_ne d12, upd_same], by rw [← ea, upd_same], ?_, ?_, q1, ?_, ?_, fun z m => c6 z (sub z m), ?_⟩
      · rw [List.length_eraseIdx, if_pos (by omega)]
        omega
      · rw [List.length_append, c2]
        rfl
      · rw [List.nodup_append]
        refine ⟨c4, by simp, fun a ha b hb => ?_⟩
        simp only [List.mem_cons, List.not_mem_nil, or_false] at hb
        subst hb
        intro z
        exact c5 a ha (by rw [z]; exact my)
      · intro z m
        rcases List.mem_append.mp m with m | m
        · exact fun u => c5 z m (sub z u)
        · simp only [List.mem_cons, List.not_mem_nil, or_false] at m
          subst m
          exact q2
      · intro z m
        rcases List.mem_append.mp m with m | m
        · exact c7 z m
        · simp only [List.mem_cons, List.not_mem_nil, or_false] at m
          subst m
          exact c6 _ my
    · subst e
      exact ⟨_, rfl, k H1 l2 ys T1 n2 g2 (rest_at p2 f2) c2 c4 c7⟩
end
end K1
set_option Elab.async false
set_option linter.all false
set_option maxRecDepth 100000
set_option maxHeartbeats 4000000
namespace K1
open PySem PySem.Spec PyProof.Rows L2 Kb Kc Kn
abbrev s__law_class_of : Stmt := top 58
theorem sc__law_class_of : FnScope ["_law_classes_here", "_law_sign", "_law_at", "_law_row"] ["_law_classes_here", "_law_sign"] (defScope s__law_class_of) := ⟨rfl, rfl, rfl, by decide +kernel, rfl, by decide +kernel, by decide +kernel⟩
abbrev s__law_is_figure : Stmt := top 59
theorem sc__law_is_figure : FnScope ["_law_sign"] ["_law_sign"] (defScope s__law_is_figure) := ⟨rfl, rfl, rfl, by decide +kernel, rfl, by decide +kernel, by decide +kernel⟩
/-! ### what the law draws -/
def All2 {α : Type} (R : α → V → Prop) (xs : List α) (ys : List V) : Prop := ys.length = xs.length ∧ ∀ (i : Nat) (y : V) (x : α), ys[i]? = some y → xs[i]? = some x → R x y
theorem All2.imp {α : Type} {R S : α → V → Prop} {xs : List α} {ys : List V} (f : ∀ x y, R x y → S x y) (h : All2 R xs ys) : All2 S xs ys := ⟨h.1, fun i y x e1 e2 => f _ _ (h.2 i y x e1 e2)⟩
theorem All2.nil {α : Type} {R : α → V → Prop} : All2 R [] [] := ⟨rfl, fun i y x e => by simp at e⟩
theorem All2.snoc {α : Type} {R : α → V → Prop} {xs : List α} {ys : List V} {x : α} {y : V} (h : All2 R xs ys) (r : R x y) : All2 R (xs ++ [x]) (ys ++ [y]) := by
  refine ⟨by rw [List.length_append, List.length_append, h.1]; rfl, fun i y' x' e1 e2 => ?_⟩
  by_cases c : i < ys.length
  · rw [List.getElem?_append_left c] at e1
    rw [List.getElem?_append_left (by rw [← h.1]; exact c)] at e2
    exact h.2 i y' x' e1 e2
  · rw [List.getElem?_append_right (by omega)] at e1
    rw [List.getElem?_append_right (by have := h.1; omega)] at e2
    have : i - ys.length = 0 := by
      have := (List.getElem?_eq_some_iff.mp e1).1
      simp at this
      omega
    rw [this] at e1
    rw [← h.1, this] at e2
    cases e1
    cases e2
    exact r
def LRow (K : PySem.W.Frag) (H : Hp) (r : List Str) (y : V) : Prop := ∃ t : Addr, y = .ref t ∧ SqL K H t (r.map V.str)
def LRows (K : PySem.W.Frag) (H : Hp) (rows : List (List Str)) (y : V) : Prop := ∃ (t : Addr) (ys : List V), y = .ref t ∧ SqL K H t ys ∧ All2 (LRow K H) rows ys
def LFacts (K : PySem.W.Frag) (H : Hp) (xs : List Fact) (y : V) : Prop := ∃ (t : Addr) (ys : List V), y = .ref t ∧ SqL K H t ys ∧ All2 (isFact K H) xs ys
def LPass (K : PySem.W.Frag) (H : Hp) : Ps → V → Prop
  | .length, y => ∃ t : Addr, y = .ref t ∧ SqT K H t [.str "length", .non, .non]
  | .known w xs, y => ∃ (t : Addr) (z : V), y = .ref t ∧ SqT K H t [.str w, .non, z] ∧ LFacts K H xs z
  | .cls w rows, y => ∃ (t : Addr) (z : V), y = .ref t ∧ SqT K H t [.str w, z, .non] ∧ LRows K H rows z
section
variable {K : PySem.W.Frag} {H H' : Hp}
theorem LRow.same {r : List Str} {y : V} (s : Same H H') (h : LRow K H r y) : LRow K H' r y := by
  obtain ⟨t, e, q⟩ := h
  exact ⟨t, e, Same.seq s q⟩
theorem LRows.same {rows : List (List Str)} {y : V} (s : Same H H') (h : LRows K H rows y) : LRows K H' rows y := by
  obtain ⟨t, ys, e, q, a⟩ := h
  exact ⟨t, ys, e, Same.seq s q, a.imp fun _ _ h => h.same s⟩
theorem isFact_same {x : Fact} {y : V} (s : Same H H') (h : isFact K H x y) : isFact K H' x y := by
  obtain ⟨t, e, q⟩ := h
  exact ⟨t, e, Kb.Same.seqT s q⟩
theorem LFacts.same {xs : List Fact} {y : V} (s : Same H H') (h : LFacts K H xs y) : LFacts K H' xs y := by
  obtain ⟨t, ys, e, q, a⟩ := h
  exact ⟨t, ys, e, Same.seq s q, a.imp fun _ _ h => isFact_same s h⟩
theorem LPass.same (s : Same H H') : ∀ {p : Ps} {y : V}, LPass K H p y → LPass K H' p y
  | .length, _, ⟨t, e, q⟩ => ⟨t, e, Kb.Same.seqT s q⟩
  | .known _ _, _, ⟨t, z, e, q, r⟩ => ⟨t, z, e, Kb.Same.seqT s q, r.same s⟩
  | .cls _ _, _, ⟨t, z, e, q, r⟩ => ⟨t, z, e, Kb.Same.seqT s q, r.same s⟩
end
/-- where a sign's class stands -/
def ClsAt (rows : List (List Str)) (s : Str) (j : Nat) : Prop := j < rows.length ∧ ∀ (i : Nat) (r : List Str), rows[i]? = some r → (s ∈ r ↔ i = j)
def spClassOf (K : PySem.W.Frag) : Sp := fun vs H Q _ => ∃ (l : Addr) (s : Str) (rows : List (List Str)) (ys : List V) (j : Nat), vs = [.ref l, .str s] ∧ SqL K H l ys ∧ All2 (LRow K H) rows ys ∧ ClsAt rows s j ∧ rows.length ≤ 100 ∧ ∀ H', Same H H' → Q (nv j) H'
def spIsFig : Sp := fun vs H Q _ => ∃ s : Str, vs = [.str s] ∧ s ∈ SG ∧ Q (.bl (isFig s)) H
theorem all_flat : ∀ r : List Str, (r.map V.str).all flatV = true
  | [] => rfl
  | _ :: t => by
    rw [List.map_cons, List.all_cons, all_flat t]
    rfl
theorem inV_str {s : Str} {r : List Str} : inV (.str s) (r.map V.str) = decide (s ∈ r) := by
  by_cases c : s ∈ r
  · rw [in_sg c, decide_eq_true c]
  · rw [decide_eq_false c]
    unfold inV
    rw [List.any_eq_false]
    intro y hy
    obtain ⟨z, hz, rfl⟩ := List.mem_map.mp hy
    have : ¬ z = s := fun e => c (e ▸ hz)
    simpa [eqV] using this
section
variable {P : Program} {w : World} {K : PySem.W.Frag} {mg : Str → Option Value} {base : Heap}
theorem ok_is_figure {f : Addr} {fd : FuncData} (F : Fun K "_law_is_figure" "_law_is_figure" s__law_is_figure f fd) (B : Bl mg) : FnOk P w K mg base CX0 1 f fd ["_law_sign"] spIsFig := by
  refine F.ok sc__law_is_figure (fun vs H Q E h => ?_) (fun cdv A outer s H vs Q E hr h => ?_)
  · obtain ⟨s, rfl, _⟩ := h
    rfl
  · obtain ⟨z, rfl, hz, k⟩ := h
    refine ⟨_, (pss_one (ps_ret (pe_cmpR op_in_sign (pv 0) pe_str rfl))), ?_⟩
    obtain ⟨c, ec, hc⟩ := fig_one z hz
    refine ⟨_, rfl, c, _, by rw [ec], rfl, ?_⟩
    rw [hc]
    exact k
theorem ok_class_of {f : Addr} {fd : FuncData} (F : Fun K "_law_class_of" "_law_class_of" s__law_class_of f fd) (B : Bl mg) : FnOk P w K mg base CX0 1 f fd ["_law_classes_here", "_law_sign"] (spClassOf K) := by
  refine F.ok sc__law_class_of (fun vs H Q E h => ?_) (fun cdv A outer s H vs Q E hr h => ?_)
  · obtain ⟨l, z, rows, ys, j, rfl, _⟩ := h
    rfl
  · obtain ⟨l, z, rows, ys, j, rfl, hL, hR, ⟨hj, hC⟩, l100, k⟩ := h
    refine ⟨_, (pss_one (ps_ret (pe_ix ix_list (pe_lc (own := [("_law_at", 2), ("_law_row", 3)]) rfl sc__law_class_of.nd (pi_enum (by rfl) B.enumerate (pa_cons (pv 0) pa_nil)) (blkOk_by (own := [("_law_at", 2), ("_law_row", 3)]) (N := ["_law_classes_here", "_law_sign", "_law_at", "_law_row"]) (sc := defScope s__law_class_of) (by decide +kernel)) (fun _ _ _ _ _ => (pg_tupK (K := K) (n := 2) rfl rfl (pgs_cons (pg_name (i := 2) sc__law_class_of.nd rfl (Or.inl rfl)) (pgs_cons (pg_name (i := 3) sc__law_class_of.nd rfl (Or.inl rfl)) pgs_nil)))) (fun _ _ _ _ _ => (pts_one (pt_cmpR (op_isK (K := K) rfl) (pv 1) (pv 3) rfl))) (fun _ _ _ _ _ => (pv 2))) pe_int (fun _ _ => rfl)))), ?_⟩
    refine ⟨_, rfl, l, ys, rfl, hL, fun D hD => lc_it walk_enum (fun i H1 => Same H H1 ∧ H1 D = some (.lst (if j < i then [nv j] else []))) ⟨Kb.same_upd hD, by rw [upd_same]; rfl⟩ (fun i H1 _ ⟨s, _⟩ => Same.seq s hL) (fun i x H6 H' hi ⟨s, eD⟩ y => ?_) fun H6 ⟨s6, eD6⟩ => ?_⟩
    · obtain ⟨T, x1, x2, rfl, hT6, rfl, e1, e2⟩ := y
      cases e1
      obtain ⟨r, hr2⟩ : ∃ r, rows[i]? = some r := ⟨_, List.getElem?_eq_getElem (by rw [← hR.1]; exact hi)⟩
      obtain ⟨t, rfl, hq⟩ := hR.2 i x2 r e2 hr2
      refine ⟨T, _, rfl, .of upd_same, rfl, _, _, rfl, _, _, rfl, rfl, ?_⟩
      have S6 : Same H6 (upd H6 T (.tup [V.int (i : Int), V.ref t])) := Kb.same_upd hT6
      have S36 : Same H (upd H6 T (.tup [V.int (i : Int), V.ref t])) := Same.trans s S6
      have eD' := S6 _ _ eD
      obtain ⟨J, qJ⟩ : ∃ z, z = upd H6 T (.tup [V.int (i : Int), V.ref t]) := ⟨_, rfl⟩
      rw [← qJ] at S36 eD' ⊢
      refine ⟨rfl, _, rfl, _, rfl, t, _, rfl, .inl (Same.seq S36 hq), rfl, all_flat r, _, rfl, ?_⟩
      show if inV (V.str z) (r.map V.str) = true then _ else _
      rw [inV_str]
      have hz := hC i r hr2
      refine ite2 (fun c => ?_) (fun c => ?_)
      · have ei : i = j := hz.mp (of_decide_eq_true c)
        subst ei
        rw [if_neg (Nat.lt_irrefl _)] at eD'
        refine ⟨_, rfl, _, eD', by decide, fun b o e => ?_, ?_⟩
        · rw [upd_ne (ne_of_none e hD)]
          exact S36 b o e
        · rw [upd_same, if_pos (Nat.lt_succ_self _)]
          rfl
      · have ni : ¬ i = j := fun z => c (decide_eq_true (hz.mpr z))
        refine ⟨S36, ?_⟩
        rw [eD']
        by_cases c1 : j < i
        · rw [if_pos c1, if_pos (by omega)]
        · rw [if_neg c1, if_neg (by omega)]
    · rw [hR.1, if_pos hj] at eD6
      exact ⟨D, _, _, _, rfl, rfl, .of eD6, (by rfl), k H6 s6⟩
end
end K1
set_option Elab.async false
set_option linter.all false
set_option maxRecDepth 100000
set_option maxHeartbeats 4000000
namespace K1
open PySem PySem.Spec PyProof.Rows L2 Kb Kc Kn
abbrev s__law_are_beside : Stmt := top 60
theorem sc__law_are_beside : FnScope ["_law_classes_here", "_law_kinds", "_law_row", "_law_marks", "_law_changes", "_law_at", "_law_sign"] ["_law_classes_here"] (defScope s__law_are_beside) := ⟨rfl, rfl, rfl, by decide +kernel, rfl, by decide +kernel, by decide +kernel⟩
def spBeside2 (K : PySem.W.Frag) : Sp := fun vs H Q _ => ∃ (l : Addr) (rows : List (List Str)) (ys : List V), vs = [.ref l] ∧ SqL K H l ys ∧ All2 (LRow K H) rows ys ∧ rows ≠ [] ∧ (∀ r ∈ rows, r ≠ [] ∧ r.length ≤ 8 ∧ ∀ s ∈ r, s ∈ SG) ∧ rows.length ≤ 8 ∧
  ∀ H' b, Same H H' → (b = true → FigOk rows) → Q (.bl b) H'
/-- how the kinds of rows change, read from the left: first kind, changes, last kind -/
def Sh (f : Bool) (c : Nat) (l : List Bool) (la : Bool) : Prop :=
  (f = false → (c = 0 → ∃ a, l = List.replicate (a + 1) false ∧ la = false) ∧ (c = 1 → ∃ a m, l = List.replicate a false ++ List.replicate (m + 1) true ∧ la = true) ∧
    (c = 2 → ∃ a m z, l = List.replicate a false ++ List.replicate m true ++ List.replicate (z + 1) false ∧ la = false)) ∧
  (f = true → (c = 0 → ∃ m, l = List.replicate (m + 1) true ∧ la = true) ∧ (c = 1 → ∃ m z, l = List.replicate m true ++ List.replicate (z + 1) false ∧ la = false))
theorem sh_one (b : Bool) : Sh b 0 [b] b := by
  cases b
  · exact ⟨fun _ => ⟨fun _ => ⟨0, rfl, rfl⟩, fun h => by omega, fun h => by omega⟩, fun h => by cases h⟩
  · exact ⟨fun h => (by cases h), fun _ => ⟨fun _ => ⟨0, rfl, rfl⟩, fun h => by omega⟩⟩
theorem rep_snoc {n : Nat} {b : Bool} : List.replicate n b ++ [b] = List.replicate (n + 1) b := (List.replicate_succ' ..).symm
theorem sh_same {f : Bool} {c : Nat} {l : List Bool} {la : Bool} (h : Sh f c l la) : Sh f c (l ++ [la]) la := by
  obtain ⟨h1, h2⟩ := h
  refine ⟨fun e => ⟨fun c0 => ?_, fun c0 => ?_, fun c0 => ?_⟩, fun e => ⟨fun c0 => ?_, fun c0 => ?_⟩⟩
  · obtain ⟨a, rfl, rfl⟩ := (h1 e).1 c0
    exact ⟨a + 1, rep_snoc, rfl⟩
  · obtain ⟨a, m, rfl, rfl⟩ := (h1 e).2.1 c0
    exact ⟨a, m + 1, by rw [List.append_assoc, rep_snoc], rfl⟩
  · obtain ⟨a, m, z, rfl, rfl⟩ := (h1 e).2.2 c0
    exact ⟨a, m, z + 1, by rw [List.append_assoc, rep_snoc], rfl⟩
  · obtain ⟨a, rfl, rfl⟩ := (h2 e).1 c0
    exact ⟨a + 1, rep_snoc, rfl⟩
  · obtain ⟨a, m, rfl, rfl⟩ := (h2 e).2 c0
    exact ⟨a, m + 1, by rw [List.append_assoc, rep_snoc], rfl⟩
theorem sh_turn {f : Bool} {c : Nat} {l : List Bool} {la : Bool} (h : Sh f c l la) : Sh f (c + 1) (l ++ [!la]) (!la) := by
  obtain ⟨h1, h2⟩ := h
  refine ⟨fun e => ⟨fun c0 => by omega, fun c0 => ?_, fun c0 => ?_⟩, fun e => ⟨fun c0 => by omega, fun c0 => ?_⟩⟩
  · obtain ⟨a, rfl, rfl⟩ := (h1 e).1 (by omega)
    exact ⟨a + 1, 0, rfl, rfl⟩
  · obtain ⟨a, m, rfl, rfl⟩ := (h1 e).2.1 (by omega)
    exact ⟨a, m + 1, 0, rfl, rfl⟩
  · obtain ⟨a, rfl, rfl⟩ := (h2 e).1 (by omega)
    exact ⟨a + 1, 0, rfl, rfl⟩
theorem sh_end {f : Bool} {c : Nat} {l : List Bool} {la : Bool} (h : Sh f c l la) (k : (decide (c < 2) || (decide (c = 2) && !f)) = true) : ∃ a m z, l = List.replicate a false ++ List.replicate m true ++ List.replicate z false := by
  obtain ⟨h1, h2⟩ := h
  cases f with
  | false =>
    obtain ⟨k0, k1, k2⟩ := h1 rfl
    have : c = 0 ∨ c = 1 ∨ c = 2 := by
      simp at k
      omega
    rcases this with c | c | c
    · obtain ⟨a, e, _⟩ := k0 c
      exact ⟨a + 1, 0, 0, by simp [e]⟩
    · obtain ⟨a, m, e, _⟩ := k1 c
      exact ⟨a, m + 1, 0, by simp [e]⟩
    · obtain ⟨a, m, z, e, _⟩ := k2 c
      exact ⟨a, m, z + 1, e⟩
  | true =>
    obtain ⟨k0, k1⟩ := h2 rfl
    have : c = 0 ∨ c = 1 := by
      simp at k
      omega
    rcases this with c | c
    · obtain ⟨m, e, _⟩ := k0 c
      exact ⟨0, m + 1, 0, by simp [e]⟩
    · obtain ⟨m, z, e, _⟩ := k1 c
      exact ⟨0, m, z + 1, by simp [e]⟩
def figR (r : List Str) : Bool := r.any isFig
theorem rep_mem {α : Type} {f : α → Bool} {xs : List α} {n : Nat} {b : Bool} (h : xs.map f = List.replicate n b) : ∀ x ∈ xs, f x = b := fun x m => by
  have : f x ∈ List.replicate n b := by rw [← h]; exact List.mem_map.mpr ⟨x, m, rfl⟩
  exact (List.mem_replicate.mp this).2
theorem figOk_of {rows : List (List Str)} {a m z : Nat} (h : rows.map figR = List.replicate a false ++ List.replicate m true ++ List.replicate z false) (hh : ∀ r ∈ rows, figR r = true → ∀ s ∈ r, isFig s = true) : FigOk rows := by
  obtain ⟨R, Z, rfl, e1, e2⟩ := List.map_eq_append_iff.mp h
  obtain ⟨A, M, rfl, e3, e4⟩ := List.map_eq_append_iff.mp e1
  have no : ∀ r, figR r = false → ∀ s ∈ r, isFig s = false := fun r h s m => by
    cases c : isFig s with
    | false => rfl
    | true =>
      have : figR r = true := List.any_eq_true.mpr ⟨s, m, c⟩
      rw [this] at h
      cases h
  refine ⟨A, M, Z, rfl, fun r hr s hs => hh r (List.mem_append_left _ (List.mem_append_right _ hr)) (rep_mem e4 r hr) s hs, fun r hr s hs => ?_⟩
  rcases List.mem_append.mp hr with hr | hr
  · exact no r (rep_mem e3 r hr) s hs
  · exact no r (rep_mem e2 r hr) s hs
theorem inV_bl {b : Bool} {bs : List Bool} : inV (.bl b) (bs.map V.bl) = bs.any fun x => decide (x = b) := by
  unfold inV
  rw [List.any_map]
  congr 1
theorem all_flatB : ∀ r : List Bool, (r.map V.bl).all flatV = true
  | [] => rfl
  | _ :: t => by
    rw [List.map_cons, List.all_cons, all_flatB t]
    rfl
section
variable {P : Program} {w : World} {K : PySem.W.Frag} {mg : Str → Option Value} {base : Heap}
theorem ok_are_beside {f f_law_is_figure : Addr} {fd fd_law_is_figure : FuncData} (F : Fun K "_law_are_beside" "_law_are_beside" s__law_are_beside f fd) (B : Bl mg) (c_law_is_figure : Cal P w K mg base 1 "_law_is_figure" s__law_is_figure ["_law_sign"] spIsFig f_law_is_figure fd_law_is_figure) :
    FnOk P w K mg base CX0 2 f fd ["_law_classes_here"] (spBeside2 K) := by
  refine F.ok sc__law_are_beside (fun vs H Q E h => ?_) (fun cdv A outer s H vs Q E hr h => ?_)
  · obtain ⟨l, rows, ys, rfl, _⟩ := h
    rfl
  · obtain ⟨l, rows, ys, rfl, hL, hR, hne, hin, l8, k⟩ := h
    refine ⟨_, (pss_cons (ps_set (i := 1) sc__law_are_beside.nd rfl (Or.inr rfl) (pe_lstB pa_nil))
      (pss_cons (ps_for PassesOwn.never rfl (pi_list (pv 0)) (pg_name (i := 2) sc__law_are_beside.nd rfl (Or.inl rfl))
        (pss_cons (ps_setLc (i := 3) (own := [("_law_sign", 6)]) (g := gName 6) (tt := tYes) rfl sc__law_are_beside.nd rfl rfl (sw_true rfl rfl rfl (by decide +kernel)) (pi_list (pv 2)) (blkOk_by (own := [("_law_sign", 6)]) (N := ["_law_classes_here", "_law_kinds", "_law_row", "_law_marks", "_law_changes", "_law_at", "_law_sign"]) (sc := defScope s__law_are_beside) (by decide +kernel)) (fun _ _ _ _ _ => (pg_name (i := 6) sc__law_are_beside.nd rfl (Or.inl rfl))) (fun _ _ _ _ _ => pts_nil) (fun _ _ _ _ _ => (pe_call c_law_is_figure.G (hr.mono (by decide)) (by rfl) c_law_is_figure.g c_law_is_figure.F.kp c_law_is_figure.b .nil pass0 (pa_cons (pv 6) pa_nil))))
      (pss_cons (ps_if (PW.pt (pw_and (pt_cmpR op_in_seq pe_bl (pv 3) rfl) (pw_and1 (pt_cmpR op_in_seq pe_bl (pv 3) rfl))))
        (pss_one (ps_ret pe_bl))
        pss_nil)
      (pss_one (ps_expr (pe_bm PySem.F.plainAttrs_list PySem.F.slot_list_append PySem.F.type_list_append mt_append (pv 1) (pa_cons (pe_cmpR op_in_seq pe_bl (pv 3) rfl) pa_nil)))))))
      (pss_cons (ps_setLc (i := 4) (own := [("_law_at", 5)]) (g := gName 5) rfl sc__law_are_beside.nd rfl rfl (sw_true rfl rfl rfl (by decide +kernel)) (pi_range2 (by rfl) B.range (pa_cons pe_int (pa_cons (pe_callB call_len_seq (by rfl) B.len (by decide +kernel) (pa_cons (pv 1) pa_nil)) pa_nil))) (blkOk_by (own := [("_law_at", 5)]) (N := ["_law_classes_here", "_law_kinds", "_law_row", "_law_marks", "_law_changes", "_law_at", "_law_sign"]) (sc := defScope s__law_are_beside) (by decide +kernel)) (fun _ _ _ _ _ => (pg_name (i := 5) sc__law_are_beside.nd rfl (Or.inl rfl))) (fun _ _ _ _ _ => (pts_one (pt_cmpR op_ne (pe_ix (ix_listK (K := K) rfl) (pv 1) (pv 5) (fun _ _ => rfl)) (pe_ix (ix_listK (K := K) rfl) (pv 1) (pe_op op_sub (pv 5) pe_int) (fun _ _ => rfl)) (nomark _)))) (fun _ _ _ _ _ => (pv 5)))
      (pss_one (ps_ret (pe_or (pe_cmpR op_lt (pe_callB call_len_seq (by rfl) B.len (by decide +kernel) (pa_cons (pv 4) pa_nil)) pe_int (nomark _)) (pe_one (pe_and (pe_cmpR op_eq (pe_callB call_len_seq (by rfl) B.len (by decide +kernel) (pa_cons (pv 4) pa_nil)) pe_int (nomark _)) (pe_one (pe_not (pe_ix ix_list (pv 1) pe_int (fun _ _ => rfl)))))))))))), ?_⟩
    refine ⟨(by show 0 ≤ sizeLine; decide), fun q hq _ => ?_⟩
    have S0 : Same H (upd H q (.lst [])) := Kb.same_upd hq
    refine ⟨_, rfl, l, rfl, ⟨_, Same.seq S0 hL⟩, for_it (walk_list (xs := ys)) (fun i σ H1 => ∃ (v2 v3 : Option V), σ = [some (.ref l), some (.ref q), v2, v3, none, none, none] ∧ Same H H1 ∧ H1 q = some (.lst (((rows.take i).map figR).map V.bl)) ∧ ∀ r ∈ rows.take i, figR r = true → ∀ s ∈ r, isFig s = true) ⟨none, none, rfl, S0, by rw [upd_same]; rfl, fun r m => by simp at m⟩ (fun i σ H1 _ ⟨_, _, _, s, _⟩ => Same.seq s hL) (fun i x σ H2 H1 hi ⟨v2, v3, e, s1, e1, hh⟩ y => ?_) fun σ H1 ⟨v2, v3, e, s1, e1, hh⟩ => ?_⟩
    · subst e
      obtain ⟨rfl, hx⟩ := y
      obtain ⟨r, hri⟩ : ∃ r, rows[i]? = some r := ⟨_, List.getElem?_eq_getElem (by rw [← hR.1]; exact hi)⟩
      obtain ⟨t, rfl, hq2⟩ := hR.2 i x r hx hri
      obtain ⟨rne, r8, rin⟩ := hin r (List.mem_of_getElem? hri)
      refine ⟨_, rfl, t, rfl, ⟨_, Same.seq s1 hq2⟩, fun D hD => lc_mapL (fun _ i y => ∃ z, r[i]? = some z ∧ y = V.bl (isFig z)) (fun _ _ _ _ _ h => h) (Same.refl H1) hD (Same.seq s1 hq2) (by rw [List.length_map]; exact Nat.lt_of_le_of_lt r8 (by decide)) (fun j2 x2 H4 G4 Q4 hj2 s24 g24 g4 k4 => ?_) (gname_mono 6) fun H5 ws s25 hw hl2 rl2 => ?_⟩
      · obtain ⟨z, hz2, rfl⟩ : ∃ z, r[j2]? = some z ∧ x2 = V.str z := by
          rw [List.getElem?_map] at hj2
          cases e : r[j2]? with
          | none =>
            rw [e] at hj2
            cases hj2
          | some z =>
            rw [e] at hj2
            exact ⟨z, rfl, (Option.some.inj hj2).symm⟩
        refine ⟨rfl, _, rfl, z, rfl, rin z (List.mem_of_getElem? hz2), ?_⟩
        exact k4 _ _ (Same.refl _) ⟨z, hz2, rfl⟩
      · have e := rel_map (f := fun z => V.bl (isFig z)) (by rw [hl2, List.length_map]) rl2
        have e2 : ws = (r.map isFig).map V.bl := by rw [e, List.map_map]; rfl
        subst e2
        have e1' := s25 _ _ e1
        have ef : ((r.map isFig).any fun x => decide (x = true)) = figR r := by
          unfold figR
          rw [List.any_map]
          congr 1
          funext x
          show decide (isFig x = true) = isFig x
          cases isFig x <;> rfl
        have fin : (figR r = true → ∀ s ∈ r, isFig s = true) → (upd H5 q (.lst (((rows.take i).map figR).map V.bl ++ [V.bl (figR r)]))) q = some (.lst (((rows.take (i + 1)).map figR).map V.bl)) ∧ ∀ r ∈ rows.take (i + 1), figR r = true → ∀ s ∈ r, isFig s = true := fun h => by
          refine ⟨?_, fun r' m => ?_⟩
          · rw [upd_same, List.take_succ, hri]
            simp
          · rw [List.take_succ, hri] at m
            rcases List.mem_append.mp m with m | m
            · exact hh r' m
            · have : r' = r := by simpa using m
              rw [this]
              exact h
        have one : ∀ (h : figR r = true → ∀ s ∈ r, isFig s = true), tDrop (tBM K "list" rAppend (tVar 1) (tCons (tOp (rIn K false) (tC (V.bl true)) (tVar 3)) tNil)) { nx := fun σ H1 => ∃ (v2 v3 : Option V), σ = [some (.ref l), some (.ref q), v2, v3, none, none, none] ∧ Same H H1 ∧ H1 q = some (.lst (((rows.take (i + 1)).map figR).map V.bl)) ∧ ∀ r ∈ rows.take (i + 1), figR r = true → ∀ s ∈ r, isFig s = true, rt := Q } [some (V.ref l), some (V.ref q), some (V.ref t), some (V.ref D), none, none, none] H5 := fun h => by
          refine ⟨_, rfl, .inl ⟨rfl, _, .of e1'⟩, _, rfl, D, _, rfl, .inl (.of hw), rfl, all_flatB _, ?_⟩
          have e3 : (if false = true then !inV (V.bl true) (List.map V.bl (List.map isFig r)) else inV (V.bl true) (List.map V.bl (List.map isFig r))) = figR r := by
            rw [if_neg (by decide), inV_bl, ef]
          rw [e3]
          refine ⟨q, _, _, rfl, rfl, e1', by simp; exact Nat.lt_of_le_of_lt (show _ ≤ 8 by omega) (by decide), _, _, rfl, fun b o e => ?_, (fin h).1, (fin h).2⟩
          rw [upd_ne (ne_of_none e hq)]
          exact s25 _ _ (s1 _ _ e)
        refine ⟨_, rfl, D, _, rfl, .inl (.of hw), rfl, all_flatB _, _, rfl, ?_⟩
        show if inV (V.bl true) _ = true then _ else _
        rw [inV_bl, ef]
        refine ite2 (fun c => ?_) (fun c => ?_)
        · refine ⟨_, rfl, D, _, rfl, .inl (.of hw), rfl, all_flatB _, _, rfl, ?_⟩
          show if inV (V.bl false) _ = true then _ else _
          rw [inV_bl]
          refine ite2 (fun c2 => ?_) (fun c2 => ?_)
          · exact k H5 false (Same.trans s1 s25) (fun z => by cases z)
          · refine one fun _ s hs => ?_
            cases c3 : isFig s with
            | true => rfl
            | false =>
              refine absurd ?_ c2
              rw [List.any_eq_true]
              exact ⟨false, List.mem_map.mpr ⟨s, hs, c3⟩, rfl⟩
        · exact one fun c' => absurd c' c
    · subst e
      rw [hR.1, List.take_length] at e1 hh
      obtain ⟨n, hn⟩ : ∃ n, rows.length = n + 1 := ⟨rows.length - 1, by
        have := List.length_pos_iff.mpr hne
        omega⟩
      obtain ⟨ks, hks⟩ : ∃ ks, ks = rows.map figR := ⟨_, rfl⟩
      rw [← hks] at e1
      have kl : ks.length = n + 1 := by rw [hks, List.length_map, hn]
      obtain ⟨k0, hk0⟩ : ∃ b, ks[0]? = some b := ⟨_, List.getElem?_eq_getElem (by omega)⟩
      have kat : ∀ (i : Nat) (b : Bool), ks[i]? = some b → (ks.map V.bl)[i]? = some (V.bl b) := fun i b e => by rw [List.getElem?_map, e]; rfl
      refine ⟨_, rfl, q, _, rfl, .inl (.of e1), 1, ((n + 1 : Nat) : Int), ?_, ⟨by decide, by decide, by omega, by omega⟩, fun D hD => ?_⟩
      · rw [List.length_map, kl]
      · have tn : (((n + 1 : Nat) : Int) - 1).toNat = n := by omega
        show ∃ W : Nat → Nat → Hp → Prop, _
        rw [tn]
        have t1 : ks.take 1 = [k0] := by
          cases ks with
          | nil => cases hk0
          | cons x r =>
            have : x = k0 := by simpa using hk0
            rw [this]
            rfl
        refine lc_range (fun i H2 => ∃ (acc : List Nat) (la : Bool), Same H1 H2 ∧ H2 D = some (.lst (acc.map nv)) ∧ acc.length ≤ i ∧ ks[i]? = some la ∧ Sh k0 acc.length (ks.take (i + 1)) la) ⟨[], k0, Kb.same_upd hD, upd_same, Nat.le_refl _, hk0, by rw [t1]; exact sh_one k0⟩ (fun i H2 hi ⟨acc, la, s2, eD, al, ela, sh⟩ => ?_) fun H2 ⟨acc, la, s2, eD, al, ela, sh⟩ => ?_
        · obtain ⟨nx, hnx⟩ : ∃ b, ks[i + 1]? = some b := ⟨_, List.getElem?_eq_getElem (by omega)⟩
          have etk : ks.take (i + 1 + 1) = ks.take (i + 1) ++ [nx] := by rw [List.take_succ, hnx]; rfl
          have e2 := s2 _ _ e1
          refine ⟨rfl, _, rfl, _, rfl, q, _, 1 + (i : Int), _, rfl, rfl, .of e2, atI_nat' (by omega) (v := V.bl nx) (by rw [show (1 + (i : Int)).toNat = i + 1 by omega]; exact kat _ _ hnx), _, rfl, _, rfl, 1 + (i : Int), 1, rfl, rfl, q, _, _, _, rfl, rfl, .of e2, atI_nat' (by omega) (v := V.bl la) (by rw [show (1 + (i : Int) - 1).toNat = i by omega]; exact kat _ _ ela), rfl, _, rfl, ite2 (fun c => ?_) (fun c => ?_)⟩
          · have hne : nx = !la := by
              have : ¬ (V.bl nx = V.bl la) := by simpa using c
              cases nx <;> cases la <;> first | rfl | exact absurd rfl this
            refine ⟨_, rfl, _, eD, by rw [List.length_map]; exact Nat.lt_of_le_of_lt (show _ ≤ 8 by omega) (by decide), acc ++ [i + 1], nx, fun b o e => ?_, ?_, ?_, hnx, ?_⟩
            · rw [upd_ne (ne_of_none e hD)]
              exact s2 _ _ e
            · rw [upd_same]
              have : V.int (1 + (i : Int)) = nv (i + 1) := by
                show V.int _ = V.int _
                congr 1
                omega
              rw [this]
              simp
            · simp
              exact al
            · rw [etk, List.length_append, hne]
              exact sh_turn sh
          · have hne : nx = la := by
              have : V.bl nx = V.bl la := by simpa using c
              exact V.bl.inj this
            refine ⟨acc, nx, s2, eD, by omega, hnx, ?_⟩
            rw [etk, hne]
            exact sh_same sh
        · rw [show n + 1 = ks.length from kl.symm, List.take_length] at sh
          have S2 : Same H H2 := Same.trans s1 s2
          have e2 := s2 _ _ e1
          have hf : (decide (acc.length < 2) || (decide (acc.length = 2) && !k0)) = true → FigOk rows := fun c => by
            obtain ⟨a, m, z, e⟩ := sh_end sh c
            exact figOk_of (a := a) (m := m) (z := z) (by rw [← hks]; exact e) hh
          have el : ((acc.map nv).length : Int) = acc.length := by rw [List.length_map]
          refine ⟨_, rfl, D, _, rfl, .inl (.of eD), _, _, rfl, rfl, _, rfl, ite2 (fun c => ?_) (fun c => ?_)⟩
          · have c' := of_decide_eq_true c
            rw [el] at c'
            exact k H2 true S2 fun _ => hf (by rw [decide_eq_true (by omega : acc.length < 2)]; rfl)
          · refine ⟨_, rfl, D, _, rfl, .inl (.of eD), rfl, _, rfl, ite2 (fun c2 => ?_) (fun c2 => ?_)⟩
            · have c2' : acc.length = 2 := by
                have := V.int.inj (of_decide_eq_true c2)
                rw [el] at this
                omega
              refine ⟨_, rfl, q, _, 0, _, rfl, rfl, .of e2, atI_nat' (by decide) (v := V.bl k0) (kat _ _ hk0), _, rfl, ?_⟩
              exact k H2 _ S2 fun z => hf (by rw [decide_eq_true c2', z]; simp)
            · exact k H2 false S2 fun z => by cases z
end
end K1
set_option Elab.async false
set_option linter.all false
set_option maxRecDepth 100000
set_option maxHeartbeats 4000000
namespace K1
open PySem PySem.Spec PyProof.Rows L2 Kb Kc Kn
abbrev s__law_keeps : Stmt := top 61
theorem sc__law_keeps : FnScope ["_law_classes_here", "_law_fact", "_law_low", "_law_high"] ["_law_classes_here", "_law_fact"] (defScope s__law_keeps) := ⟨rfl, rfl, rfl, by decide +kernel, rfl, by decide +kernel, by decide +kernel⟩
def KeepsN (rel : Str) (i j : Nat) : Prop := (rel = "<" → i < j) ∧ (rel = "<=" → i ≤ j) ∧ (rel = "=" → i = j) ∧ (rel = "!=" → i ≠ j)
def spKeeps (K : PySem.W.Frag) : Sp := fun vs H Q _ => ∃ (l t : Addr) (rows : List (List Str)) (ys : List V) (x : Fact) (i j : Nat), vs = [.ref l, .ref t] ∧ SqL K H l ys ∧ All2 (LRow K H) rows ys ∧ rows.length ≤ 100 ∧ SqT K H t [.str x.lo, .str x.rel, .str x.hi] ∧
  ClsAt rows x.lo i ∧ ClsAt rows x.hi j ∧ x.rel ∈ FC ∧ ∀ H' b, Same H H' → (b = true → KeepsN x.rel i j) → Q (.bl b) H'
theorem rel_ne : ∀ r ∈ FC, (r = "<" → ¬ r = "<=" ∧ ¬ r = "=" ∧ ¬ r = "!=") ∧ (r = "<=" → ¬ r = "<" ∧ ¬ r = "=" ∧ ¬ r = "!=") ∧ (r = "=" → ¬ r = "!=") ∧ (¬ r = "<" → ¬ r = "<=" → r = "=" ∨ r = "!=") := by decide +kernel
section
variable {P : Program} {w : World} {K : PySem.W.Frag} {mg : Str → Option Value} {base : Heap}
theorem ok_keeps {f f_law_class_of : Addr} {fd fd_law_class_of : FuncData} (F : Fun K "_law_keeps" "_law_keeps" s__law_keeps f fd) (B : Bl mg) (c_law_class_of : Cal P w K mg base 1 "_law_class_of" s__law_class_of ["_law_classes_here", "_law_sign"] (spClassOf K) f_law_class_of fd_law_class_of) :
    FnOk P w K mg base CX0 2 f fd ["_law_classes_here", "_law_fact"] (spKeeps K) := by
  refine F.ok sc__law_keeps (fun vs H Q E h => ?_) (fun cdv A outer s H vs Q E hr h => ?_)
  · obtain ⟨l, t, rows, ys, x, i, j, rfl, _⟩ := h
    rfl
  · obtain ⟨l, t, rows, ys, x, i, j, rfl, hL, hR, l100, hT, ci, cj, hrel, k⟩ := h
    refine ⟨_, (pss_cons (ps_par (i := 2) (j := 3) (by rfl) sc__law_keeps.nd rfl rfl (by decide) rfl rfl (pa_cons (pe_call c_law_class_of.G (hr.mono (by decide)) (by rfl) c_law_class_of.g c_law_class_of.F.kp c_law_class_of.b .nil pass0 (pa_cons (pv 0) (pa_cons (pe_ix ix_tup (pv 1) pe_int (fun _ _ => rfl)) pa_nil))) (pa_cons (pe_call c_law_class_of.G (hr.mono (by decide)) (by rfl) c_law_class_of.g c_law_class_of.F.kp c_law_class_of.b .nil pass0 (pa_cons (pv 0) (pa_cons (pe_ix ix_tup (pv 1) pe_int (fun _ _ => rfl)) pa_nil))) pa_nil)) (by rfl))
      (pss_cons (ps_if (pt_cmpR op_eq (pe_ix ix_tup (pv 1) pe_int (fun _ _ => rfl)) pe_str (nomark _))
        (pss_one (ps_ret (pe_cmpR op_lt (pv 2) (pv 3) (nomark _))))
        pss_nil)
      (pss_cons (ps_if (pt_cmpR op_eq (pe_ix ix_tup (pv 1) pe_int (fun _ _ => rfl)) pe_str (nomark _))
        (pss_one (ps_ret (pe_cmpR op_le (pv 2) (pv 3) (nomark _))))
        pss_nil)
      (pss_one (ps_ret (pe_cmpR op_eq (pe_cmpR op_eq (pv 2) (pv 3) (nomark _)) (pe_cmpR op_eq (pe_ix ix_tup (pv 1) pe_int (fun _ _ => rfl)) pe_str (nomark _)) (nomark _))))))), ?_⟩
    have ix0 : atI [V.str x.lo, .str x.rel, .str x.hi] 0 = some (V.str x.lo) := rfl
    have ix1 : atI [V.str x.lo, .str x.rel, .str x.hi] 1 = some (V.str x.rel) := rfl
    have ix2 : atI [V.str x.lo, .str x.rel, .str x.hi] 2 = some (V.str x.hi) := rfl
    refine ⟨_, rfl, _, rfl, t, _, _, _, rfl, rfl, hT, ix0, l, x.lo, rows, ys, i, rfl, hL, hR, ci, l100, fun H1 s1 => ?_⟩
    refine ⟨_, rfl, _, rfl, t, _, _, _, rfl, rfl, Kb.Same.seqT s1 hT, ix2, l, x.hi, rows, ys, j, rfl, Same.seq s1 hL, hR.imp fun _ _ h => h.same s1, cj, l100, fun H2 s2 => ?_⟩
    have S := Same.trans s1 s2
    have hT2 := Kb.Same.seqT S hT
    obtain ⟨r1, r2, r3, r4⟩ := rel_ne x.rel hrel
    refine ⟨_, _, rfl, _, rfl, t, _, _, _, rfl, rfl, hT2, ix1, rfl, _, rfl, ite2 (fun c => ?_) (fun c => ?_)⟩
    · have e : x.rel = "<" := V.str.inj (of_decide_eq_true c)
      refine ⟨_, rfl, _, rfl, _, _, rfl, rfl, k H2 _ S fun c2 => ?_⟩
      have := of_decide_eq_true c2
      exact ⟨fun _ => by omega, fun z => absurd z (r1 e).1, fun z => absurd z (r1 e).2.1, fun z => absurd z (r1 e).2.2⟩
    · have n1 : ¬ x.rel = "<" := fun e => c (decide_eq_true (by rw [e]))
      refine ⟨_, rfl, t, _, _, _, rfl, rfl, hT2, ix1, rfl, _, rfl, ite2 (fun c => ?_) (fun c => ?_)⟩
      · have e : x.rel = "<=" := V.str.inj (of_decide_eq_true c)
        refine ⟨_, rfl, _, rfl, _, _, rfl, rfl, k H2 _ S fun c2 => ?_⟩
        have := of_decide_eq_true c2
        exact ⟨fun z => absurd z n1, fun _ => by omega, fun z => absurd z (r2 e).2.1, fun z => absurd z (r2 e).2.2⟩
      · have n2 : ¬ x.rel = "<=" := fun e => c (decide_eq_true (by rw [e]))
        refine ⟨_, rfl, _, rfl, rfl, _, rfl, t, _, _, _, rfl, rfl, hT2, ix1, rfl, rfl, k H2 _ S fun c2 => ?_⟩
        have c3 : decide (nv i = nv j) = decide (V.str x.rel = V.str "=") := V.bl.inj (of_decide_eq_true c2)
        refine ⟨fun z => absurd z n1, fun z => absurd z n2, fun z => ?_, fun z y => ?_⟩
        · rw [z, decide_eq_true (rfl : V.str "=" = V.str "=")] at c3
          have := V.int.inj (of_decide_eq_true c3)
          omega
        · rw [y, decide_eq_true (rfl : nv j = nv j)] at c3
          have : x.rel = "=" := V.str.inj (of_decide_eq_true c3.symm)
          exact r3 this z
end
end K1
set_option Elab.async false
set_option linter.all false
set_option maxRecDepth 100000
set_option maxHeartbeats 4000000
namespace K1
open PySem PySem.Spec PyProof.Rows L2 Kb Kc Kn
abbrev s__law_classes : Stmt := top 62
theorem sc__law_classes : FnScope ["_law_pot_here", "_law_signs_here", "_law_word", "_law_found", "_law_sign", "_law_parts", "_law_row"] ["_law_pot_here", "_law_signs_here", "_law_word"] (defScope s__law_classes) := ⟨rfl, rfl, rfl, by decide +kernel, rfl, by decide +kernel, by decide +kernel⟩
/-! ### what is new since a call's start, but for some objects -/
def Pt (xs : List Addr) (H0 H : Hp) : Hp := fun b => if b ∈ xs then none else if H0 b = none then H b else none
section
variable {xs : List Addr} {H0 H H' : Hp}
theorem Pt.at {b : Addr} {o : HO} (h1 : b ∉ xs) (h2 : H0 b = none) (h3 : H b = some o) : Pt xs H0 H b = some o := by
  unfold Pt
  rw [if_neg h1, if_pos h2]
  exact h3
theorem Pt.inv {b : Addr} {o : HO} (h : Pt xs H0 H b = some o) : b ∉ xs ∧ H0 b = none ∧ H b = some o := by
  unfold Pt at h
  split at h
  · cases h
  · rename_i h1
    split at h
    · rename_i h2
      exact ⟨h1, h2, h⟩
    · cases h
theorem Pt.sub : Same (Pt xs H0 H) H := fun b o e => (Pt.inv e).2.2
theorem Pt.same (f : ∀ b o, b ∉ xs → H0 b = none → H b = some o → H' b = some o) : Same (Pt xs H0 H) (Pt xs H0 H') := fun b o e => by
  obtain ⟨h1, h2, h3⟩ := Pt.inv e
  exact Pt.at h1 h2 (f b o h1 h2 h3)
theorem Pt.put {a : Addr} {o : HO} (h : a ∈ xs) : Same (Pt xs H0 H) (Pt xs H0 (upd H a o)) := Pt.same fun b u h1 _ e => by
  rw [upd_ne (fun z => h1 (by rw [z]; exact h))]
  exact e
theorem Pt.new {a : Addr} {o : HO} (h : H a = none) : Same (Pt xs H0 H) (Pt xs H0 (upd H a o)) := Pt.same fun b u _ _ e => by
  rw [upd_ne (ne_of_none e h)]
  exact e
theorem Pt.ext {p : Addr} (x : Ext p H H') (h : p ∈ xs) : Same (Pt xs H0 H) (Pt xs H0 H') := Pt.same fun b u h1 _ e => x.at (fun z => h1 (by rw [z]; exact h)) e
theorem Pt.sm (s : Same H H') : Same (Pt xs H0 H) (Pt xs H0 H') := Pt.same fun b u _ _ e => s _ _ e
/-- what a callee has newly made -/
theorem Pt.callee {p : Addr} {H1 H2 : Hp} (hx : ∀ b ∈ xs, b = p ∨ H1 b ≠ none) (h0 : ∀ b, b ≠ p → H1 b = none → H0 b = none) : Same (New p H1 H2) (Pt xs H0 H2) := fun b o e => by
  have e1 := new_none e
  have e2 := new_rest _ _ e
  have bp : b ≠ p := fun z => by rw [z, rest_p] at e2; cases e2
  refine Pt.at (fun m => ?_) (h0 b bp e1) (rest_same p H2 _ _ e2)
  rcases hx b m with z | z
  · exact bp z
  · exact z e1
theorem Pt.toNew {p : Addr} (h : p ∈ xs) : Same (Pt xs H0 H) (New p H0 H) := fun b o e => by
  obtain ⟨h1, h2, h3⟩ := Pt.inv e
  exact new_at h2 (rest_at (fun z => h1 (by rw [z]; exact h)) h3)
theorem Pt.more {ys : List Addr} (h : ∀ b ∈ ys, b ∈ xs) : Same (Pt xs H0 H) (Pt ys H0 H) := fun b o e => by
  obtain ⟨h1, h2, h3⟩ := Pt.inv e
  exact Pt.at (fun m => h1 (h b m)) h2 h3
end
theorem _root_.Kb.Took.free {p q : Addr} {n m : Nat} {H H1 : Hp} (T : Took p n m H H1) (h : H1 q = none) (ne : q ≠ p) : H q = none := T.2.free ne h
/-! ### drawn classes -/
def rowsD (rows : List (List Str)) : List PyData := rows.map fun r => .list (r.map PyData.str)
def LRowX (H : Hp) (r : List Str) (y : V) : Prop := ∃ t : Addr, y = .ref t ∧ H t = some (.lst (r.map V.str))
theorem LRowX.row {K : PySem.W.Frag} {H : Hp} {r : List Str} {y : V} (h : LRowX H r y) : LRow K H r y := by
  obtain ⟨t, e, q⟩ := h
  exact ⟨t, e, .of q⟩
theorem LRowX.same {H H' : Hp} {r : List Str} {y : V} (s : Same H H') (h : LRowX H r y) : LRowX H' r y := by
  obtain ⟨t, e, q⟩ := h
  exact ⟨t, e, s _ _ q⟩
theorem dp_rows {K : PySem.W.Frag} {H : Hp} : ∀ {rows : List (List Str)} {ys : List V}, All2 (LRow K H) rows ys → DpAll K H ys (rowsD rows)
  | [], ys, h => by
    have : ys = [] := List.length_eq_zero_iff.mp h.1
    rw [this]
    exact .nil
  | r :: t, ys, h => by
    cases ys with
    | nil => exact absurd h.1 (by simp)
    | cons y u =>
      obtain ⟨a, rfl, q⟩ := h.2 0 y r rfl rfl
      refine .cons (.lst q (dp_strs r)) (dp_rows ⟨by have := h.1; simp at this; exact this, fun i y x e1 e2 => h.2 (i + 1) y x (by simpa using e1) (by simpa using e2)⟩)
theorem lay_rows : ∀ rows : List (List Str), (∀ r ∈ rows, ∀ s ∈ r, s ∈ SG) → PyData.canLayAll0 (rowsD rows) = true
  | [], _ => rfl
  | r :: t, h => by
    have := lay_rows t fun r m => h r (.tail _ m)
    unfold rowsD at this ⊢
    simp [PyData.canLayAll0, PyData.canLay0, lay_strs (h r (.head _)), this]
theorem dep_rows : ∀ rows : List (List Str), PyData.depthAll (rowsD rows) ≤ 1
  | [] => by
    show PyData.depthAll [] ≤ 1
    simp [PyData.depthAll]
  | r :: t => by
    have := dep_rows t
    unfold rowsD at this ⊢
    simp [PyData.depthAll, PyData.depth, dep_strs r]
    omega
theorem shaped_rowsA (rows : List (List Str)) (h : ∀ r ∈ rows, ∀ s ∈ r, s ∈ SG) : SeqAt.shaped (.list (rowsD rows)) = true := by
  have := dep_rows rows
  simp [SeqAt.shaped, PyData.canLay0, PyData.depth, lay_rows rows h]
  omega
theorem eqv_rowsA (rows : List (List Str)) : PyData.eqv (.list (rowsD rows)) (.list []) = rows.isEmpty := by
  cases rows <;> simp [PyData.eqv, PyData.eqvAll, rowsD]
theorem perm_of {α : Type} [DecidableEq α] : ∀ {xs ys : List α}, xs.Nodup → (∀ x ∈ xs, x ∈ ys) → ys.length ≤ xs.length → xs.Perm ys
  | [], ys, _, _, h => by
    have : ys = [] := List.length_eq_zero_iff.mp (by simpa using h)
    rw [this]
  | x :: t, ys, nd, sub, h => by
    rw [List.nodup_cons] at nd
    have mx := sub x (.head _)
    refine List.Perm.trans (List.Perm.cons x (perm_of nd.2 (fun y my => ?_) ?_)) (List.perm_cons_erase mx).symm
    · refine (List.mem_erase_of_ne ?_).mpr (sub y (.tail _ my))
      intro z
      exact nd.1 (by rw [← z]; exact my)
    · rw [List.length_erase_of_mem mx]
      simp at h
      omega
theorem filter_perm {α : Type} (p : α → Bool) : ∀ l : List α, (l.filter p ++ l.filter fun x => !p x).Perm l
  | [] => .nil
  | x :: t => by
    cases h : p x with
    | true => simp [h]; exact filter_perm p t
    | false =>
      simp [h]
      exact List.Perm.trans List.perm_middle (List.Perm.cons x (filter_perm p t))
def spClasses (K : PySem.W.Frag) : Sp := fun vs H Q _ => ∃ (p a : Addr) (sg : List Str) (word : Str) (n : Nat), vs = [.ref p, .ref a, .str word] ∧ PotAt H p n ∧ n + 20 ≤ 900000 ∧ SqL K (Rest p H) a (sg.map V.str) ∧ SgOk sg ∧
  ∀ H' y rows, Took p n 20 H H' → LRows K (New p H H') rows y → ClsOk sg rows → (word = "figures" → FigOk rows) → Q y H'
def ClsInv (p a q r : Addr) (word : Str) (ss : List Str) (m n : Nat) (H : Hp) (i : Nat) (σ : L2.St) (H2 : Hp) : Prop := ∃ (v4 : Option V) (rows : List (List Str)) (ys : List V), σ = [some (.ref p), some (.ref a), some (.str word), some (.ref q), v4, none, none] ∧ Took p n (m + i) H H2 ∧ H2 r = some (.lst (ss.map V.str)) ∧ H2 q = some (.lst ys) ∧ All2 (LRowX (Pt [p, q, r] H H2)) rows ys ∧ rows.flatten = ss.take i ∧ (∀ r ∈ rows, r ≠ [])
theorem len_flat {α : Type} : ∀ {rows : List (List α)}, (∀ r ∈ rows, r ≠ []) → rows.length ≤ rows.flatten.length
  | [], _ => Nat.le_refl _
  | r :: t, h => by
    have h1 := len_flat fun r m => h r (.tail _ m)
    have h2 := List.length_pos_iff.mpr (h r (.head _))
    rw [List.flatten_cons, List.length_append, List.length_cons]
    omega
theorem ixN_last {xs : List V} {v : V} : ixN (xs ++ [v]).length (-1) = some xs.length := by
  unfold ixN
  simp
  omega
theorem atI_last {xs : List V} {v : V} : atI (xs ++ [v]) (-1) = some v := by
  unfold atI
  rw [ixN_last, Option.bind_some]
  simp
def sing (l : List Str) : List (List Str) := l.map fun s => [s]
theorem sing_flat : ∀ l : List Str, (sing l).flatten = l
  | [] => rfl
  | x :: t => by
    have := sing_flat t
    unfold sing at this ⊢
    rw [List.map_cons, List.flatten_cons, this]
    rfl
theorem sing_mem {l : List Str} {r : List Str} (h : r ∈ sing l) : ∃ s ∈ l, r = [s] := by
  obtain ⟨s, hs, e⟩ := List.mem_map.mp h
  exact ⟨s, hs, e.symm⟩
def figL (pre : List Str) : List (List Str) := sing (pre.filter isFig)
def nofigL (pre : List Str) : List (List Str) := sing (pre.filter fun s => !isFig s)
theorem figs_fig {pre : List Str} : ∀ r ∈ figL pre, ∀ s ∈ r, isFig s = true := fun r m s ms => by
  obtain ⟨x, hx, rfl⟩ := sing_mem m
  have : s = x := by simpa using ms
  rw [this]
  exact (List.mem_filter.mp hx).2
theorem nofigs_fig {pre : List Str} : ∀ r ∈ nofigL pre, ∀ s ∈ r, isFig s = false := fun r m s ms => by
  obtain ⟨x, hx, rfl⟩ := sing_mem m
  have : s = x := by simpa using ms
  rw [this]
  have := (List.mem_filter.mp hx).2
  simpa using this
theorem parts_cls {pre sg : List Str} (h : pre.Perm sg) : ClsOk sg (figL pre ++ nofigL pre) ∧ ClsOk sg (nofigL pre ++ figL pre) := by
  have ne : ∀ r ∈ figL pre ++ nofigL pre, r ≠ [] := fun r m => by
    rcases List.mem_append.mp m with m | m <;> obtain ⟨x, _, rfl⟩ := sing_mem m <;> simp
  have e1 : (figL pre ++ nofigL pre).flatten.Perm sg := by
    rw [List.flatten_append]
    unfold figL nofigL
    rw [sing_flat, sing_flat]
    exact List.Perm.trans (filter_perm isFig pre) h
  refine ⟨⟨ne, e1⟩, ⟨fun r m => ne r ?_, ?_⟩⟩
  · rcases List.mem_append.mp m with m | m
    · exact List.mem_append_right _ m
    · exact List.mem_append_left _ m
  · rw [List.flatten_append] at e1 ⊢
    exact List.Perm.trans List.perm_append_comm e1
def PartInv (p a q lp l0 l1 l2 : Addr) (word : Str) (rows : List (List Str)) (ys : List V) (n : Nat) (H : Hp) (pre : List Str) (v6 : Option V) (σ : L2.St) (H4 : Hp) : Prop := ∃ (v4 : Option V) (Y1 Y2 : List V), σ = [some (.ref p), some (.ref a), some (.str word), some (.ref q), v4, some (.ref lp), v6] ∧ Took p n 16 H H4 ∧
  H4 q = some (.lst ys) ∧ All2 (LRowX (Pt [p, q, l1, l2] H H4)) rows ys ∧ H4 lp = some (.lst [.ref l0, .ref l1, .ref l2]) ∧ H4 l1 = some (.lst Y1) ∧ H4 l2 = some (.lst Y2) ∧ All2 (LRowX (Pt [p, q, l1, l2] H H4)) (figL pre) Y1 ∧ All2 (LRowX (Pt [p, q, l1, l2] H H4)) (nofigL pre) Y2
section
variable {P : Program} {w : World} {K : PySem.W.Frag} {mg : Str → Option Value} {base : Heap}
theorem ok_classes {f f_law_take f_law_some f_law_is_figure f_law_are_beside : Addr} {fd fd_law_take fd_law_some fd_law_is_figure fd_law_are_beside : FuncData} (F : Fun K "_law_classes" "_law_classes" s__law_classes f fd) (B : Bl mg)
    (c_law_take : Cal P w K mg base 1 "_law_take" s__law_take ["_law_pot_here", "_law_upto"] spTake f_law_take fd_law_take)
    (c_law_some : Cal P w K mg base 2 "_law_some" s__law_some ["_law_pot_here", "_law_pool", "_law_many"] (spSome K) f_law_some fd_law_some)
    (c_law_is_figure : Cal P w K mg base 1 "_law_is_figure" s__law_is_figure ["_law_sign"] spIsFig f_law_is_figure fd_law_is_figure)
    (c_law_are_beside : Cal P w K mg base 2 "_law_are_beside" s__law_are_beside ["_law_classes_here"] (spBeside2 K) f_law_are_beside fd_law_are_beside) :
    FnOk P w K mg base CX0 3 f fd ["_law_pot_here", "_law_signs_here", "_law_word"] (spClasses K) := by
  refine F.ok sc__law_classes (fun vs H Q E h => ?_) (fun cdv A outer s H vs Q E hr h => ?_)
  · obtain ⟨p, a, sg, word, n, rfl, _⟩ := h
    rfl
  · obtain ⟨p, a, sg, word, n, rfl, hP, hn, hA, hsg, k⟩ := h
    refine ⟨_, (pss_cons (ps_set (i := 3) sc__law_classes.nd rfl (Or.inl rfl) (pe_lstB pa_nil))
      (pss_cons (ps_for PassesOwn.never rfl (pi_list (pe_call c_law_some.G (hr.mono (by decide)) (by rfl) c_law_some.g c_law_some.F.kp c_law_some.b .nil pass0 (pa_cons (pv 0) (pa_cons (pv 1) (pa_cons (pe_callB call_len_seq (by rfl) B.len (by decide +kernel) (pa_cons (pv 1) pa_nil)) pa_nil))))) (pg_name (i := 4) sc__law_classes.nd rfl (Or.inl rfl))
        (pss_one (ps_if (PW.pt (pw_and (pt_cmpR (op_neD hr.units) (pv 3) (pe_lstB pa_nil) (nomark _)) (pw_and1 (pt_cmpR op_eq (pe_call c_law_take.G (hr.mono (by decide)) (by rfl) c_law_take.g c_law_take.F.kp c_law_take.b .nil pass0 (pa_cons (pv 0) (pa_cons pe_int pa_nil))) pe_int (nomark _)))))
        (pss_one (ps_asg (pe_op op_cat (pe_ix ix_list (pv 3) (pe_un un_neg pe_int) (fun _ _ => rfl)) (pe_lstB (pa_cons (pv 4) pa_nil))) (pg_sub (pv 3) (pe_un un_neg pe_int) set_list)))
        (pss_one (ps_expr (pe_bm PySem.F.plainAttrs_list PySem.F.slot_list_append PySem.F.type_list_append mt_append (pv 3) (pa_cons (pe_lstB (pa_cons (pv 4) pa_nil)) pa_nil)))))))
      (pss_cons (ps_if (PW.pt (pw_or (pt_cmpR op_ne (pv 2) pe_str (nomark _)) (pw_or1 (pt_val (pe_call c_law_are_beside.G (hr.mono (by decide)) (by rfl) c_law_are_beside.g c_law_are_beside.F.kp c_law_are_beside.b .nil pass0 (pa_cons (pv 3) pa_nil))))))
        (pss_one (ps_ret (pv 3)))
        pss_nil)
      (pss_cons (ps_set (i := 5) sc__law_classes.nd rfl (Or.inl rfl) (pe_lstB (pa_cons (pe_lstB pa_nil) (pa_cons (pe_lstB pa_nil) (pa_cons (pe_lstB pa_nil) pa_nil)))))
      (pss_cons (ps_for PassesOwn.never rfl (pi_list (pv 3)) (pg_name (i := 6) sc__law_classes.nd rfl (Or.inl rfl))
        (pss_one (ps_for PassesOwn.never rfl (pi_list (pv 6)) (pg_name (i := 4) sc__law_classes.nd rfl (Or.inl rfl))
        (pss_one (ps_expr (pe_bm PySem.F.plainAttrs_list PySem.F.slot_list_append PySem.F.type_list_append mt_append (pe_ix ix_list (pv 5) (pe_ifExp (pt_val (pe_call c_law_is_figure.G (hr.mono (by decide)) (by rfl) c_law_is_figure.g c_law_is_figure.F.kp c_law_is_figure.b .nil pass0 (pa_cons (pv 4) pa_nil))) pe_int pe_int) (fun _ _ => rfl)) (pa_cons (pe_lstB (pa_cons (pv 4) pa_nil)) pa_nil)))))))
      (pss_one (ps_ret (pe_ifExp (pt_cmpR op_eq (pe_call c_law_take.G (hr.mono (by decide)) (by rfl) c_law_take.g c_law_take.F.kp c_law_take.b .nil pass0 (pa_cons (pv 0) (pa_cons pe_int pa_nil))) pe_int (nomark _)) (pe_op op_cat (pe_ix ix_list (pv 5) pe_int (fun _ _ => rfl)) (pe_ix ix_list (pv 5) pe_int (fun _ _ => rfl))) (pe_op op_cat (pe_ix ix_list (pv 5) pe_int (fun _ _ => rfl)) (pe_ix ix_list (pv 5) pe_int (fun _ _ => rfl))))))))))), ?_⟩
    have s8 := hsg.2.1
    have hA0 := seq_rest hA
    refine ⟨(by show 0 ≤ sizeLine; decide), fun q hq _ => ?_⟩
    have pq : q ≠ p := hP.ne hq
    have T0 : Took p n 0 H (upd H q (.lst [])) := (Took.refl hP).new hq
    refine ⟨_, rfl, _, rfl, _, rfl, a, _, rfl, .inl (Same.seq (Kb.same_upd hq) hA0), ?_⟩
    rw [List.length_map]
    refine ⟨p, a, sg, sg.length, n, rfl, T0.1, by omega, seq_ext T0.2 hA, hsg.2.2.1, Nat.le_refl _, by omega, fun H1 r ss T1 hr0 _ er sl snd ssub => ?_⟩
    have sp : ss.Perm sg := perm_of snd ssub (by omega)
    have T1' := T0.go T1
    have pr : r ≠ p := fun z => by rw [z, rest_p] at er; cases er
    have er1 : H1 r = some (.lst (ss.map V.str)) := rest_same p H1 _ _ er
    have eq1 : H1 q = some (.lst []) := T1.2.at pq upd_same
    have rq : r ≠ q := fun z => by rw [z, upd_same] at hr0; cases hr0
    have hr00 : H r = none := (Kb.same_upd hq).free hr0
    refine ⟨r, rfl, ⟨_, .of er1⟩, for_it (walk_list (xs := ss.map V.str)) (ClsInv p a q r word ss sg.length n H) ⟨none, [], [], rfl, by rw [Nat.add_zero]; exact T1'.mono (by omega), er1, eq1, .nil, rfl, fun r m => by simp at m⟩ (fun i σ H2 _ ⟨_, _, _, _, _, e, _⟩ => .of e) (fun i x σ H3 H2 hi ⟨v4, rows, ys, e, T2, er2, eq2, hR, hf, hne⟩ y => ?_) fun σ H2 ⟨v4, rows, ys, e, T2, er2, eq2, hR, hf, hne⟩ => ?_⟩
    · subst e
      obtain ⟨rfl, hx⟩ := y
      rw [List.length_map] at hi
      obtain ⟨z, hz⟩ : ∃ z, ss[i]? = some z := ⟨_, List.getElem?_eq_getElem hi⟩
      have ex : x = V.str z := by
        rw [List.getElem?_map, hz] at hx
        exact (Option.some.inj hx).symm
      subst ex
      have etk : ss.take (i + 1) = ss.take i ++ [z] := by rw [List.take_succ, hz]; rfl
      have rl : rows.length ≤ i := by
        have h1 := len_flat hne
        rw [hf, List.length_take] at h1
        omega
      have inSG : ∀ r ∈ rows, ∀ s ∈ r, s ∈ SG := fun r m s ms => by
        have h1 : s ∈ rows.flatten := List.mem_flatten.mpr ⟨r, m, ms⟩
        rw [hf] at h1
        exact hsg.2.2.2 s (ssub s (List.mem_of_mem_take h1))
      have fin : ∀ (H4 H5 : Hp) (m : Nat) (rows' : List (List Str)) (ys' : List V) (v : Option V), True := fun _ _ _ _ _ _ => trivial
      have app : ∀ (H4 : Hp) (e : Nat), Took p n e H H4 → e ≤ sg.length + (i + 1) → H4 r = some (.lst (ss.map V.str)) → H4 q = some (.lst ys) → All2 (LRowX (Pt [p, q, r] H H4)) rows ys →
          tDrop (tBM K "list" rAppend (tVar 3) (tCons (tLstB (tCons (tVar 4) tNil)) tNil)) { nx := ClsInv p a q r word ss sg.length n H (i + 1), rt := Q } [some (.ref p), some (.ref a), some (.str word), some (.ref q), some (.str z), none, none] H4 := fun H4 e T4 he er4 eq4 hR4 => by
        refine ⟨_, rfl, .inl ⟨rfl, _, .of eq4⟩, _, rfl, (by show 1 ≤ sizeLine; decide), fun t1 ht1 _ => ?_⟩
        have S4 := Kb.same_upd (o := .lst [.str z]) ht1
        refine ⟨q, ys, _, rfl, rfl, S4 _ _ eq4, by rw [hR4.1]; exact Nat.lt_of_le_of_lt (show _ ≤ 8 by omega) (by decide), ?_⟩
        have t1p : t1 ≠ p := T4.1.ne ht1
        have h1n : H t1 = none := T4.free ht1 t1p
        have t1q : t1 ≠ q := fun z => by rw [z, eq4] at ht1; cases ht1
        have t1r : t1 ≠ r := fun z => by rw [z, er4] at ht1; cases ht1
        refine ⟨_, rows ++ [[z]], ys ++ [.ref t1], rfl, ((T4.new ht1).put hq pq).mono he, by rw [upd_ne rq]; exact S4 _ _ er4, upd_same, All2.snoc (hR4.imp fun _ _ h => h.same (Same.trans (Pt.new ht1) (Pt.put (by simp)))) ⟨t1, rfl, Pt.at (by simp [t1p, t1q, t1r]) h1n (by rw [upd_ne t1q, upd_same]; rfl)⟩, by rw [List.flatten_append, hf, etk]; rfl, fun r' m => ?_⟩
        rcases List.mem_append.mp m with m | m
        · exact hne r' m
        · have : r' = [z] := by simpa using m
          rw [this]
          simp
      refine ⟨_, rfl, (by show 0 ≤ sizeLine; decide), fun t0 ht0 _ => ?_⟩
      have S3 := Kb.same_upd (o := .lst []) ht0
      have T3 := T2.new (o := .lst []) ht0
      have dp : DpAll K (upd H2 t0 (.lst [])) ys (rowsD rows) := dp_rows (hR.imp fun _ _ h => (h.same (Same.trans Pt.sub S3)).row)
      refine ⟨.list (rowsD rows), .list [], .lst (.of (S3 _ _ eq2)) dp, .lst (.of upd_same) .nil, shaped_rowsA rows inSG, by decide +kernel, ?_⟩
      rw [eqv_rowsA]
      refine ⟨_, rfl, ite2 (fun c => ?_) (fun c => ?_)⟩
      · -- there is a row
        have rne : rows ≠ [] := by
          cases rows with
          | nil => cases c
          | cons => simp
        refine ⟨_, rfl, p, 4, _, rfl, T3.1, by omega, by decide, by decide, fun H4 d d0 d1 T4 => ⟨rfl, _, rfl, ite2 (fun c2 => ?_) (fun c2 => ?_)⟩⟩
        · have T4' := T3.go T4
          have er4 := T4.2.at pr (S3 _ _ er2)
          have eq4 := T4.2.at pq (S3 _ _ eq2)
          have hR4 : All2 (LRowX (Pt [p, q, r] H H4)) rows ys := hR.imp fun _ _ h => h.same (Same.trans (Pt.new ht0) (Pt.ext T4.2 (by simp)))
          obtain ⟨R, la, rfl⟩ : ∃ R la, rows = R ++ [la] := ⟨_, _, (List.dropLast_concat_getLast rne).symm⟩
          obtain ⟨Y, yl, rfl⟩ : ∃ Y yl, ys = Y ++ [yl] := by
            have : ys ≠ [] := fun z => by
              have := hR.1
              rw [z] at this
              simp at this
            exact ⟨_, _, (List.dropLast_concat_getLast this).symm⟩
          have yl1 : Y.length = R.length := by
            have := hR.1
            simp at this
            exact this
          obtain ⟨tl, etl, htl⟩ := hR4.2 R.length yl la (by rw [← yl1]; simp) (by simp)
          have hRp : All2 (LRowX (Pt [p, q, r] H H4)) R Y := ⟨yl1, fun j y x e1 e2 => by
            have lt := (List.getElem?_eq_some_iff.mp e2).1
            exact hR4.2 j y x (by rw [List.getElem?_append_left (by omega)]; exact e1) (by rw [List.getElem?_append_left lt]; exact e2)⟩
          have hY4 : Y.length ≤ 8 := by
            rw [yl1]
            have := rl
            simp at this
            omega
          subst etl
          obtain ⟨tlm, tl0, tl4⟩ := Pt.inv htl
          have lal : la.length ≤ 8 := by
            have h1 : (R ++ [la]).flatten.length ≤ 8 := by
              rw [hf, List.length_take]
              omega
            rw [List.flatten_append, List.length_append] at h1
            simp at h1
            omega
          refine ⟨_, rfl, 1, rfl, q, _, -1, _, rfl, rfl, .of eq4, atI_last, _, rfl, (by show 1 ≤ sizeLine; decide), fun t1 ht1 _ => ?_⟩
          have S4 := Kb.same_upd (o := .lst [.str z]) ht1
          refine ⟨tl, t1, _, _, rfl, rfl, S4 _ _ tl4, upd_same, ?_, fun t2 ht2 => ?_⟩
          · rw [List.length_map]
            exact Nat.le_trans (show la.length + 1 ≤ 9 by omega) (by decide)
          have S5 := Kb.same_upd (o := .lst (la.map V.str ++ [.str z])) ht2
          have S45 := Same.trans S4 S5
          have T5 := (T4'.new (o := .lst [.str z]) ht1).new (o := .lst (la.map V.str ++ [.str z])) ht2
          have t2p : t2 ≠ p := (T4'.new (o := .lst [.str z]) ht1).1.ne ht2
          have h2n : H t2 = none := (T4'.new (o := .lst [.str z]) ht1).free ht2 t2p
          have t2q : t2 ≠ q := fun z => by rw [z, S4 _ _ eq4] at ht2; cases ht2
          have t2r : t2 ≠ r := fun z => by rw [z, S4 _ _ er4] at ht2; cases ht2
          have es : (Y ++ [V.ref tl]).set Y.length (.ref t2) = Y ++ [.ref t2] := by simp
          refine ⟨_, rfl, 1, rfl, q, _, -1, _, rfl, rfl, S45 _ _ eq4, ixN_last, ?_⟩
          rw [es]
          refine ⟨_, R ++ [la ++ [z]], Y ++ [.ref t2], rfl, (T5.put hq pq).mono (by omega), by rw [upd_ne rq]; exact S45 _ _ er4, upd_same, All2.snoc (hRp.imp fun _ _ h => h.same (Same.trans (Pt.sm S45) (Pt.put (by simp)))) ⟨t2, rfl, Pt.at (by simp [t2p, t2q, t2r]) h2n (by rw [upd_ne t2q, upd_same]; simp)⟩, ?_, fun r' m => ?_⟩
          · rw [etk, ← hf]
            simp
          · rcases List.mem_append.mp m with m | m
            · exact hne r' (List.mem_append_left _ m)
            · have : r' = la ++ [z] := by simpa using m
              rw [this]
              simp
        · exact app H4 _ (T3.go T4) (by omega) (T4.2.at pr (S3 _ _ er2)) (T4.2.at pq (S3 _ _ eq2)) (hR.imp fun _ _ h => h.same (Same.trans (Pt.new ht0) (Pt.ext T4.2 (by simp))))
      · exact app _ _ T3 (by omega) (S3 _ _ er2) (S3 _ _ eq2) (hR.imp fun _ _ h => h.same (Pt.new ht0))
    · subst e
      rw [List.length_map, List.take_length] at hf
      rw [List.length_map] at T2
      have hcls : ClsOk sg rows := ⟨hne, by rw [hf]; exact sp⟩
      have rl : rows.length ≤ 8 := by
        have h1 := len_flat hne
        rw [hf] at h1
        omega
      have inSG : ∀ r ∈ rows, ∀ s ∈ r, s ∈ SG := fun r m s ms => by
        have h1 : s ∈ rows.flatten := List.mem_flatten.mpr ⟨r, m, ms⟩
        rw [hf] at h1
        exact hsg.2.2.2 s (ssub s h1)
      have r8 : ∀ r ∈ rows, r.length ≤ 8 := fun r m => by
        obtain ⟨A, Z, e⟩ := List.append_of_mem m
        have h1 : rows.flatten.length ≤ 8 := by rw [hf]; omega
        rw [e, List.flatten_append, List.length_append, List.flatten_cons, List.length_append] at h1
        omega
      have rne : rows ≠ [] := fun z => by
        rw [z] at hf
        have : ss = [] := hf.symm
        rw [this] at sl
        have h1 := List.length_pos_iff.mpr hsg.1
        simp at sl
        omega
      have sl8 : ss.length ≤ 8 := by omega
      have row : ∀ {H4 : Hp} {xs : List Addr} {R : List (List Str)} {Y : List V}, p ∈ xs → All2 (LRowX (Pt xs H H4)) R Y → All2 (LRow K (New p H H4)) R Y := fun hx h => h.imp fun _ _ h => (h.same (Pt.toNew hx)).row
      have ret : ∀ H4, Took p n 16 H H4 → H4 q = some (.lst ys) → All2 (LRowX (Pt [p, q, r] H H4)) rows ys → (word = "figures" → FigOk rows) → Q (.ref q) H4 := fun H4 T4 e4 h4 hF => k H4 _ rows (T4.mono (by omega)) ⟨q, ys, rfl, .of (new_at hq (rest_at pq e4)), row (by simp) h4⟩ hcls hF
      have T2' := T2.mono (show sg.length + ss.length ≤ 16 by omega)
      refine ⟨_, rfl, rfl, _, rfl, ite2 (fun c => ?_) (fun c => ?_)⟩
      · exact ⟨_, rfl, ret H2 T2' eq2 hR fun z => by rw [z] at c; exact absurd c (by decide +kernel)⟩
      · refine ⟨_, rfl, q, rows, ys, rfl, .of eq2, hR.imp fun _ _ h => (h.same Pt.sub).row, rne, fun r m => ⟨hne r m, r8 r m, inSG r m⟩, rl, fun H3 b s23 hb => ⟨_, rfl, ite2 (fun c2 => ?_) (fun c2 => ?_)⟩⟩
        · exact ⟨_, rfl, ret H3 ⟨T2'.1.same s23, T2'.2.trans (.same s23)⟩ (s23 _ _ eq2) (hR.imp fun _ _ h => h.same (Pt.sm s23)) fun _ => hb c2⟩
        · have T3 : Took p n 16 H H3 := ⟨T2'.1.same s23, T2'.2.trans (.same s23)⟩
          have eq3 := s23 _ _ eq2
          have hR3 : All2 (LRowX (Pt [p, q, r] H H3)) rows ys := hR.imp fun _ _ h => h.same (Pt.sm s23)
          refine ⟨(by show 0 ≤ sizeLine; decide), fun l0 h0 _ => ⟨(by show 0 ≤ sizeLine; decide), fun l1 h1 _ => ⟨(by show 0 ≤ sizeLine; decide), fun l2 h2 _ => ⟨(by show 3 ≤ sizeLine; decide), fun lp hlp _ => ?_⟩⟩⟩⟩
          have n0 : H l0 = none := T3.free h0 (T3.1.ne h0)
          have T3a := T3.new (o := .lst []) h0
          have p1 : l1 ≠ p := T3a.1.ne h1
          have n1 : H l1 = none := T3a.free h1 p1
          have T3b := T3a.new (o := .lst []) h1
          have p2 : l2 ≠ p := T3b.1.ne h2
          have n2 : H l2 = none := T3b.free h2 p2
          have T3c := T3b.new (o := .lst []) h2
          have T3d := T3c.new (o := .lst [.ref l0, .ref l1, .ref l2]) hlp
          have S0 := Kb.same_upd (o := .lst []) h0
          have S1 := Kb.same_upd (o := .lst []) h1
          have S2 := Kb.same_upd (o := .lst []) h2
          have S3 := Kb.same_upd (o := .lst [.ref l0, .ref l1, .ref l2]) hlp
          have d12 : l1 ≠ l2 := fun z => by rw [← z, upd_same] at h2; cases h2
          have dq1 : l1 ≠ q := fun z => by rw [z, S0 _ _ eq3] at h1; cases h1
          have dq2 : l2 ≠ q := fun z => by rw [z, S1 _ _ (S0 _ _ eq3)] at h2; cases h2
          have dl1 : l1 ≠ lp := fun z => by rw [← z, S2 _ _ upd_same] at hlp; cases hlp
          have dl2 : l2 ≠ lp := fun z => by rw [← z, upd_same] at hlp; cases hlp
          have S := Same.trans S0 (Same.trans S1 (Same.trans S2 S3))
          have g1 : (upd (upd (upd (upd H3 l0 (.lst [])) l1 (.lst [])) l2 (.lst [])) lp (.lst [.ref l0, .ref l1, .ref l2])) l1 = some (.lst []) := S3 _ _ (S2 _ _ upd_same)
          have g2 : (upd (upd (upd (upd H3 l0 (.lst [])) l1 (.lst [])) l2 (.lst [])) lp (.lst [.ref l0, .ref l1, .ref l2])) l2 = some (.lst []) := S3 _ _ upd_same
          have g3 : (upd (upd (upd (upd H3 l0 (.lst [])) l1 (.lst [])) l2 (.lst [])) lp (.lst [.ref l0, .ref l1, .ref l2])) lp = some (.lst [.ref l0, .ref l1, .ref l2]) := upd_same
          have m1 : H3 l1 = none := S0.free h1
          have m2 : H3 l2 = none := (Same.trans S0 S1).free h2
          obtain ⟨J, qJ⟩ : ∃ z, z = upd (upd (upd (upd H3 l0 (.lst [])) l1 (.lst [])) l2 (.lst [])) lp (.lst [.ref l0, .ref l1, .ref l2]) := ⟨_, rfl⟩
          rw [← qJ] at T3d S g1 g2 g3 ⊢
          have hRJ : All2 (LRowX (Pt [p, q, l1, l2] H J)) rows ys := hR3.imp fun _ _ ⟨t, e, h⟩ => by
            obtain ⟨x1, x2, x3⟩ := Pt.inv h
            simp only [List.mem_cons, List.not_mem_nil, or_false, not_or] at x1
            exact ⟨t, e, Pt.at (by
              simp only [List.mem_cons, List.not_mem_nil, or_false, not_or]
              exact ⟨x1.1, x1.2.1, fun z => (by rw [z, m1] at x3; cases x3), fun z => (by rw [z, m2] at x3; cases x3)⟩) x2 (S _ _ x3)⟩
          refine ⟨_, rfl, q, rfl, ⟨_, .of (S _ _ eq3)⟩, for_it (walk_list (xs := ys)) (fun i σ H4 => ∃ v6, PartInv p a q lp l0 l1 l2 word rows ys n H (rows.take i).flatten v6 σ H4) ⟨none, _, [], [], rfl, T3d, S _ _ eq3, hRJ, g3, g1, g2, .nil, .nil⟩ (fun i σ H4 _ ⟨_, _, _, _, _, _, e, _⟩ => .of e) (fun i x σ H5 H4 hi ⟨v6, v4, Y1, Y2, e, T4, eq4, hR4, ep4, e14, e24, a1, a2⟩ y => ?_) fun σ H4 ⟨v6, v4, Y1, Y2, e, T4, eq4, hR4, ep4, e14, e24, a1, a2⟩ => ?_⟩
          · subst e
            obtain ⟨rfl, hx⟩ := y
            obtain ⟨ro, hro⟩ : ∃ r, rows[i]? = some r := ⟨_, List.getElem?_eq_getElem (by rw [← hR.1]; exact hi)⟩
            obtain ⟨tr, rfl, htr⟩ := hR4.2 i x ro hx hro
            have rom := List.mem_of_getElem? hro
            have etk : (rows.take (i + 1)).flatten = (rows.take i).flatten ++ ro := by rw [List.take_succ, hro]; simp
            have trx := Pt.inv htr
            show tFor _ _ _ _ _ _
            refine ⟨_, rfl, tr, rfl, ⟨_, .of trx.2.2⟩, for_it (walk_list (xs := ro.map V.str)) (fun j σ H4 => PartInv p a q lp l0 l1 l2 word rows ys n H ((rows.take i).flatten ++ ro.take j) (some (.ref tr)) σ H4 ∧ H4 tr = some (.lst (ro.map V.str))) ⟨⟨_, Y1, Y2, rfl, T4, eq4, hR4, ep4, e14, e24, by simpa using a1, by simpa using a2⟩, trx.2.2⟩ (fun j σ H4 _ ⟨_, e⟩ => .of e) (fun j x σ H5 H4 hj ⟨⟨v4, Y1, Y2, e, T4, eq4, hR4, ep4, e14, e24, a1, a2⟩, etr⟩ y => ?_) fun σ H4 ⟨h, _⟩ => ?_⟩
            · subst e
              obtain ⟨rfl, hx⟩ := y
              rw [List.length_map] at hj
              obtain ⟨z, hz⟩ : ∃ z, ro[j]? = some z := ⟨_, List.getElem?_eq_getElem hj⟩
              have ex : x = V.str z := by
                rw [List.getElem?_map, hz] at hx
                exact (Option.some.inj hx).symm
              subst ex
              have et2 : (rows.take i).flatten ++ ro.take (j + 1) = ((rows.take i).flatten ++ ro.take j) ++ [z] := by rw [List.take_succ, hz]; simp
              rw [et2]
              obtain ⟨pre, hpre⟩ : ∃ pre, pre = (rows.take i).flatten ++ ro.take j := ⟨_, rfl⟩
              rw [← hpre] at a1 a2 ⊢
              have pl : pre.length ≤ 8 := by
                have h1 : (rows.take (i + 1)).flatten.length ≤ 8 := by
                  have h2 := congrArg List.length hf
                  have h3 := congrArg (fun l => l.flatten.length) (List.take_append_drop (i + 1) rows)
                  simp only [List.flatten_append, List.length_append] at h3
                  omega
                rw [etk, List.length_append] at h1
                rw [hpre, List.length_append, List.length_take]
                omega
              have fl : (figL pre).length ≤ 8 := by
                unfold figL sing
                rw [List.length_map]
                exact Nat.le_trans (List.length_filter_le _ _) pl
              have nl : (nofigL pre).length ≤ 8 := by
                unfold nofigL sing
                rw [List.length_map]
                exact Nat.le_trans (List.length_filter_le _ _) pl
              have zsg : z ∈ SG := inSG ro rom z (List.mem_of_getElem? hz)
              have put : ∀ {li : Addr} {Y : List V}, li = l1 ∨ li = l2 → H4 li = some (.lst Y) → Y.length ≤ 8 → (∀ H6 t1, Took p n 16 H H6 → H6 q = some (.lst ys) → All2 (LRowX (Pt [p, q, l1, l2] H H6)) rows ys → H6 lp = some (.lst [.ref l0, .ref l1, .ref l2]) → (∀ b o, H4 b = some o → b ≠ li → H6 b = some o) → H6 li = some (.lst (Y ++ [.ref t1])) → LRowX (Pt [p, q, l1, l2] H H6) [z] (.ref t1) → (∀ {R Y}, All2 (LRowX (Pt [p, q, l1, l2] H H4)) R Y → All2 (LRowX (Pt [p, q, l1, l2] H H6)) R Y) →
                  PartInv p a q lp l0 l1 l2 word rows ys n H (pre ++ [z]) (some (.ref tr)) [some (.ref p), some (.ref a), some (.str word), some (.ref q), some (.str z), some (.ref lp), some (.ref tr)] H6) →
                  tCons (tLstB (tCons (tVar 4) tNil)) tNil [some (.ref p), some (.ref a), some (.str word), some (.ref q), some (.str z), some (.ref lp), some (.ref tr)] H4 (fun xs H2 => rAppend (.ref li) xs H2 fun x H1 => PartInv p a q lp l0 l1 l2 word rows ys n H (pre ++ [z]) (some (.ref tr)) [some (.ref p), some (.ref a), some (.str word), some (.ref q), some (.str z), some (.ref lp), some (.ref tr)] H1 ∧ H1 tr = some (.lst (ro.map V.str))) := fun {li Y} hli eli Yl fin => by
                refine ⟨_, rfl, (by show 1 ≤ sizeLine; decide), fun t1 ht1 _ => ?_⟩
                have S4 := Kb.same_upd (o := .lst [.str z]) ht1
                refine ⟨li, Y, _, rfl, rfl, S4 _ _ eli, Nat.lt_of_le_of_lt Yl (by decide), ?_⟩
                have t1p : t1 ≠ p := T4.1.ne ht1
                have h1n : H t1 = none := T4.free ht1 t1p
                have t1q : t1 ≠ q := fun z => by rw [z, eq4] at ht1; cases ht1
                have t11 : t1 ≠ l1 := fun z => by rw [z, e14] at ht1; cases ht1
                have t12 : t1 ≠ l2 := fun z => by rw [z, e24] at ht1; cases ht1
                have t1l : t1 ≠ li := fun z => by rw [z, eli] at ht1; cases ht1
                have lip : li ≠ p := by rcases hli with rfl | rfl <;> assumption
                have liq : q ≠ li := by rcases hli with rfl | rfl <;> exact Ne.symm (by assumption)
                have lil : lp ≠ li := by rcases hli with rfl | rfl <;> exact Ne.symm (by assumption)
                have lin : H li = none := by rcases hli with rfl | rfl <;> assumption
                have lim : li ∈ [p, q, l1, l2] := by rcases hli with rfl | rfl <;> simp
                have ltr : tr ≠ li := fun z => by
                  have := trx.1
                  rw [z] at this
                  exact this lim
                have mv : ∀ {R : List (List Str)} {Y' : List V}, All2 (LRowX (Pt [p, q, l1, l2] H H4)) R Y' → All2 (LRowX (Pt [p, q, l1, l2] H (upd (upd H4 t1 (.lst [.str z])) li (.lst (Y ++ [.ref t1]))))) R Y' := fun h => h.imp fun _ _ h => h.same (Same.trans (Pt.new ht1) (Pt.put lim))
                refine ⟨fin _ t1 ((T4.new ht1).put lin lip) (by rw [upd_ne liq]; exact S4 _ _ eq4) (mv hR4) (by rw [upd_ne lil]; exact S4 _ _ ep4) (fun b o e nb => by rw [upd_ne nb]; exact S4 _ _ e) upd_same ⟨t1, rfl, Pt.at (by simp [t1p, t1q, t11, t12]) h1n (by rw [upd_ne t1l, upd_same]; rfl)⟩ mv, ?_⟩
                rw [upd_ne ltr]
                exact S4 _ _ etr
              refine ⟨_, rfl, _, rfl, z, rfl, zsg, _, rfl, ite2 (fun c => ?_) (fun c => ?_)⟩
              · refine ⟨lp, _, 1, .ref l1, rfl, rfl, .of ep4, rfl, .inl ⟨rfl, _, .of e14⟩, ?_⟩
                refine put (.inl rfl) e14 (by rw [a1.1]; exact fl) fun H6 t1 b1 b2 b3 b4 b5 b6 b7 mv => ?_
                refine ⟨_, _, _, rfl, b1, b2, b3, b4, b6, b5 _ _ e24 (Ne.symm d12), ?_, ?_⟩
                · have : figL (pre ++ [z]) = figL pre ++ [[z]] := by
                    unfold figL sing
                    rw [List.filter_append, List.map_append]
                    simp [c]
                  rw [this]
                  exact (mv a1).snoc b7
                · have : nofigL (pre ++ [z]) = nofigL pre := by
                    unfold nofigL sing
                    rw [List.filter_append, List.map_append]
                    simp [c]
                  rw [this]
                  exact mv a2
              · refine ⟨lp, _, 2, .ref l2, rfl, rfl, .of ep4, rfl, .inl ⟨rfl, _, .of e24⟩, ?_⟩
                refine put (.inr rfl) e24 (by rw [a2.1]; exact nl) fun H6 t1 b1 b2 b3 b4 b5 b6 b7 mv => ?_
                refine ⟨_, _, _, rfl, b1, b2, b3, b4, b5 _ _ e14 d12, b6, ?_, ?_⟩
                · have : figL (pre ++ [z]) = figL pre := by
                    unfold figL sing
                    rw [List.filter_append, List.map_append]
                    simp [c]
                  rw [this]
                  exact mv a1
                · have : nofigL (pre ++ [z]) = nofigL pre ++ [[z]] := by
                    unfold nofigL sing
                    rw [List.filter_append, List.map_append]
                    simp [c]
                  rw [this]
                  exact (mv a2).snoc b7
            · rw [List.length_map, List.take_length] at h
              rw [etk]
              exact ⟨_, h⟩
          · subst e
            rw [hR.1, List.take_length, hf] at a1 a2
            obtain ⟨c1, c2⟩ := parts_cls sp
            have app : ∀ {R S : List (List Str)} {Y Z : List V} {G : Hp}, All2 (LRow K G) R Y → All2 (LRow K G) S Z → All2 (LRow K G) (R ++ S) (Y ++ Z) := fun {R S Y Z G} h1 h2 => by
              refine ⟨by rw [List.length_append, List.length_append, h1.1, h2.1], fun i y x e1 e2 => ?_⟩
              by_cases c : i < Y.length
              · rw [List.getElem?_append_left c] at e1
                rw [List.getElem?_append_left (by rw [← h1.1]; exact c)] at e2
                exact h1.2 i y x e1 e2
              · rw [List.getElem?_append_right (by omega)] at e1
                rw [List.getElem?_append_right (by have := h1.1; omega), ← h1.1] at e2
                exact h2.2 _ y x e1 e2
            have fl : (figL ss).length ≤ 8 := by
              unfold figL sing
              rw [List.length_map]
              exact Nat.le_trans (List.length_filter_le _ _) sl8
            have nl : (nofigL ss).length ≤ 8 := by
              unfold nofigL sing
              rw [List.length_map]
              exact Nat.le_trans (List.length_filter_le _ _) sl8
            have yl : Y1.length + Y2.length ≤ sizeLine := by
              rw [a1.1, a2.1]
              exact Nat.le_trans (show _ ≤ 16 by omega) (by decide)
            refine ⟨_, rfl, p, 2, _, rfl, T4.1, by omega, by decide, by decide, fun H6 d d0 d1 T6 => ⟨rfl, _, rfl, ?_⟩⟩
            have T6' := T4.go T6
            have m6 : ∀ {R : List (List Str)} {Y : List V}, All2 (LRowX (Pt [p, q, l1, l2] H H4)) R Y → All2 (LRowX (Pt [p, q, l1, l2] H H6)) R Y := fun h => h.imp fun _ _ h => h.same (Pt.ext T6.2 (by simp))
            have f1 := T6.2.at p1 e14
            have f2 := T6.2.at p2 e24
            have pp : lp ≠ p := T3c.1.ne hlp
            have fp := T6.2.at pp ep4
            have fin : ∀ {c : Addr} {R S : List (List Str)} {Y Z : List V}, H6 c = none → All2 (LRowX (Pt [p, q, l1, l2] H H6)) R Y → All2 (LRowX (Pt [p, q, l1, l2] H H6)) S Z → ClsOk sg (R ++ S) → FigOk (R ++ S) → Q (.ref c) (upd H6 c (.lst (Y ++ Z))) := fun {c R S Y Z} hc h1 h2 ok fo => by
              have cp := T6'.1.ne hc
              have mv : ∀ {R : List (List Str)} {Y' : List V}, All2 (LRowX (Pt [p, q, l1, l2] H H6)) R Y' → All2 (LRow K (New p H (upd H6 c (.lst (Y ++ Z))))) R Y' := fun h => h.imp fun _ _ h => (h.same (Same.trans (Pt.new hc) (Pt.toNew (by simp)))).row
              exact k _ _ (R ++ S) ((T6'.new hc).mono (by omega)) ⟨c, _, rfl, .of (new_at (T6'.free hc cp) (rest_at cp upd_same)), app (mv h1) (mv h2)⟩ ok fun _ => fo
            refine ite2 (fun c => ?_) (fun c => ?_)
            · refine ⟨_, rfl, lp, _, 1, .ref l1, rfl, rfl, .of fp, rfl, _, rfl, lp, _, 2, .ref l2, rfl, rfl, .of fp, rfl, l1, l2, Y1, Y2, rfl, rfl, f1, f2, yl, fun c hc => fin hc (m6 a1) (m6 a2) c1 ⟨[], figL ss, nofigL ss, rfl, figs_fig, fun r m => nofigs_fig r m⟩⟩
            · refine ⟨_, rfl, lp, _, 2, .ref l2, rfl, rfl, .of fp, rfl, _, rfl, lp, _, 1, .ref l1, rfl, rfl, .of fp, rfl, l2, l1, Y2, Y1, rfl, rfl, f2, f1, by omega, fun c hc => fin hc (m6 a2) (m6 a1) c2 ⟨nofigL ss, figL ss, [], by simp, figs_fig, fun r m => nofigs_fig r (by simpa using m)⟩⟩
end
end K1
set_option Elab.async false
set_option linter.all false
set_option maxRecDepth 100000
set_option maxHeartbeats 4000000
namespace K1
open PySem PySem.Spec PyProof.Rows L2 Kb Kc Kn
abbrev s__law_facts : Stmt := top 63
theorem sc__law_facts : FnScope ["_law_pot_here", "_law_signs_here", "_law_word", "_law_most", "_law_classes_here", "_law_found", "_law_lap", "_law_pair", "_law_fact"] ["_law_pot_here", "_law_signs_here", "_law_word", "_law_most"] (defScope s__law_facts) := ⟨rfl, rfl, rfl, by decide +kernel, rfl, by decide +kernel, by decide +kernel⟩
def spFacts (K : PySem.W.Frag) : Sp := fun vs H Q _ => ∃ (p a : Addr) (sg : List Str) (word : Str) (n : Nat), vs = [.ref p, .ref a, .str word, .int 4] ∧ PotAt H p n ∧ n + 40 ≤ 900000 ∧ SqL K (Rest p H) a (sg.map V.str) ∧ SgOk sg ∧
  ∀ H' y xs, Took p n 40 H H' → LFacts K (New p H H') xs y → (∀ x ∈ xs, FactOk sg x) → xs.length ≤ 4 → WorldOk sg word xs → Q y H'
def rk (rows : List (List Str)) (s : Str) : Nat := rows.findIdx fun r => decide (s ∈ r)
theorem rk_at {sg : List Str} {rows : List (List Str)} (hs : SgOk sg) (h : ClsOk sg rows) {s : Str} (m : s ∈ sg) : ClsAt rows s (rk rows s) := by
  have hm : s ∈ rows.flatten := h.2.mem_iff.mpr m
  obtain ⟨r, hr, hsr⟩ := List.mem_flatten.mp hm
  have lt : rk rows s < rows.length := List.findIdx_lt_length_of_exists ⟨r, hr, decide_eq_true hsr⟩
  have at_ : s ∈ rows[rk rows s] := of_decide_eq_true (List.findIdx_getElem (p := fun r => decide (s ∈ r)) (w := lt))
  have nd : rows.flatten.Nodup := h.2.nodup_iff.mpr hs.2.2.1
  have pw := (List.pairwise_flatten.mp nd).2
  rw [List.pairwise_iff_getElem] at pw
  refine ⟨lt, fun i r' e => ⟨fun ms => ?_, fun z => ?_⟩⟩
  · obtain ⟨li, ei⟩ := List.getElem?_eq_some_iff.mp e
    rcases Nat.lt_trichotomy i (rk rows s) with c | c | c
    · exact absurd rfl (pw i _ li lt c s (by rw [ei]; exact ms) s at_)
    · exact c
    · exact absurd rfl (pw _ i lt li c s at_ s (by rw [ei]; exact ms))
  · subst z
    obtain ⟨li, ei⟩ := List.getElem?_eq_some_iff.mp e
    rw [← ei]
    exact at_
theorem world_of {sg : List Str} {rows : List (List Str)} {word : Str} {xs : List Fact} (hs : SgOk sg) (h : ClsOk sg rows) (hf : word = "figures" → FigOk rows) (hx : ∀ x ∈ xs, Keeps (rk rows) x) : WorldOk sg word xs := by
  refine ⟨rk rows, hx, fun e s ms ns => ?_⟩
  obtain ⟨a, m, hk⟩ := kinds_same (hf e)
  have kind : ∀ f ∈ sg, isFig f = (decide (a ≤ rk rows f) && decide (rk rows f < a + m)) := fun f mf => by
    obtain ⟨lt, hc⟩ := rk_at hs h mf
    have e1 : rows[rk rows f]? = some rows[rk rows f] := List.getElem?_eq_getElem lt
    exact hk _ _ e1 f ((hc _ _ e1).mpr rfl)
  have k1 := kind s ms
  rw [ns] at k1
  by_cases c : a ≤ rk rows s
  · refine .inr fun f mf ff => ?_
    have k2 := kind f mf
    rw [ff] at k2
    have c2 : ¬ rk rows s < a + m := fun z => by
      rw [decide_eq_true c, decide_eq_true z] at k1
      cases k1
    have k3 := (Bool.and_eq_true _ _ ▸ k2.symm : decide (a ≤ rk rows f) = true ∧ decide (rk rows f < a + m) = true)
    have := of_decide_eq_true k3.2
    omega
  · refine .inl fun f mf ff => ?_
    have k2 := kind f mf
    rw [ff] at k2
    have k3 := (Bool.and_eq_true _ _ ▸ k2.symm : decide (a ≤ rk rows f) = true ∧ decide (rk rows f < a + m) = true)
    have := of_decide_eq_true k3.1
    omega
def FactInv (K : PySem.W.Frag) (p a l q : Addr) (word : Str) (sg : List Str) (rows : List (List Str)) (n : Nat) (H : Hp) (i : Nat) (σ : L2.St) (H2 : Hp) : Prop := ∃ (v6 v7 v8 : Option V) (xs : List Fact) (ys : List V), σ = [some (.ref p), some (.ref a), some (.str word), some (.int 4), some (.ref l), some (.ref q), v6, v7, v8] ∧ Took p n (21 + 3 * i) H H2 ∧
  H2 q = some (.lst ys) ∧ All2 (isFact K (Pt [p, q] H H2)) xs ys ∧ xs.length ≤ i ∧ (∀ x ∈ xs, FactOk sg x ∧ Keeps (rk rows) x) ∧ LRows K (Pt [p, q] H H2) rows (.ref l)
section
variable {P : Program} {w : World} {K : PySem.W.Frag} {mg : Str → Option Value} {base : Heap}
theorem ok_facts {f f_law_take f_law_some f_law_of f_law_classes f_law_keeps : Addr} {fd fd_law_take fd_law_some fd_law_of fd_law_classes fd_law_keeps : FuncData} (F : Fun K "_law_facts" "_law_facts" s__law_facts f fd) (B : Bl mg)
    (c_law_take : Cal P w K mg base 1 "_law_take" s__law_take ["_law_pot_here", "_law_upto"] spTake f_law_take fd_law_take)
    (c_law_some : Cal P w K mg base 2 "_law_some" s__law_some ["_law_pot_here", "_law_pool", "_law_many"] (spSome K) f_law_some fd_law_some)
    (c_law_of : Cal P w K mg base 2 "_law_of" s__law_of ["_law_pot_here", "_law_some_here"] (spOf K) f_law_of fd_law_of)
    (c_law_classes : Cal P w K mg base 3 "_law_classes" s__law_classes ["_law_pot_here", "_law_signs_here", "_law_word"] (spClasses K) f_law_classes fd_law_classes)
    (c_law_keeps : Cal P w K mg base 2 "_law_keeps" s__law_keeps ["_law_classes_here", "_law_fact"] (spKeeps K) f_law_keeps fd_law_keeps) :
    FnOk P w K mg base CX0 4 f fd ["_law_pot_here", "_law_signs_here", "_law_word", "_law_most"] (spFacts K) := by
  refine F.ok sc__law_facts (fun vs H Q E h => ?_) (fun cdv A outer s H vs Q E hr h => ?_)
  · obtain ⟨p, a, sg, word, n, rfl, _⟩ := h
    rfl
  · obtain ⟨p, a, sg, word, n, rfl, hP, hn, hA, hsg, k⟩ := h
    refine ⟨_, (pss_cons (ps_par (i := 4) (j := 5) (by rfl) sc__law_facts.nd rfl rfl (by decide) rfl rfl (pa_cons (pe_call c_law_classes.G (hr.mono (by decide)) (by rfl) c_law_classes.g c_law_classes.F.kp c_law_classes.b .nil pass0 (pa_cons (pv 0) (pa_cons (pv 1) (pa_cons (pv 2) pa_nil)))) (pa_cons (pe_lstB pa_nil) pa_nil)) (by rfl))
      (pss_cons (ps_for PassesOwn.never rfl (pi_range1 rfl B.range (pa_cons (pe_ifExp (pt_cmpR op_gt (pe_callB call_len_seq (by rfl) B.len (by decide +kernel) (pa_cons (pv 1) pa_nil)) pe_int (nomark _)) (pe_call c_law_take.G (hr.mono (by decide)) (by rfl) c_law_take.g c_law_take.F.kp c_law_take.b .nil pass0 (pa_cons (pv 0) (pa_cons (pe_op op_add (pv 3) pe_int) pa_nil))) pe_int) pa_nil)) (pg_name (i := 6) sc__law_facts.nd rfl (Or.inl rfl))
        (pss_cons (ps_set (i := 7) sc__law_facts.nd rfl (Or.inl rfl) (pe_call c_law_some.G (hr.mono (by decide)) (by rfl) c_law_some.g c_law_some.F.kp c_law_some.b .nil pass0 (pa_cons (pv 0) (pa_cons (pv 1) (pa_cons pe_int pa_nil)))))
      (pss_cons (ps_set (i := 8) sc__law_facts.nd rfl (Or.inl rfl) (pe_tup (pa_cons (pe_ix ix_list (pv 7) pe_int (fun _ _ => rfl)) (pa_cons (pe_call c_law_of.G (hr.mono (by decide)) (by rfl) c_law_of.g c_law_of.F.kp c_law_of.b .nil pass0 (pa_cons (pv 0) (pa_cons (pe_lstB (pa_cons pe_str (pa_cons pe_str (pa_cons pe_str (pa_cons pe_str (pa_cons pe_str pa_nil)))))) pa_nil))) (pa_cons (pe_ix ix_list (pv 7) pe_int (fun _ _ => rfl)) pa_nil)))))
      (pss_one (ps_if (pt_val (pe_call c_law_keeps.G (hr.mono (by decide)) (by rfl) c_law_keeps.g c_law_keeps.F.kp c_law_keeps.b .nil pass0 (pa_cons (pv 4) (pa_cons (pv 8) pa_nil))))
        (pss_one (ps_expr (pe_bm PySem.F.plainAttrs_list PySem.F.slot_list_append PySem.F.type_list_append mt_append (pv 5) (pa_cons (pv 8) pa_nil))))
        pss_nil)))))
      (pss_one (ps_ret (pv 5))))), ?_⟩
    refine ⟨_, rfl, _, rfl, _, rfl, p, a, sg, word, n, rfl, hP, by omega, hA, hsg, fun H1 y rows T1 hL hok hfig => ?_⟩
    obtain ⟨l, ly, rfl, hl, hly⟩ := hL
    refine ⟨(by show 0 ≤ sizeLine; decide), fun q hq _ => ?_⟩
    have pq : q ≠ p := T1.1.ne hq
    have nq : H q = none := T1.free hq pq
    have T2 := T1.new (o := .lst []) hq
    have S2 := Kb.same_upd (o := .lst []) hq
    have ru : rows.length ≤ 8 := by
      have h1 := len_flat hok.1
      have h2 := hok.2.length_eq
      have h3 := hsg.2.1
      omega
    have I0 : ∀ (H3 : Hp) (e : Nat) (v6 v7 v8 : Option V), e ≤ 1 → Took p (n + 20) e (upd H1 q (.lst [])) H3 → FactInv K p a l q word sg rows n H 0 [some (.ref p), some (.ref a), some (.str word), some (.int 4), some (.ref l), some (.ref q), v6, v7, v8] H3 := fun H3 e v6 v7 v8 he T3 => by
      have mv : Same (New p H H1) (Pt [p, q] H H3) := fun b o hb => by
        have n1 := new_none hb
        have n2 := new_rest _ _ hb
        have bp : b ≠ p := fun z => by rw [z, rest_p] at n2; cases n2
        have n3 := rest_same _ _ _ _ n2
        have bq : b ≠ q := fun z => by rw [z, hq] at n3; cases n3
        exact Pt.at (by simp [bp, bq]) n1 (T3.2.at bp (S2 _ _ n3))
      exact ⟨v6, v7, v8, [], [], rfl, (T2.go T3).mono (by omega), T3.2.at pq upd_same, .nil, Nat.le_refl _, fun x m => by simp at m, ⟨l, ly, rfl, Same.seq mv hl, hly.imp fun _ _ h => h.same mv⟩⟩
    have fin : ∀ (i : Nat) (σ : L2.St) (H3 : Hp), i ≤ 4 → FactInv K p a l q word sg rows n H i σ H3 → tRet (tVar 5) { nx := fun x H' => Q V.non H', rt := Q } σ H3 := fun i σ H3 hi ⟨v6, v7, v8, xs, ys, e, T, eq, hx, xl, hk, _⟩ => by
      subst e
      exact ⟨_, rfl, k H3 _ xs (T.mono (by omega)) ⟨q, ys, rfl, .of (new_at nq (rest_at pq eq)), hx.imp fun _ _ h => isFact_same (Pt.toNew (by simp)) h⟩ (fun x m => (hk x m).1) (by omega) (world_of hsg hok hfig fun x m => (hk x m).2)⟩
    refine ⟨_, _, rfl, _, rfl, a, _, rfl, .inl (seq_rest (seq_ext T2.2 hA)), _, _, rfl, rfl, _, rfl, ite2 (fun c => ?_) (fun c => ?_)⟩
    · have c2 := of_decide_eq_true c
      rw [List.length_map] at c2
      refine ⟨_, rfl, _, rfl, _, _, rfl, rfl, p, _, n + 20, rfl, T2.1, by omega, by omega, by omega, fun H3 z z0 z1 T3 => ?_⟩
      obtain ⟨m, rfl⟩ : ∃ m : Nat, z = (m : Int) := ⟨z.toNat, by omega⟩
      refine ⟨_, rfl, by show -(2 ^ 62) ≤ (m : Int); omega, by show (m : Int) < 2 ^ 62; omega, ?_⟩
      have tm : (m : Int).toNat = m := by omega
      show ∃ W : Nat → Nat → L2.St → Hp → Prop, _
      rw [tm]
      refine for_range (n := m) (FactInv K p a l q word sg rows n H) (I0 H3 1 none none none (Nat.le_refl _) T3) (fun i σ H3 hi ⟨v6, v7, v8, xs, ys, e, T, eq, hx, xl, hk, hL⟩ => ?_) fun σ H3 h => fin m σ H3 (by omega) h
      subst e
      have li : i < 4 := by omega
      refine ⟨_, rfl, _, rfl, p, a, sg, 2, _, rfl, T.1, by omega, seq_ext T.2 hA, hsg.2.2.1, by omega, by have := hsg.2.1; omega, fun H4 r ss T4 _ _ er sl snd ssub => ?_⟩
      obtain ⟨lo, hi_, rfl⟩ : ∃ a b, ss = [a, b] := by
        match ss, sl with
        | [a, b], _ => exact ⟨a, b, rfl⟩
      have er4 : H4 r = some (.lst [.str lo, .str hi_]) := rest_same p H4 _ _ er
      have pr : r ≠ p := fun z => by rw [z, rest_p] at er; cases er
      have T4' := T.go T4
      have eq4 := T4.2.at pq eq
      refine ⟨_, rfl, r, _, 0, _, rfl, rfl, .of er4, rfl, _, rfl, (by show 5 ≤ sizeLine; decide), fun t1 ht1 _ => ?_⟩
      have T5 := T4'.new (o := .lst [.str "<", .str "<", .str "<=", .str "=", .str "!="]) ht1
      have S5 := Kb.same_upd (o := .lst [.str "<", .str "<", .str "<=", .str "=", .str "!="]) ht1
      have t1p : t1 ≠ p := T4'.1.ne ht1
      refine ⟨p, t1, [.str "<", .str "<", .str "<=", .str "=", .str "!="], _, rfl, T5.1, by omega, .of (rest_at t1p upd_same), by decide, by decide, fun H6 w hw T6 => ?_⟩
      obtain ⟨rel, rfl, hrel⟩ : ∃ rel : Str, w = .str rel ∧ rel ∈ FC := by
        simp only [List.mem_cons, List.not_mem_nil, or_false] at hw
        rcases hw with rfl | rfl | rfl | rfl | rfl
        · exact ⟨_, rfl, by decide +kernel⟩
        · exact ⟨_, rfl, by decide +kernel⟩
        · exact ⟨_, rfl, by decide +kernel⟩
        · exact ⟨_, rfl, by decide +kernel⟩
        · exact ⟨_, rfl, by decide +kernel⟩
      have T6' := T5.go T6
      have er6 := T6.2.at pr (S5 _ _ er4)
      have eq6 := T6.2.at pq (S5 _ _ eq4)
      refine ⟨_, rfl, r, _, 1, _, rfl, rfl, .of er6, rfl, (by show 3 ≤ sizeLine; decide), fun t ht => ?_⟩
      have S7 := Kb.same_upd (o := .tup [.str lo, .str rel, .str hi_]) ht
      have T7 := T6'.new (o := .tup [.str lo, .str rel, .str hi_]) ht
      have tp : t ≠ p := T6'.1.ne ht
      have tn : H t = none := T6'.free ht tp
      have tq : t ≠ q := fun z => by rw [z, eq6] at ht; cases ht
      have mv : ∀ {G}, Same H6 G → Same (Pt [p, q] H H3) (Pt [p, q] H G) := fun s => Same.trans (Pt.ext T4.2 (by simp)) (Same.trans (Pt.new ht1) (Same.trans (Pt.ext T6.2 (by simp)) (Pt.sm s)))
      have hL7 := hL.same (mv S7)
      obtain ⟨l', ly', e', hl7, hly7⟩ := hL7
      cases e'
      have slo : lo ∈ sg := ssub lo (by simp)
      have shi : hi_ ∈ sg := ssub hi_ (by simp)
      have hne : lo ≠ hi_ := by
        rw [List.nodup_cons] at snd
        intro z
        exact snd.1 (by rw [z]; simp)
      have et : (upd H6 t (.tup [.str lo, .str rel, .str hi_])) t = some (.tup [.str lo, .str rel, .str hi_]) := upd_same
      have eq7 := S7 _ _ eq6
      have hx7 : All2 (isFact K (Pt [p, q] H (upd H6 t (.tup [.str lo, .str rel, .str hi_])))) xs ys := hx.imp fun _ _ h => isFact_same (mv S7) h
      obtain ⟨J, qJ⟩ : ∃ z, z = upd H6 t (.tup [.str lo, .str rel, .str hi_]) := ⟨_, rfl⟩
      rw [← qJ] at T7 et eq7 hx7 hl7 hly7 ⊢
      refine ⟨_, rfl, _, rfl, l, t, rows, ly', ⟨lo, rel, hi_⟩, rk rows lo, rk rows hi_, rfl, Same.seq Pt.sub hl7, hly7.imp fun _ _ h => h.same Pt.sub, by omega, .of et, rk_at hsg hok slo, rk_at hsg hok shi, hrel, fun H8 b S8 hb => ⟨_, rfl, ite2 (fun c3 => ?_) (fun c3 => ?_)⟩⟩
      · have T8 : Took p n (21 + 3 * i + 2 + 1) H H8 := ⟨T7.1.same S8, T7.2.trans (.same S8)⟩
        have eq8 := S8 _ _ eq7
        refine ⟨_, rfl, .inl ⟨rfl, _, .of eq8⟩, _, rfl, q, ys, _, rfl, rfl, eq8, by rw [hx.1]; exact Nat.lt_of_le_of_lt (show _ ≤ 4 by omega) (by decide), ?_⟩
        refine ⟨_, _, _, xs ++ [⟨lo, rel, hi_⟩], ys ++ [.ref t], rfl, (T8.put nq pq).mono (by omega), upd_same, All2.snoc (hx7.imp fun _ _ h => isFact_same (Same.trans (Pt.sm S8) (Pt.put (by simp))) h) ⟨t, rfl, .of (Pt.at (by simp [tp, tq]) tn (by rw [upd_ne tq]; exact S8 _ _ et))⟩, by rw [List.length_append]; exact Nat.succ_le_succ xl, fun x m => ?_, ?_⟩
        · rcases List.mem_append.mp m with m | m
          · exact hk x m
          · simp only [List.mem_cons, List.not_mem_nil, or_false] at m
            subst m
            exact ⟨⟨slo, shi, hne, hrel⟩, hb c3⟩
        · exact ⟨l, ly', rfl, Same.seq (Same.trans (Pt.sm S8) (Pt.put (by simp))) hl7, hly7.imp fun _ _ h => h.same (Same.trans (Pt.sm S8) (Pt.put (by simp)))⟩
      · have T8 : Took p n (21 + 3 * i + 2 + 1) H H8 := ⟨T7.1.same S8, T7.2.trans (.same S8)⟩
        refine ⟨_, _, _, xs, ys, rfl, T8.mono (by omega), S8 _ _ eq7, hx7.imp fun _ _ h => isFact_same (Pt.sm S8) h, Nat.le_succ_of_le xl, hk, l, ly', rfl, Same.seq (Pt.sm S8) hl7, hly7.imp fun _ _ h => h.same (Pt.sm S8)⟩
    · refine ⟨_, rfl, by decide, by decide, ?_⟩
      refine for_range (n := 0) (FactInv K p a l q word sg rows n H) (I0 _ 0 none none none (Nat.zero_le _) (Took.refl T2.1)) (fun i σ H3 hi _ => absurd hi (by omega)) fun σ H3 h => fin 0 σ H3 (by omega) h
end
end K1
set_option Elab.async false
set_option linter.all false
set_option maxRecDepth 100000
set_option maxHeartbeats 4000000
namespace K1
open PySem PySem.Spec PyProof.Rows L2 Kb Kc Kn
abbrev s__law_pass : Stmt := top 64
theorem sc__law_pass : FnScope ["_law_pot_here", "_law_signs_here", "_law_is_first", "_law_odds", "_law_word"] ["_law_pot_here", "_law_signs_here", "_law_is_first", "_law_odds"] (defScope s__law_pass) := ⟨rfl, rfl, rfl, by decide +kernel, rfl, by decide +kernel, by decide +kernel⟩
abbrev s__law_words : Stmt := top 65
theorem sc__law_words : FnScope [] [] (defScope s__law_words) := ⟨rfl, rfl, rfl, by decide +kernel, rfl, by decide +kernel, by decide +kernel⟩
abbrev s__law_signs : Stmt := top 66
theorem sc__law_signs : FnScope ["_law_pot_here", "_law_many", "_law_pool"] ["_law_pot_here", "_law_many"] (defScope s__law_signs) := ⟨rfl, rfl, rfl, by decide +kernel, rfl, by decide +kernel, by decide +kernel⟩
def spPass (K : PySem.W.Frag) : Sp := fun vs H Q _ => ∃ (p a : Addr) (sg : List Str) (b : Bool) (n : Nat), vs = [.ref p, .ref a, .bl b, .int 2] ∧ PotAt H p n ∧ n + 50 ≤ 900000 ∧ SqL K (Rest p H) a (sg.map V.str) ∧ SgOk sg ∧
  ∀ H' y ps, Took p n 50 H H' → LPass K (New p H H') ps y → Ps.ok sg ps → (b = true → ps.isBack = false) → Q y H'
def WDL : List Str := ["shell", "phone", "cloud", "known", "length", "of", "by", "a", "zzzzzzzz", "back", "ranks", "rule"]
def spWords : Sp := fun vs H Q _ => vs = [] ∧ ∀ H' l, Same H H' → H l = none → l ≠ sysModules → H' l = some (.lst (WDL.map V.str)) → Q (.ref l) H'
def spSigns (K : PySem.W.Frag) : Sp := fun vs H Q _ => ∃ (p : Addr) (m n : Nat), vs = [.ref p, nv m] ∧ PotAt H p n ∧ n + 10 ≤ 900000 ∧ 1 ≤ m ∧ m ≤ 8 ∧
  ∀ H' r sg, Took p n 10 H H' → H r = none → r ≠ sysModules → Rest p H' r = some (.lst (sg.map V.str)) → SgOk sg → Q (.ref r) H'
theorem if_tC {b : Bool} {u v : V} {σ : L2.St} {H : Hp} {Q : VK} (h : tC (if b = true then u else v) σ H Q) : if b = true then tC u σ H Q else tC v σ H Q := by
  cases b
  · exact h
  · exact h
theorem new_from {p : Addr} {H H1 H2 : Hp} (x : Ext p H H1) : Same (New p H1 H2) (New p H H2) := fun b o e => by
  have e1 := new_none e
  have e2 := new_rest _ _ e
  have bp : b ≠ p := fun z => by rw [z, rest_p] at e2; cases e2
  exact new_at (x.free bp e1) e2
theorem new_sm {p : Addr} {H H1 H2 : Hp} (s : Same H1 H2) : Same (New p H H1) (New p H H2) := new_ext (.same s)
section
variable {P : Program} {w : World} {K : PySem.W.Frag} {mg : Str → Option Value} {base : Heap}
theorem ok_pass {f f_law_take f_law_of f_law_classes f_law_facts : Addr} {fd fd_law_take fd_law_of fd_law_classes fd_law_facts : FuncData} (F : Fun K "_law_pass" "_law_pass" s__law_pass f fd) (B : Bl mg)
    (c_law_take : Cal P w K mg base 1 "_law_take" s__law_take ["_law_pot_here", "_law_upto"] spTake f_law_take fd_law_take)
    (c_law_of : Cal P w K mg base 2 "_law_of" s__law_of ["_law_pot_here", "_law_some_here"] (spOf K) f_law_of fd_law_of)
    (c_law_classes : Cal P w K mg base 3 "_law_classes" s__law_classes ["_law_pot_here", "_law_signs_here", "_law_word"] (spClasses K) f_law_classes fd_law_classes)
    (c_law_facts : Cal P w K mg base 4 "_law_facts" s__law_facts ["_law_pot_here", "_law_signs_here", "_law_word", "_law_most"] (spFacts K) f_law_facts fd_law_facts) :
    FnOk P w K mg base CX0 5 f fd ["_law_pot_here", "_law_signs_here", "_law_is_first", "_law_odds"] (spPass K) := by
  refine F.ok sc__law_pass (fun vs H Q E h => ?_) (fun cdv A outer s H vs Q E hr h => ?_)
  · obtain ⟨p, a, sg, b, n, rfl, _⟩ := h
    rfl
  · obtain ⟨p, a, sg, b, n, rfl, hP, hn, hA, hsg, k⟩ := h
    refine ⟨_, (pss_cons (ps_set (i := 4) sc__law_pass.nd rfl (Or.inl rfl) (pe_call c_law_of.G (hr.mono (by decide)) (by rfl) c_law_of.g c_law_of.F.kp c_law_of.b .nil pass0 (pa_cons (pv 0) (pa_cons (pe_lstB (pa_cons pe_str (pa_cons pe_str (pa_cons pe_str (pa_cons (pe_ifExp (pt_val (pv 2)) pe_str pe_str) pa_nil))))) pa_nil))))
      (pss_cons (ps_if (pt_cmpR op_eq (pv 4) pe_str (nomark _))
        (pss_one (ps_ret (pe_tup (pa_cons (pv 4) (pa_cons pe_non (pa_cons pe_non pa_nil))))))
        pss_nil)
      (pss_cons (ps_if (PW.pt (pw_and (pt_cmpR op_gt (pv 3) pe_int (nomark _)) (pw_and1 (pt_cmpR op_eq (pe_call c_law_take.G (hr.mono (by decide)) (by rfl) c_law_take.g c_law_take.F.kp c_law_take.b .nil pass0 (pa_cons (pv 0) (pa_cons (pv 3) pa_nil))) pe_int (nomark _)))))
        (pss_one (ps_ret (pe_tup (pa_cons (pv 4) (pa_cons pe_non (pa_cons (pe_call c_law_facts.G (hr.mono (by decide)) (by rfl) c_law_facts.g c_law_facts.F.kp c_law_facts.b .nil pass0 (pa_cons (pv 0) (pa_cons (pv 1) (pa_cons (pv 4) (pa_cons pe_int pa_nil))))) pa_nil))))))
        pss_nil)
      (pss_one (ps_ret (pe_tup (pa_cons (pv 4) (pa_cons (pe_call c_law_classes.G (hr.mono (by decide)) (by rfl) c_law_classes.g c_law_classes.F.kp c_law_classes.b .nil pass0 (pa_cons (pv 0) (pa_cons (pv 1) (pa_cons (pv 4) pa_nil)))) (pa_cons pe_non pa_nil))))))))), ?_⟩
    have wds : ∀ x, x ∈ [V.str "ranks", .str "ranks", .str "figures", if b = true then V.str "length" else V.str "back"] → ∃ wd : Str, x = .str wd ∧ (wd = "length" ∨ (¬ wd = "length" ∧ wd ∈ RW3 ∧ (b = true → ¬ wd = "back"))) := fun x m => by
      simp only [List.mem_cons, List.not_mem_nil, or_false] at m
      rcases m with rfl | rfl | rfl | rfl
      · exact ⟨_, rfl, .inr ⟨by decide +kernel, by decide +kernel, fun _ => by decide +kernel⟩⟩
      · exact ⟨_, rfl, .inr ⟨by decide +kernel, by decide +kernel, fun _ => by decide +kernel⟩⟩
      · exact ⟨_, rfl, .inr ⟨by decide +kernel, by decide +kernel, fun _ => by decide +kernel⟩⟩
      · cases b
        · exact ⟨_, rfl, .inr ⟨by decide +kernel, by decide +kernel, fun z => by cases z⟩⟩
        · exact ⟨_, rfl, .inl rfl⟩
    refine ⟨_, rfl, _, rfl, _, rfl, ?_⟩
    refine if_tC ?_
    refine ⟨(by show 4 ≤ sizeLine; decide), fun t1 ht1 _ => ?_⟩
    have T1 := (Took.refl hP).new (o := .lst [V.str "ranks", .str "ranks", .str "figures", if b = true then V.str "length" else V.str "back"]) ht1
    have t1p : t1 ≠ p := hP.ne ht1
    refine ⟨p, t1, _, n, rfl, T1.1, by omega, .of (rest_at t1p upd_same), (by show 0 < 4; decide), (by show 4 ≤ 1000000; decide), fun H2 x hx T2 => ?_⟩
    obtain ⟨wd, rfl, hw⟩ := wds x hx
    have T2' := T1.go T2
    refine ⟨_, rfl, rfl, _, rfl, ite2 (fun c => ?_) (fun c => ?_)⟩
    · have e : wd = "length" := V.str.inj (of_decide_eq_true c)
      subst e
      refine ⟨_, rfl, (by show 3 ≤ sizeLine; decide), fun t ht => ?_⟩
      have tp := T2'.1.ne ht
      exact k _ _ .length ((T2'.new ht).mono (by omega)) ⟨t, rfl, .of (new_at (T2'.free ht tp) (rest_at tp upd_same))⟩ trivial fun _ => rfl
    · have nl : ¬ wd = "length" := fun z => c (decide_eq_true (by rw [z]))
      obtain ⟨w3, wb⟩ : wd ∈ RW3 ∧ (b = true → ¬ wd = "back") := by
        rcases hw with h | h
        · exact absurd h nl
        · exact h.2
      refine ⟨_, rfl, _, _, rfl, rfl, _, rfl, ite2 (fun _ => ?_) (fun c => absurd (by decide) c)⟩
      refine ⟨_, rfl, _, rfl, p, 2, _, rfl, T2'.1, by omega, by decide, by decide, fun H3 d d0 d1 T3 => ⟨rfl, _, rfl, ite2 (fun c2 => ?_) (fun c2 => ?_)⟩⟩
      · have T3' := T2'.go T3
        refine ⟨_, rfl, _, rfl, _, rfl, _, rfl, p, a, sg, wd, _, rfl, T3'.1, by omega, seq_ext T3'.2 hA, hsg, fun H4 y xs' T4 hL hok x4 hwo => ⟨(by show 3 ≤ sizeLine; decide), fun t ht => ?_⟩⟩
        have T4' := T3'.go T4
        have tp := T4'.1.ne ht
        refine k _ _ (.known wd xs') ((T4'.new ht).mono (by omega)) ⟨t, y, rfl, .of (new_at (T4'.free ht tp) (rest_at tp upd_same)), hL.same (Same.trans (new_from T3'.2) (new_sm (Kb.same_upd ht)))⟩ ⟨w3, hok, by omega, hwo⟩ fun z => decide_eq_false (wb z)
      · have T3' := T2'.go T3
        refine ⟨_, rfl, _, rfl, _, rfl, _, rfl, p, a, sg, wd, _, rfl, T3'.1, by omega, seq_ext T3'.2 hA, hsg, fun H4 y rows T4 hL hok hfg => ⟨(by show 3 ≤ sizeLine; decide), fun t ht => ?_⟩⟩
        have T4' := T3'.go T4
        have tp := T4'.1.ne ht
        refine k _ _ (.cls wd rows) ((T4'.new ht).mono (by omega)) ⟨t, y, rfl, .of (new_at (T4'.free ht tp) (rest_at tp upd_same)), hL.same (Same.trans (new_from T3'.2) (new_sm (Kb.same_upd ht)))⟩ ⟨w3, hok, hfg⟩ fun z => decide_eq_false (wb z)
theorem ok_words {f : Addr} {fd : FuncData} (F : Fun K "_law_words" "_law_words" s__law_words f fd) (B : Bl mg) : FnOk P w K mg base CX0 1 f fd [] spWords := by
  refine F.ok sc__law_words (fun vs H Q E h => ?_) (fun cdv A outer s H vs Q E hr h => ?_)
  · obtain ⟨rfl, _⟩ := h
    rfl
  · obtain ⟨rfl, k⟩ := h
    refine ⟨_, (pss_one (ps_ret (pe_lstB (pa_cons pe_str (pa_cons pe_str (pa_cons pe_str (pa_cons pe_str (pa_cons pe_str (pa_cons pe_str (pa_cons pe_str (pa_cons pe_str (pa_cons pe_str (pa_cons pe_str (pa_cons pe_str (pa_cons pe_str pa_nil))))))))))))))), ?_⟩
    exact ⟨(by show 12 ≤ sizeLine; decide), fun l hl gl => k _ l (Kb.same_upd hl) hl gl upd_same⟩
theorem ok_signs {f f_law_some f_law_of : Addr} {fd fd_law_some fd_law_of : FuncData} (F : Fun K "_law_signs" "_law_signs" s__law_signs f fd) (B : Bl mg)
    (c_law_some : Cal P w K mg base 2 "_law_some" s__law_some ["_law_pot_here", "_law_pool", "_law_many"] (spSome K) f_law_some fd_law_some)
    (c_law_of : Cal P w K mg base 2 "_law_of" s__law_of ["_law_pot_here", "_law_some_here"] (spOf K) f_law_of fd_law_of) :
    FnOk P w K mg base CX0 3 f fd ["_law_pot_here", "_law_many"] (spSigns K) := by
  refine F.ok sc__law_signs (fun vs H Q E h => ?_) (fun cdv A outer s H vs Q E hr h => ?_)
  · obtain ⟨p, m, n, rfl, _⟩ := h
    rfl
  · obtain ⟨p, m, n, rfl, hP, hn, m1, m8, k⟩ := h
    refine ⟨_, (pss_cons (ps_set (i := 2) sc__law_signs.nd rfl (Or.inl rfl) (pe_call c_law_of.G (hr.mono (by decide)) (by rfl) c_law_of.g c_law_of.F.kp c_law_of.b .nil pass0 (pa_cons (pv 0) (pa_cons (pe_lstB (pa_cons (pe_lstB (pa_cons pe_str (pa_cons pe_str (pa_cons pe_str (pa_cons pe_str pa_nil))))) (pa_cons (pe_lstB (pa_cons pe_str (pa_cons pe_str (pa_cons pe_str (pa_cons pe_str pa_nil))))) (pa_cons (pe_lstB (pa_cons pe_str (pa_cons pe_str (pa_cons pe_str (pa_cons pe_str pa_nil))))) (pa_cons (pe_lstB (pa_cons pe_str (pa_cons pe_str (pa_cons pe_str (pa_cons pe_str pa_nil))))) pa_nil))))) pa_nil))))
      (pss_one (ps_ret (pe_call c_law_some.G (hr.mono (by decide)) (by rfl) c_law_some.g c_law_some.F.kp c_law_some.b .nil pass0 (pa_cons (pv 0) (pa_cons (pe_op op_cat (pv 2) (pe_lstB (pa_cons pe_str (pa_cons pe_str (pa_cons pe_str (pa_cons pe_str pa_nil)))))) (pa_cons (pv 1) pa_nil))))))), ?_⟩
    have h4 : (4 : Nat) ≤ sizeLine := by decide
    refine ⟨_, rfl, h4, fun t1 ht1 _ => ⟨h4, fun t2 ht2 _ => ⟨h4, fun t3 ht3 _ => ⟨h4, fun t4 ht4 _ => ⟨h4, fun l hl _ => ?_⟩⟩⟩⟩⟩
    have T1 := (Took.refl hP).new (o := .lst [.str "a", .str "b", .str "A", .str "1"]) ht1
    have T2 := T1.new (o := .lst [.str "1", .str "2", .str "a", .str "-"]) ht2
    have T3 := T2.new (o := .lst [.str "a", .str "A", .str "b", .str "B"]) ht3
    have T4 := T3.new (o := .lst [.str "0", .str "1", .str "2", .str "z"]) ht4
    have T5 := T4.new (o := .lst [.ref t1, .ref t2, .ref t3, .ref t4]) hl
    have lp : l ≠ p := T4.1.ne hl
    have S2 := Kb.same_upd (o := .lst [.str "1", .str "2", .str "a", .str "-"]) ht2
    have S3 := Kb.same_upd (o := .lst [.str "a", .str "A", .str "b", .str "B"]) ht3
    have S4 := Kb.same_upd (o := .lst [.str "0", .str "1", .str "2", .str "z"]) ht4
    have S5 := Kb.same_upd (o := .lst [.ref t1, .ref t2, .ref t3, .ref t4]) hl
    have n1 : H t1 = none := ht1
    have p1 : t1 ≠ p := hP.ne ht1
    have p2 : t2 ≠ p := T1.1.ne ht2
    have p3 : t3 ≠ p := T2.1.ne ht3
    have p4 : t4 ≠ p := T3.1.ne ht4
    have pools : ∀ x, x ∈ [V.ref t1, .ref t2, .ref t3, .ref t4] → ∃ (t : Addr) (pl : List Str), x = .ref t ∧ t ≠ p ∧ (upd (upd (upd (upd (upd H t1 (.lst [.str "a", .str "b", .str "A", .str "1"])) t2 (.lst [.str "1", .str "2", .str "a", .str "-"])) t3 (.lst [.str "a", .str "A", .str "b", .str "B"])) t4 (.lst [.str "0", .str "1", .str "2", .str "z"])) l (.lst [.ref t1, .ref t2, .ref t3, .ref t4])) t = some (.lst (pl.map V.str)) ∧
        ((pl ++ (["_", ".", "Z", "9"] : List Str)).Nodup ∧ ∀ s ∈ pl ++ (["_", ".", "Z", "9"] : List Str), s ∈ SG) ∧ pl.length = 4 := fun x m => by
      simp only [List.mem_cons, List.not_mem_nil, or_false] at m
      rcases m with rfl | rfl | rfl | rfl
      · exact ⟨t1, ["a", "b", "A", "1"], rfl, p1, S5 _ _ (S4 _ _ (S3 _ _ (S2 _ _ upd_same))), ⟨by decide +kernel, by decide +kernel⟩, rfl⟩
      · exact ⟨t2, ["1", "2", "a", "-"], rfl, p2, S5 _ _ (S4 _ _ (S3 _ _ upd_same)), ⟨by decide +kernel, by decide +kernel⟩, rfl⟩
      · exact ⟨t3, ["a", "A", "b", "B"], rfl, p3, S5 _ _ (S4 _ _ upd_same), ⟨by decide +kernel, by decide +kernel⟩, rfl⟩
      · exact ⟨t4, ["0", "1", "2", "z"], rfl, p4, S5 _ _ upd_same, ⟨by decide +kernel, by decide +kernel⟩, rfl⟩
    have el : (upd (upd (upd (upd (upd H t1 (.lst [.str "a", .str "b", .str "A", .str "1"])) t2 (.lst [.str "1", .str "2", .str "a", .str "-"])) t3 (.lst [.str "a", .str "A", .str "b", .str "B"])) t4 (.lst [.str "0", .str "1", .str "2", .str "z"])) l (.lst [.ref t1, .ref t2, .ref t3, .ref t4])) l = some (.lst [.ref t1, .ref t2, .ref t3, .ref t4]) := upd_same
    obtain ⟨J, qJ⟩ : ∃ z, z = (upd (upd (upd (upd (upd H t1 (.lst [.str "a", .str "b", .str "A", .str "1"])) t2 (.lst [.str "1", .str "2", .str "a", .str "-"])) t3 (.lst [.str "a", .str "A", .str "b", .str "B"])) t4 (.lst [.str "0", .str "1", .str "2", .str "z"])) l (.lst [.ref t1, .ref t2, .ref t3, .ref t4])) := ⟨_, rfl⟩
    rw [← qJ] at T5 pools el ⊢
    refine ⟨p, l, _, n, rfl, T5.1, by omega, .of (rest_at lp el), (by show 0 < 4; decide), (by show 4 ≤ 1000000; decide), fun H6 x hx T6 => ?_⟩
    obtain ⟨t, pl, rfl, tp, et, ⟨nd, isg⟩, pl4⟩ := pools x hx
    have T6' := T5.go T6
    have et6 := T6.2.at tp et
    refine ⟨_, rfl, _, rfl, h4, fun u hu _ => ⟨t, u, _, _, rfl, rfl, Kb.same_upd hu _ _ et6, upd_same, by rw [List.length_map, pl4]; decide, fun c hc => ?_⟩⟩
    have T7 := T6'.new (o := .lst [.str "_", .str ".", .str "Z", .str "9"]) hu
    have T8 := T7.new (o := .lst (pl.map V.str ++ [.str "_", .str ".", .str "Z", .str "9"])) hc
    have cp := T7.1.ne hc
    have ec : pl.map V.str ++ [.str "_", .str ".", .str "Z", .str "9"] = (pl ++ (["_", ".", "Z", "9"] : List Str)).map V.str := by simp
    refine ⟨_, rfl, p, c, pl ++ (["_", ".", "Z", "9"] : List Str), m, _, rfl, T8.1, by omega, .of (rest_at cp (by rw [upd_same, ec])), nd, by rw [List.length_append, pl4]; exact m8, by rw [List.length_append, pl4]; decide, fun H9 r ys T9 hr gr er yl ynd ysub => ?_⟩
    have T9' := T8.go T9
    have hr0 : H r = none := T8.free hr fun z => by rw [z, rest_p] at er; cases er
    exact k H9 r ys (T9'.mono (by omega)) hr0 gr er ⟨fun z => by rw [z] at yl; simp at yl; omega, by omega, ynd, fun s hs => isg s (ysub s hs)⟩
end
end K1
set_option Elab.async false
set_option linter.all false
set_option maxRecDepth 100000
set_option maxHeartbeats 4000000
namespace K1
open PySem PySem.Spec PyProof.Rows L2 Kb Kc Kn
abbrev s__law_form : Stmt := top 67
theorem sc__law_form : FnScope ["_law_pot_here", "_law_signs_here", "_law_found", "_law_lap", "_law_some_here"] ["_law_pot_here", "_law_signs_here"] (defScope s__law_form) := ⟨rfl, rfl, rfl, by decide +kernel, rfl, by decide +kernel, by decide +kernel⟩
def LItem (K : PySem.W.Frag) (H : Hp) (i : Item) (y : V) : Prop := ∃ t : Addr, y = .ref t ∧ SqT K H t [.str (cat i.1), .str i.2]
def LForm (K : PySem.W.Frag) (H : Hp) (f : List Item) (y : V) : Prop := ∃ (t : Addr) (ys : List V), y = .ref t ∧ SqL K H t ys ∧ All2 (LItem K H) f ys
theorem LItem.same {K : PySem.W.Frag} {H H' : Hp} {i : Item} {y : V} (s : Same H H') (h : LItem K H i y) : LItem K H' i y := by
  obtain ⟨t, e, q⟩ := h
  exact ⟨t, e, Kb.Same.seqT s q⟩
theorem LForm.same {K : PySem.W.Frag} {H H' : Hp} {i : List Item} {y : V} (s : Same H H') (h : LForm K H i y) : LForm K H' i y := by
  obtain ⟨t, ys, e, q, a⟩ := h
  exact ⟨t, ys, e, Same.seq s q, a.imp fun _ _ h => h.same s⟩
theorem join_cat : ∀ ss : List Str, ("" : Str).join ss = cat ss
  | [] => rfl
  | [x] => by
    apply str_ext
    show x.cps.toList = _
    unfold cat
    simp
  | x :: y :: r => by
    have ih := join_cat (y :: r)
    have e : ("" : Str).join (x :: y :: r) = x ++ ("" : Str) ++ ("" : Str).join (y :: r) := rfl
    rw [e, ih]
    apply str_ext
    show ((x.cps ++ #[]) ++ (cat (y :: r)).cps).toList = _
    unfold cat
    simp
def FormOk (sg : List Str) (f : List Item) : Prop := f ≠ [] ∧ f.length ≤ 6 ∧ ∀ i ∈ f, ItemOk sg i.1 i.2
def spForm (K : PySem.W.Frag) : Sp := fun vs H Q _ => ∃ (p a : Addr) (sg : List Str) (n : Nat), vs = [.ref p, .ref a] ∧ PotAt H p n ∧ n + 40 ≤ 900000 ∧ SqL K (Rest p H) a (sg.map V.str) ∧ SgOk sg ∧
  ∀ H' y f, Took p n 40 H H' → LForm K (New p H H') f y → FormOk sg f → Q y H'
section
variable {P : Program} {w : World} {K : PySem.W.Frag} {mg : Str → Option Value} {base : Heap}
theorem ok_form {f f_law_take f_law_some f_law_of : Addr} {fd fd_law_take fd_law_some fd_law_of : FuncData} (F : Fun K "_law_form" "_law_form" s__law_form f fd) (B : Bl mg)
    (c_law_take : Cal P w K mg base 1 "_law_take" s__law_take ["_law_pot_here", "_law_upto"] spTake f_law_take fd_law_take)
    (c_law_some : Cal P w K mg base 2 "_law_some" s__law_some ["_law_pot_here", "_law_pool", "_law_many"] (spSome K) f_law_some fd_law_some)
    (c_law_of : Cal P w K mg base 2 "_law_of" s__law_of ["_law_pot_here", "_law_some_here"] (spOf K) f_law_of fd_law_of) :
    FnOk P w K mg base CX0 3 f fd ["_law_pot_here", "_law_signs_here"] (spForm K) := by
  refine F.ok sc__law_form (fun vs H Q E h => ?_) (fun cdv A outer s H vs Q E hr h => ?_)
  · obtain ⟨p, a, sg, n, rfl, _⟩ := h
    rfl
  · obtain ⟨p, a, sg, n, rfl, hP, hn, hA, hsg, k⟩ := h
    refine ⟨_, (pss_cons (ps_set (i := 2) sc__law_form.nd rfl (Or.inl rfl) (pe_lstB pa_nil))
      (pss_cons (ps_for PassesOwn.never rfl (pi_range1 rfl B.range (pa_cons (pe_op op_add pe_int (pe_call c_law_take.G (hr.mono (by decide)) (by rfl) c_law_take.g c_law_take.F.kp c_law_take.b .nil pass0 (pa_cons (pv 0) (pa_cons pe_int pa_nil)))) pa_nil)) (pg_name (i := 3) sc__law_form.nd rfl (Or.inl rfl))
        (pss_cons (ps_set (i := 4) sc__law_form.nd rfl (Or.inl rfl) (pe_join pe_str (pe_call c_law_some.G (hr.mono (by decide)) (by rfl) c_law_some.g c_law_some.F.kp c_law_some.b .nil pass0 (pa_cons (pv 0) (pa_cons (pv 1) (pa_cons (pe_op op_add pe_int (pe_call c_law_take.G (hr.mono (by decide)) (by rfl) c_law_take.g c_law_take.F.kp c_law_take.b .nil pass0 (pa_cons (pv 0) (pa_cons (pe_callB call_len_seq (by rfl) B.len (by decide +kernel) (pa_cons (pv 1) pa_nil)) pa_nil)))) pa_nil))))))
      (pss_one (ps_expr (pe_bm PySem.F.plainAttrs_list PySem.F.slot_list_append PySem.F.type_list_append mt_append (pv 2) (pa_cons (pe_tup (pa_cons (pv 4) (pa_cons (pe_call c_law_of.G (hr.mono (by decide)) (by rfl) c_law_of.g c_law_of.F.kp c_law_of.b .nil pass0 (pa_cons (pv 0) (pa_cons (pe_lstB (pa_cons pe_str (pa_cons pe_str (pa_cons pe_str (pa_cons pe_str (pa_cons pe_str pa_nil)))))) pa_nil))) pa_nil))) pa_nil))))))
      (pss_one (ps_ret (pv 2))))), ?_⟩
    have s8 := hsg.2.1
    refine ⟨(by show 0 ≤ sizeLine; decide), fun q hq _ => ?_⟩
    have pq : q ≠ p := hP.ne hq
    have T1 := (Took.refl hP).new (o := .lst []) hq
    refine ⟨_, rfl, p, 3, n, rfl, T1.1, by omega, by decide, by decide, fun H2 z z0 z1 T2 => ⟨1, z, rfl, rfl, 1 + z, rfl, by show -(2 ^ 62) ≤ 1 + z; omega, by show 1 + z < 2 ^ 62; omega, ?_⟩⟩
    obtain ⟨m, hm⟩ : ∃ m : Nat, (1 : Int) + z = (m : Int) := ⟨(1 + z).toNat, by omega⟩
    have m3 : 1 ≤ m ∧ m ≤ 3 := by omega
    have tm : (1 + z).toNat = m := by omega
    show ∃ W : Nat → Nat → L2.St → Hp → Prop, _
    rw [tm]
    have T2' := T1.go T2
    refine for_range (n := m) (fun i σ H3 => ∃ (v3 v4 : Option V) (f : List Item) (ys : List V), σ = [some (.ref p), some (.ref a), some (.ref q), v3, v4] ∧ Took p n (1 + 10 * i) H H3 ∧ H3 q = some (.lst ys) ∧ All2 (LItem K (Pt [p, q] H H3)) f ys ∧ f.length = i ∧ ∀ x ∈ f, ItemOk sg x.1 x.2) ⟨none, none, [], [], rfl, T2'.mono (by omega), T2.2.at pq upd_same, .nil, rfl, fun x m => by simp at m⟩ (fun i σ H3 hi ⟨v3, v4, f, ys, e, T, eq, hf, fl, ok⟩ => ?_) fun σ H3 ⟨v3, v4, f, ys, e, T, eq, hf, fl, ok⟩ => ?_
    · subst e
      refine ⟨⟨_, rfl⟩, _, rfl, _, rfl, _, rfl, _, rfl, a, _, rfl, .inl (seq_rest (seq_ext T.2 hA)), p, _, _, rfl, T.1, by omega, ?_, ?_, fun H4 z z0 z1 T4 => ⟨1, z, rfl, rfl, ?_⟩⟩
      · rw [List.length_map]
        have := List.length_pos_iff.mpr hsg.1
        omega
      · rw [List.length_map]
        omega
      rw [List.length_map] at z1
      obtain ⟨c, hc⟩ : ∃ c : Nat, (1 : Int) + z = (c : Int) := ⟨(1 + z).toNat, by omega⟩
      have T4' := T.go T4
      refine ⟨p, a, sg, c, _, (by show [V.ref p, V.ref a, V.int (1 + z)] = _; rw [hc]; rfl), T4'.1, by omega, seq_ext T4'.2 hA, hsg.2.2.1, by omega, by omega, fun H5 r ss T5 hr _ er sl snd ssub => ?_⟩
      have T5' := T4'.go T5
      have er5 : H5 r = some (.lst (ss.map V.str)) := rest_same p H5 _ _ er
      have eq5 := T5.2.at pq (T4.2.at pq eq)
      have lens : ∀ l : List Str, (∀ s ∈ l, s ∈ SG) → (l.map fun x => x.length).sum = l.length := fun l => by
        induction l with
        | nil => intro _; rfl
        | cons x t ih =>
          intro h
          rw [List.map_cons, List.sum_cons, ih fun s m => h s (.tail _ m), List.length_cons]
          obtain ⟨c, e, _⟩ := sg_one x (h x (.head _))
          rw [e]
          show 1 + t.length = _
          omega
      have insg : ∀ s ∈ ss, s ∈ SG := fun s m => hsg.2.2.2 s (ssub s m)
      refine ⟨_, r, ss, rfl, rfl, .inl (.of er5), ?_, ?_⟩
      · rw [lens ss insg]
        show ss.length + ss.length * 0 ≤ _
        omega
      have ej : Txt.join "" ss = cat ss := (txt_join "" ss).trans (join_cat ss)
      rw [ej]
      refine ⟨_, rfl, .inl ⟨rfl, _, .of eq5⟩, _, rfl, _, rfl, (by show 5 ≤ sizeLine; decide), fun t1 ht1 _ => ?_⟩
      have S6 := Kb.same_upd (o := .lst [.str "", .str "?", .str "+", .str "*", .str "*"]) ht1
      have T6 := T5'.new (o := .lst [.str "", .str "?", .str "+", .str "*", .str "*"]) ht1
      have t1p := T5'.1.ne ht1
      refine ⟨p, t1, [.str "", .str "?", .str "+", .str "*", .str "*"], _, rfl, T6.1, by omega, .of (rest_at t1p upd_same), (by show 0 < 5; decide), (by show 5 ≤ 1000000; decide), fun H7 w hw T7 => ?_⟩
      obtain ⟨mk, rfl, hmk⟩ : ∃ mk : Str, w = .str mk ∧ mk ∈ MK := by
        simp only [List.mem_cons, List.not_mem_nil, or_false] at hw
        rcases hw with rfl | rfl | rfl | rfl | rfl
        · exact ⟨_, rfl, by decide +kernel⟩
        · exact ⟨_, rfl, by decide +kernel⟩
        · exact ⟨_, rfl, by decide +kernel⟩
        · exact ⟨_, rfl, by decide +kernel⟩
        · exact ⟨_, rfl, by decide +kernel⟩
      have T7' := T6.go T7
      have eq7 := T7.2.at pq (S6 _ _ eq5)
      refine ⟨(by show 2 ≤ sizeLine; decide), fun t ht => ?_⟩
      have S8 := Kb.same_upd (o := .tup [.str (cat ss), .str mk]) ht
      have tp := T7'.1.ne ht
      have tn := T7'.free ht tp
      have tq : t ≠ q := fun z => by rw [z, eq7] at ht; cases ht
      have mv : Same (Pt [p, q] H H3) (Pt [p, q] H (upd (upd H7 t (.tup [.str (cat ss), .str mk])) q (.lst (ys ++ [.ref t])))) := Same.trans (Pt.ext T4.2 (by simp)) (Same.trans (Pt.ext T5.2 (by simp)) (Same.trans (Pt.new ht1) (Same.trans (Pt.ext T7.2 (by simp)) (Same.trans (Pt.new ht) (Pt.put (by simp))))))
      refine ⟨q, ys, _, rfl, rfl, S8 _ _ eq7, by rw [hf.1, fl]; exact Nat.lt_of_le_of_lt (show _ ≤ 3 by omega) (by decide), ?_⟩
      refine ⟨_, _, f ++ [(ss, mk)], ys ++ [.ref t], rfl, ((T7'.new ht).put hq pq).mono (by omega), upd_same, All2.snoc (hf.imp fun _ _ h => h.same mv) ⟨t, rfl, .of (Pt.at (by simp [tp, tq]) tn (by rw [upd_ne tq, upd_same]))⟩, by rw [List.length_append, fl]; rfl, fun x m => ?_⟩
      rcases List.mem_append.mp m with m | m
      · exact ok x m
      · simp only [List.mem_cons, List.not_mem_nil, or_false] at m
        subst m
        exact ⟨fun z => (by dsimp only at z; rw [z] at sl; simp at sl; omega), snd, ssub, hmk⟩
    · subst e
      refine ⟨_, rfl, k H3 _ f (T.mono (by omega)) ⟨q, ys, rfl, .of (new_at hq (rest_at pq eq)), hf.imp fun _ _ h => h.same (Pt.toNew (by simp))⟩ ⟨fun z => ?_, by omega, ok⟩⟩
      rw [z] at fl
      simp at fl
      omega
end
end K1
set_option Elab.async false
set_option linter.all false
set_option maxRecDepth 100000
set_option maxHeartbeats 4000000
namespace K1
open PySem PySem.Spec PyProof.Rows L2 Kb Kc Kn
abbrev s__law_lore : Stmt := top 68
theorem sc__law_lore : FnScope ["_law_pot_here", "_law_signs_here", "_law_rules", "_law_passes", "_law_odds", "_law_lore_here", "_law_name", "_law_found", "_law_lap"] ["_law_pot_here", "_law_signs_here", "_law_rules", "_law_passes", "_law_odds"] (defScope s__law_lore) := ⟨rfl, rfl, rfl, by decide +kernel, rfl, by decide +kernel, by decide +kernel⟩
/-! ### passes as data -/
def factD (x : Fact) : PyData := .tuple [.str x.lo, .str x.rel, .str x.hi]
def passD : Ps → PyData
  | .length => .tuple [.str "length", .none, .none]
  | .known w xs => .tuple [.str w, .none, .list (xs.map factD)]
  | .cls w rows => .tuple [.str w, .list (rowsD rows), .none]
theorem dp_all2 {K : PySem.W.Frag} {H : Hp} {α : Type} {R : α → V → Prop} (f : α → PyData) (hf : ∀ x y, R x y → Dp K H y (f x)) : ∀ {xs : List α} {ys : List V}, All2 R xs ys → DpAll K H ys (xs.map f)
  | [], ys, h => by
    have : ys = [] := List.length_eq_zero_iff.mp h.1
    rw [this]
    exact .nil
  | r :: t, ys, h => by
    cases ys with
    | nil => exact absurd h.1 (by simp)
    | cons y u => exact .cons (hf r y (h.2 0 y r rfl rfl)) (dp_all2 f hf ⟨by have := h.1; simp at this; exact this, fun i y x e1 e2 => h.2 (i + 1) y x (by simpa using e1) (by simpa using e2)⟩)
theorem dp_pass {K : PySem.W.Frag} {H : Hp} {ps : Ps} {y : V} (h : LPass K H ps y) : Dp K H y (passD ps) := by
  cases ps with
  | length =>
    obtain ⟨t, rfl, q⟩ := h
    exact .tup q (.cons (.str _) (.cons .non (.cons .non .nil)))
  | known w xs =>
    obtain ⟨t, z, rfl, q, l, ys, rfl, ql, a⟩ := h
    refine .tup q (.cons (.str _) (.cons .non (.cons (.lst ql (dp_all2 factD (fun x y h => ?_) a)) .nil)))
    obtain ⟨t, rfl, q⟩ := h
    exact .tup q (.cons (.str _) (.cons (.str _) (.cons (.str _) .nil)))
  | cls w rows =>
    obtain ⟨t, z, rfl, q, l, ys, rfl, ql, a⟩ := h
    exact .tup q (.cons (.str _) (.cons (.lst ql (dp_rows a)) (.cons .non .nil)))
theorem rw3_lay : ∀ s ∈ RW3, PyData.canLay0 (.str s) = true := by decide +kernel
theorem fc_lay : ∀ s ∈ FC, PyData.canLay0 (.str s) = true := by decide +kernel
theorem lay_facts {sg : List Str} (hs : SgOk sg) : ∀ {xs : List Fact}, (∀ x ∈ xs, FactOk sg x) → PyData.canLayAll0 (xs.map factD) = true
  | [], _ => rfl
  | x :: t, h => by
    have ih := lay_facts hs (xs := t) fun y m => h y (.tail _ m)
    obtain ⟨h1, h2, _, h4⟩ := h x (.head _)
    have a1 := lay_strs (zs := [x.lo, x.hi]) fun s m => by
      simp only [List.mem_cons, List.not_mem_nil, or_false] at m
      rcases m with rfl | rfl
      · exact hs.2.2.2 _ h1
      · exact hs.2.2.2 _ h2
    have a2 := fc_lay _ h4
    simp [PyData.canLayAll0, PyData.canLay0] at a1 a2
    simp [factD, PyData.canLayAll0, PyData.canLay0, ih, a1, a2]
theorem dep_facts : ∀ xs : List Fact, PyData.depthAll (xs.map factD) ≤ 1
  | [] => by
    show PyData.depthAll [] ≤ 1
    simp [PyData.depthAll]
  | x :: t => by
    have := dep_facts t
    simp [factD, PyData.depthAll, PyData.depth]
    omega
theorem lay_pass {sg : List Str} (hs : SgOk sg) : ∀ {ps : Ps}, ps.ok sg → PyData.canLay0 (passD ps) = true ∧ (passD ps).depth ≤ 3
  | .length, _ => by decide +kernel
  | .known w xs, h => by
    have a1 := rw3_lay _ h.1
    have a2 := lay_facts hs h.2.1
    have a3 := dep_facts xs
    simp [PyData.canLay0] at a1
    refine ⟨by simp [passD, PyData.canLay0, PyData.canLayAll0, a1, a2], ?_⟩
    simp [passD, PyData.depth, PyData.depthAll]
    omega
  | .cls w rows, h => by
    have a1 := rw3_lay _ h.1
    have a2 := lay_rows rows fun r m s ms => hs.2.2.2 s (h.2.1.2.mem_iff.mp (List.mem_flatten.mpr ⟨r, m, ms⟩))
    have a3 := dep_rows rows
    simp [PyData.canLay0] at a1
    refine ⟨by simp [passD, PyData.canLay0, PyData.canLayAll0, a1, a2], ?_⟩
    simp [passD, PyData.depth, PyData.depthAll]
    omega
theorem shaped_pass {sg : List Str} (hs : SgOk sg) {ps : List Ps} (h : ∀ p ∈ ps, p.ok sg) : SeqAt.shaped (.list (ps.map passD)) = true := by
  have : PyData.canLayAll0 (ps.map passD) = true ∧ PyData.depthAll (ps.map passD) ≤ 3 := by
    induction ps with
    | nil => exact ⟨rfl, by show PyData.depthAll [] ≤ 3; simp [PyData.depthAll]⟩
    | cons p t ih =>
      obtain ⟨i1, i2⟩ := ih fun q m => h q (.tail _ m)
      obtain ⟨j1, j2⟩ := lay_pass hs (h p (.head _))
      refine ⟨by simp [PyData.canLayAll0, i1, j1], ?_⟩
      simp [PyData.depthAll]
      omega
  simp [SeqAt.shaped, PyData.canLay0, PyData.depth, this.1]
  have := this.2
  omega
theorem eqv_pass (ps : List Ps) : PyData.eqv (.list (ps.map passD)) (.list []) = ps.isEmpty := by
  cases ps <;> simp [PyData.eqv, PyData.eqvAll]
/-! ### a house's lore, while it is drawn -/
/-- nothing changes but at some places -/
def Fr (Y : List Addr) (H H' : Hp) : Prop := ∀ b o, b ∉ Y → H b = some o → H' b = some o
def RuleAt (K : PySem.W.Frag) (G H : Hp) (r : Rule) (b : Addr) (y : V) : Prop := (∃ t : Addr, y = .ref t ∧ SqT K G t [.str r.1, .ref b]) ∧ ∃ ys, H b = some (.lst ys) ∧ All2 (LPass K G) r.2 ys
def kv3 (ls lf lr : Addr) : List (Key × V) := [(Sum.inr "signs", V.ref ls), (Sum.inr "forms", V.ref lf), (Sum.inr "rules", V.ref lr)]
theorem kv3_merge (ls lf lr : Addr) : mergeK [] (kv3 ls lf lr) = kv3 ls lf lr := by rfl
theorem kv3_signs (ls lf lr : Addr) : valV (kv3 ls lf lr) (Sum.inr "signs") = some (V.ref ls) := by rfl
theorem kv3_forms (ls lf lr : Addr) : valV (kv3 ls lf lr) (Sum.inr "forms") = some (V.ref lf) := by rfl
theorem kv3_rules (ls lf lr : Addr) : valV (kv3 ls lf lr) (Sum.inr "rules") = some (V.ref lr) := by rfl
structure LoreIn (K : PySem.W.Frag) (X : List Addr) (d ls lf lr : Addr) (bs : List Addr) (sg : List Str) (rs : List Rule) (H0 H : Hp) : Prop where
  dic : H d = some (.dK (kv3 ls lf lr))
  sig : Pt X H0 H ls = some (.lst (sg.map V.str))
  rls : ∃ rts, H lr = some (.lst rts) ∧ rts.length = rs.length ∧ bs.length = rs.length ∧ ∀ (i : Nat) (y : V) (r : Rule) (b : Addr), rts[i]? = some y → rs[i]? = some r → bs[i]? = some b → RuleAt K (Pt X H0 H) H r b y
  nd : bs.Nodup
  inX : d ∈ X ∧ lr ∈ X ∧ ∀ b ∈ bs, b ∈ X
  ne : lr ∉ bs ∧ d ∉ bs
  new : H0 d = none ∧ H0 lr = none ∧ ∀ b ∈ bs, H0 b = none
end K1
set_option Elab.async false
set_option linter.all false
set_option maxRecDepth 100000
set_option maxHeartbeats 4000000
namespace K1
open PySem PySem.Spec PyProof.Rows L2 Kb Kc Kn
def LrOk (sg : List Str) (rs : List Rule) : Prop := SgOk sg ∧ (∀ r ∈ rs, RuleOk sg r) ∧ rs ≠ [] ∧ rs.length ≤ 4 ∧ (rs.map (·.1)).Nodup
def spLore (K : PySem.W.Frag) : Sp := fun vs H Q _ => ∃ (p : Addr) (m n : Nat), vs = [.ref p, nv m, .int 4, .int 3, .int 2] ∧ PotAt H p n ∧ n + 700 ≤ 900000 ∧ 1 ≤ m ∧ m ≤ 8 ∧
  ∀ H' d ls lf lr bs sg rs, Took p n 700 H H' → p ∉ d :: lr :: bs → LoreIn K (p :: d :: lr :: bs) d ls lf lr bs sg rs H H' → LrOk sg rs → Q (.ref d) H'
section
variable {K : PySem.W.Frag} {X X' Y : List Addr} {d ls lf lr : Addr} {bs : List Addr} {sg : List Str} {rs : List Rule} {H0 H H' : Hp}
theorem RuleAt.imp {G G' : Hp} {r : Rule} {b : Addr} {y : V} (s : Same G G') (e : ∀ ys, H b = some (.lst ys) → H' b = some (.lst ys)) (h : RuleAt K G H r b y) : RuleAt K G' H' r b y := by
  obtain ⟨⟨t, e1, q⟩, ys, e2, a⟩ := h
  exact ⟨⟨t, e1, Kb.Same.seqT s q⟩, ys, e ys e2, a.imp fun _ _ h => h.same s⟩
theorem Fr.pt (f : Fr Y H H') (hy : ∀ y ∈ Y, y ∈ X) : Same (Pt X H0 H) (Pt X H0 H') := Pt.same fun b o h1 _ e => f b o (fun m => h1 (hy b m)) e
theorem LoreIn.fr (h : LoreIn K X d ls lf lr bs sg rs H0 H) (f : Fr Y H H') (hy : ∀ y ∈ Y, y ∈ X) (hd : d ∉ Y) (hl : lr ∉ Y) (hb : ∀ b ∈ bs, b ∉ Y) : LoreIn K X d ls lf lr bs sg rs H0 H' := by
  obtain ⟨h1, h2, ⟨rts, e1, e2, e3, e4⟩, h4, h5, h6, h7⟩ := h
  have s : Same (Pt X H0 H) (Pt X H0 H') := f.pt hy
  exact ⟨f _ _ hd h1, s _ _ h2, ⟨rts, f _ _ hl e1, e2, e3, fun i y r b a1 a2 a3 => (e4 i y r b a1 a2 a3).imp s fun ys e => f _ _ (hb b (List.mem_of_getElem? a3)) e⟩, h4, h5, h6, h7⟩
theorem Pt.grow (hx : ∀ x ∈ X', x ∈ X ∨ H x = none) : Same (Pt X H0 H) (Pt X' H0 H) := fun b o e => by
  obtain ⟨h1, h2, h3⟩ := Pt.inv e
  refine Pt.at (fun m => ?_) h2 h3
  rcases hx b m with z | z
  · exact h1 z
  · rw [z] at h3
    cases h3
theorem LoreIn.more (h : LoreIn K X d ls lf lr bs sg rs H0 H) (hs : ∀ x ∈ X, x ∈ X') (hx : ∀ x ∈ X', x ∈ X ∨ H x = none) : LoreIn K X' d ls lf lr bs sg rs H0 H := by
  obtain ⟨h1, h2, ⟨rts, e1, e2, e3, e4⟩, h4, ⟨h5, h5', h5''⟩, h6, h7⟩ := h
  have s : Same (Pt X H0 H) (Pt X' H0 H) := Pt.grow hx
  exact ⟨h1, s _ _ h2, ⟨rts, e1, e2, e3, fun i y r b a1 a2 a3 => (e4 i y r b a1 a2 a3).imp s fun ys e => e⟩, h4, ⟨hs _ h5, hs _ h5', fun b m => hs _ (h5'' b m)⟩, h6, h7⟩
theorem LoreIn.live (h : LoreIn K X d ls lf lr bs sg rs H0 H) : ∀ b ∈ bs, ∃ ys, H b = some (.lst ys) := fun b m => by
  obtain ⟨i, hi, e⟩ := List.getElem_of_mem m
  obtain ⟨rts, _, e2, e3, e4⟩ := h.rls
  obtain ⟨_, ys, e5, _⟩ := e4 i _ _ b (List.getElem?_eq_getElem (by omega)) (List.getElem?_eq_getElem (by omega)) (by rw [List.getElem?_eq_getElem hi, e])
  exact ⟨ys, e5⟩
theorem Fr.refl : Fr Y H H := fun _ _ _ e => e
theorem Fr.trans {H2 : Hp} (a : Fr Y H H') (b : Fr Y H' H2) : Fr Y H H2 := fun x o n e => b x o n (a x o n e)
theorem Fr.same (s : Same H H') : Fr Y H H' := fun x o _ e => s x o e
theorem Fr.ext {p : Addr} (x : Ext p H H') (m : p ∈ Y) : Fr Y H H' := fun a o n e => x.at (fun z => n (by rw [z]; exact m)) e
theorem Fr.put {a : Addr} {o : HO} (m : a ∈ Y) : Fr Y H (upd H a o) := fun b u n e => by
  rw [upd_ne (fun z => n (by rw [z]; exact m))]
  exact e
end
def NameInv (K : PySem.W.Frag) (p d ls lf lr r : Addr) (m n : Nat) (sg ss : List Str) (H : Hp) (i : Nat) (σ : L2.St) (H2 : Hp) : Prop := ∃ (v6 v7 v8 : Option V) (bs : List Addr) (rs : List Rule), σ = [some (.ref p), some (nv m), some (.int 4), some (.int 3), some (.int 2), some (.ref d), v6, v7, v8] ∧ Took p n (15 + 151 * i) H H2 ∧ H2 r = some (.lst (ss.map V.str)) ∧
  p ∉ d :: lr :: bs ∧ r ∉ p :: d :: lr :: bs ∧ LoreIn K (p :: d :: lr :: bs) d ls lf lr bs sg rs H H2 ∧ rs.map (·.1) = ss.take i ∧ ∀ r ∈ rs, RuleOk sg r
section
variable {P : Program} {w : World} {K : PySem.W.Frag} {mg : Str → Option Value} {base : Heap}
theorem ok_lore {f f_law_take f_law_some f_law_signs f_law_words f_law_pass : Addr} {fd fd_law_take fd_law_some fd_law_signs fd_law_words fd_law_pass : FuncData} (F : Fun K "_law_lore" "_law_lore" s__law_lore f fd) (B : Bl mg)
    (c_law_take : Cal P w K mg base 1 "_law_take" s__law_take ["_law_pot_here", "_law_upto"] spTake f_law_take fd_law_take)
    (c_law_some : Cal P w K mg base 2 "_law_some" s__law_some ["_law_pot_here", "_law_pool", "_law_many"] (spSome K) f_law_some fd_law_some)
    (c_law_signs : Cal P w K mg base 3 "_law_signs" s__law_signs ["_law_pot_here", "_law_many"] (spSigns K) f_law_signs fd_law_signs)
    (c_law_words : Cal P w K mg base 1 "_law_words" s__law_words [] spWords f_law_words fd_law_words)
    (c_law_pass : Cal P w K mg base 5 "_law_pass" s__law_pass ["_law_pot_here", "_law_signs_here", "_law_is_first", "_law_odds"] (spPass K) f_law_pass fd_law_pass) :
    FnOk P w K mg base CX0 6 f fd ["_law_pot_here", "_law_signs_here", "_law_rules", "_law_passes", "_law_odds"] (spLore K) := by
  refine F.ok sc__law_lore (fun vs H Q E h => ?_) (fun cdv A outer s H vs Q E hr h => ?_)
  · obtain ⟨p, m, n, rfl, _⟩ := h
    rfl
  · obtain ⟨p, m, n, rfl, hP, hn, m1, m8, k⟩ := h
    refine ⟨_, (pss_cons (ps_set (i := 5) sc__law_lore.nd rfl (Or.inl rfl) (pe_disp (pps_cons pe_str (pe_call c_law_signs.G (hr.mono (by decide)) (by rfl) c_law_signs.g c_law_signs.F.kp c_law_signs.b .nil pass0 (pa_cons (pv 0) (pa_cons (pv 1) pa_nil))) (pps_cons pe_str (pe_lstB pa_nil) (pps_cons pe_str (pe_lstB pa_nil) pps_nil))) (by rfl) (by rfl) (fun z => by cases z) (by decide)))
      (pss_cons (ps_for PassesOwn.never rfl (pi_list (pe_call c_law_some.G (hr.mono (by decide)) (by rfl) c_law_some.g c_law_some.F.kp c_law_some.b .nil pass0 (pa_cons (pv 0) (pa_cons (pe_call0 c_law_words.G (hr.mono (by decide)) (by rfl) c_law_words.g c_law_words.F.kp c_law_words.b .nil pass0) (pa_cons (pe_op op_add pe_int (pe_call c_law_take.G (hr.mono (by decide)) (by rfl) c_law_take.g c_law_take.F.kp c_law_take.b .nil pass0 (pa_cons (pv 0) (pa_cons (pv 2) pa_nil)))) pa_nil))))) (pg_name (i := 6) sc__law_lore.nd rfl (Or.inl rfl))
        (pss_cons (ps_set (i := 7) sc__law_lore.nd rfl (Or.inl rfl) (pe_lstB pa_nil))
      (pss_cons (ps_for PassesOwn.never rfl (pi_range1 rfl B.range (pa_cons (pe_op op_add pe_int (pe_call c_law_take.G (hr.mono (by decide)) (by rfl) c_law_take.g c_law_take.F.kp c_law_take.b .nil pass0 (pa_cons (pv 0) (pa_cons (pv 3) pa_nil)))) pa_nil)) (pg_name (i := 8) sc__law_lore.nd rfl (Or.inl rfl))
        (pss_one (ps_expr (pe_bm PySem.F.plainAttrs_list PySem.F.slot_list_append PySem.F.type_list_append mt_append (pv 7) (pa_cons (pe_call c_law_pass.G (hr.mono (by decide)) (by rfl) c_law_pass.g c_law_pass.F.kp c_law_pass.b .nil pass0 (pa_cons (pv 0) (pa_cons (pe_dget (hu_of hr) (pv 5) pe_str (fun _ _ => rfl)) (pa_cons (pe_cmpR (op_eqD hr.units) (pv 7) (pe_lstB pa_nil) (nomark _)) (pa_cons (pv 4) pa_nil))))) pa_nil)))))
      (pss_one (ps_expr (pe_bm PySem.F.plainAttrs_list PySem.F.slot_list_append PySem.F.type_list_append mt_append (pe_dget (hu_of hr) (pv 5) pe_str (fun _ _ => rfl)) (pa_cons (pe_tup (pa_cons (pv 6) (pa_cons (pv 7) pa_nil))) pa_nil)))))))
      (pss_one (ps_ret (pv 5))))), ?_⟩
    refine fun d hd => ?_
    have dp : d ≠ p := hP.ne hd
    have T1 := (Took.refl hP).new (o := .dK []) hd
    refine ⟨_, rfl, _, rfl, p, m, n, rfl, T1.1, by omega, m1, m8, fun H2 ls sg T2 hls _ els hsg => ⟨(by show 0 ≤ sizeLine; decide), fun lf hlf _ => ⟨(by show 0 ≤ sizeLine; decide), fun lr hlr _ => ?_⟩⟩⟩
    have T2' := T1.go T2
    have S3 := Kb.same_upd (o := .lst []) hlf
    have S4 := Kb.same_upd (o := .lst []) hlr
    have T3 := T2'.new (o := .lst []) hlf
    have T4 := T3.new (o := .lst []) hlr
    have ed2 : H2 d = some (.dK []) := T2.2.at dp upd_same
    have lsp : ls ≠ p := fun z => by rw [z, rest_p] at els; cases els
    have lsd : ls ≠ d := fun z => by rw [z, upd_same] at hls; cases hls
    have els2 := rest_same p H2 _ _ els
    have lrp : lr ≠ p := T3.1.ne hlr
    have lrd : lr ≠ d := fun z => by rw [z, S3 _ _ ed2] at hlr; cases hlr
    have lrs : ls ≠ lr := fun z => by rw [← z, S3 _ _ els2] at hlr; cases hlr
    have nls : H ls = none := (Kb.same_upd hd).free hls
    have nlr : H lr = none := T3.free hlr lrp
    refine ⟨S4 _ _ (S3 _ _ ed2), kv3 ls lf lr, rfl, (by show 3 ≤ 15; decide), ?_⟩
    rw [kv3_merge]
    have T5 := T4.put (o := .dK (kv3 ls lf lr)) hd dp
    have L0 : LoreIn K [p, d, lr] d ls lf lr [] sg [] H (upd (upd (upd H2 lf (.lst [])) lr (.lst [])) d (.dK (kv3 ls lf lr))) := by
      refine ⟨upd_same, Pt.at (by simp [lsp, lsd, lrs]) nls (by rw [upd_ne lsd]; exact S4 _ _ (S3 _ _ els2)), ⟨[], by rw [upd_ne lrd, upd_same], rfl, rfl, fun i y r b e => by simp at e⟩, List.nodup_nil, by simp, by simp, hd, nlr, by simp⟩
    obtain ⟨J, qJ⟩ : ∃ z, z = (upd (upd (upd H2 lf (.lst [])) lr (.lst [])) d (.dK (kv3 ls lf lr))) := ⟨_, rfl⟩
    rw [← qJ] at T5 L0 ⊢
    refine ⟨_, rfl, rfl, fun H6 lw S6 hlw _ elw => ?_⟩
    have T6 : Took p n (0 + 10) H H6 := ⟨T5.1.same S6, T5.2.trans (.same S6)⟩
    refine ⟨_, rfl, _, rfl, p, 4, _, rfl, T6.1, by omega, by decide, by decide, fun H7 z z0 z1 T7 => ⟨1, z, rfl, rfl, ?_⟩⟩
    obtain ⟨c, hc⟩ : ∃ c : Nat, (1 : Int) + z = (c : Int) := ⟨(1 + z).toNat, by omega⟩
    have T7' := T6.go T7
    have lwp : lw ≠ p := T5.1.ne hlw
    refine ⟨p, lw, WD, c, _, (by show [V.ref p, V.ref lw, V.int (1 + z)] = _; rw [hc]; rfl), T7'.1, by omega, .of (rest_at lwp (T7.2.at lwp elw)), by decide +kernel, by show c ≤ 12; omega, by decide +kernel, fun H8 r ss T8 hr _ er sl snd ssub => ?_⟩
    have T8' := T7'.go T8
    have er8 : H8 r = some (.lst (ss.map V.str)) := rest_same p H8 _ _ er
    have rp : r ≠ p := fun z => by rw [z, rest_p] at er; cases er
    have F8 : Fr [p] J H8 := (Fr.same S6).trans ((Fr.ext T7.2 (by simp)).trans (Fr.ext T8.2 (by simp)))
    have rd : r ≠ d := fun z => by
      have := T7.2.at dp (S6 _ _ L0.dic)
      rw [← z, hr] at this
      cases this
    have rlr : r ≠ lr := fun z => by
      obtain ⟨rts, e1, _⟩ := L0.rls
      have := T7.2.at lrp (S6 _ _ e1)
      rw [← z, hr] at this
      cases this
    refine ⟨r, rfl, ⟨_, .of er8⟩, for_it (walk_list (xs := ss.map V.str)) (NameInv K p d ls lf lr r m n sg ss H) ⟨none, none, none, [], [], rfl, T8'.mono (by omega), er8, by simp [Ne.symm dp, Ne.symm lrp], by simp [rp, rd, rlr], L0.fr F8 (by simp) (by simp [dp]) (by simp [lrp]) (by simp), rfl, by simp⟩ (fun i σ H2 _ ⟨_, _, _, _, _, _, _, e, _⟩ => .of e) (fun i x σ H10 H9 hi ⟨v6, v7, v8, bs, rs, e, T, er9, pX, rX, L, en, ok⟩ y => ?_) fun σ H9 ⟨v6, v7, v8, bs, rs, e, T, er9, pX, rX, L, en, ok⟩ => ?_⟩
    · subst e
      obtain ⟨rfl, hx⟩ := y
      rw [List.length_map] at hi
      obtain ⟨nm, hnm⟩ : ∃ z, ss[i]? = some z := ⟨_, List.getElem?_eq_getElem hi⟩
      have ex : x = V.str nm := by
        rw [List.getElem?_map, hnm] at hx
        exact (Option.some.inj hx).symm
      subst ex
      have etk : ss.take (i + 1) = ss.take i ++ [nm] := by rw [List.take_succ, hnm]; rfl
      have i4 : i < 4 := by omega
      have rsl : rs.length = i := by
        have := congrArg List.length en
        rw [List.length_map, List.length_take] at this
        omega
      obtain ⟨rts, elr, rtl, bsl, hat⟩ := L.rls
      refine ⟨(by show 0 ≤ sizeLine; decide), fun b hb _ => ?_⟩
      have bp : b ≠ p := T.1.ne hb
      have bd : b ≠ d := fun z => by rw [z, L.dic] at hb; cases hb
      have blr : b ≠ lr := fun z => by rw [z, elr] at hb; cases hb
      have bbs : b ∉ bs := fun m => by
        obtain ⟨ys, e⟩ := L.live b m
        rw [e] at hb
        cases hb
      have br : b ≠ r := fun z => by rw [z, er9] at hb; cases hb
      have nb : H b = none := T.free hb bp
      have S11 := Kb.same_upd (o := .lst []) hb
      have T11 := T.new (o := .lst []) hb
      have xin : ∀ x, x ∈ p :: d :: lr :: (bs ++ [b]) ↔ x ∈ p :: d :: lr :: bs ∨ x = b := fun x => by
        simp only [List.mem_cons, List.mem_append, List.not_mem_nil, or_false]
        constructor
        · rintro (h | h | h | h | h) <;> simp [h]
        · rintro ((h | h | h | h) | h) <;> simp [h]
      have L' : LoreIn K (p :: d :: lr :: (bs ++ [b])) d ls lf lr bs sg rs H (upd H9 b (.lst [])) := (L.more (fun x m => (xin x).mpr (.inl m)) fun x m => (xin x).mp m |>.imp id fun z => by rw [z]; exact hb).fr (Fr.same (Y := []) S11) (by simp) (by simp) (by simp) (by simp)
      have er11 := S11 _ _ er9
      have eb11 : (upd H9 b (.lst [])) b = some (.lst []) := upd_same
      obtain ⟨J2, qJ2⟩ : ∃ z, z = upd H9 b (.lst []) := ⟨_, rfl⟩
      rw [← qJ2] at T11 L' er11 eb11 ⊢
      refine ⟨_, rfl, _, rfl, p, 3, _, rfl, T11.1, by omega, by decide, by decide, fun H12 z z0 z1 T12 => ⟨1, z, rfl, rfl, 1 + z, rfl, by show -(2 ^ 62) ≤ 1 + z; omega, by show 1 + z < 2 ^ 62; omega, ?_⟩⟩
      obtain ⟨m2, hm2⟩ : ∃ c : Nat, (1 : Int) + z = (c : Int) := ⟨(1 + z).toNat, by omega⟩
      have tm : (1 + z).toNat = m2 := by omega
      show ∃ W : Nat → Nat → L2.St → Hp → Prop, _
      rw [tm]
      have T12' := T11.go T12
      have F12 : Fr [p, b] J2 H12 := Fr.ext T12.2 (by simp)
      refine for_range (n := m2) (fun j σ H2 => ∃ (v8 : Option V) (ps : List Ps) (ys : List V), σ = [some (.ref p), some (nv m), some (.int 4), some (.int 3), some (.int 2), some (.ref d), some (.str nm), some (.ref b), v8] ∧ Took p n (15 + 151 * i + 1 + 50 * j) H H2 ∧ Fr [p, b] J2 H2 ∧ H2 b = some (.lst ys) ∧ All2 (LPass K (Pt (p :: d :: lr :: (bs ++ [b])) H H2)) ps ys ∧ ps.length = j ∧ (∀ q ∈ ps, Ps.ok sg q) ∧ ∀ q, ps.head? = some q → q.isBack = false) ⟨_, [], [], rfl, T12'.mono (by omega), F12, T12.2.at bp eb11, .nil, rfl, by simp, by simp⟩ (fun j σ H13 hj ⟨v8, ps, ys, e, T13, F13, eb13, hps, pl, okp, hdp⟩ => ?_) fun σ H13 ⟨v8, ps, ys, e, T13, F13, eb13, hps, pl, okp, hdp⟩ => ?_
      · subst e
        have ed13 := F13 d _ (by simp [dp, Ne.symm bd]) L'.dic
        obtain ⟨lx, l0, lh⟩ := Pt.inv L'.sig
        have lx1 : ls ≠ p ∧ ls ≠ b := by
          refine ⟨fun z => lx (by rw [z]; simp), fun z => lx ((xin ls).mpr (.inr z))⟩
        have ls13 := F13 ls _ (by simp [lx1.1, lx1.2]) lh
        refine ⟨_, rfl, .inl ⟨rfl, _, .of eb13⟩, _, rfl, _, rfl, d, .ref ls, rfl, .inl ⟨_, Sum.inr "signs", .inl ed13, rfl, (kv3_signs ls lf lr).symm⟩, _, rfl, (by show 0 ≤ sizeLine; decide), fun t0 ht0 _ => ?_⟩
        have S14 := Kb.same_upd (o := .lst []) ht0
        have T14 := T13.new (o := .lst []) ht0
        refine ⟨.list (ps.map passD), .list [], .lst (.of (S14 _ _ eb13)) (dp_all2 passD (fun x y h => dp_pass h) (hps.imp fun _ _ h => h.same (Same.trans Pt.sub S14))), .lst (.of upd_same) .nil, shaped_pass hsg okp, by decide +kernel, ?_⟩
        rw [eqv_pass]
        refine ⟨_, rfl, p, ls, sg, ps.isEmpty, _, rfl, T14.1, by omega, .of (rest_at lx1.1 (S14 _ _ ls13)), hsg, fun H15 y q T15 hq okq hbq => ?_⟩
        have T15' := T14.go T15
        have eb15 := T15.2.at bp (S14 _ _ eb13)
        have dr13 := F13 lr _ (by simp [lrp, Ne.symm blr]) (L'.rls.choose_spec.1)
        have Xl : ∀ x ∈ p :: d :: lr :: (bs ++ [b]), x = p ∨ (upd H13 t0 (.lst [])) x ≠ none := fun x m => by
          rcases (xin x).mp m with h | h
          · simp only [List.mem_cons] at h
            rcases h with h | h | h | h
            · exact .inl h
            · rw [h, S14 _ _ ed13]; simp
            · rw [h, S14 _ _ dr13]; simp
            · obtain ⟨zs, ez⟩ := L'.live x h
              have xb : x ≠ b := fun z => bbs (by rw [← z]; exact h)
              have xp : x ≠ p := fun z => pX (by rw [← z]; simp [h])
              rw [S14 _ _ (F13 x _ (by simp [xb, xp]) ez)]
              simp
          · rw [h, S14 _ _ eb13]; simp
        have F15 : Fr [p, b] H13 H15 := (Fr.same S14).trans (Fr.ext T15.2 (by simp))
        have mv : Same (Pt (p :: d :: lr :: (bs ++ [b])) H H13) (Pt (p :: d :: lr :: (bs ++ [b])) H (upd H15 b (.lst (ys ++ [y])))) := (F15.trans (Fr.put (by simp))).pt (fun z hz => by
          simp only [List.mem_cons, List.not_mem_nil, or_false] at hz
          rcases hz with rfl | rfl
          · simp
          · exact (xin _).mpr (.inr rfl))
        have mvy : Same (New p (upd H13 t0 (.lst [])) H15) (Pt (p :: d :: lr :: (bs ++ [b])) H (upd H15 b (.lst (ys ++ [y])))) := Same.trans (Pt.callee Xl fun x nx hx => T14.free hx nx) (Pt.put ((xin _).mpr (.inr rfl)))
        refine ⟨b, ys, _, rfl, rfl, eb15, by rw [hps.1, pl]; exact Nat.lt_of_le_of_lt (show _ ≤ 3 by omega) (by decide), ?_⟩
        refine ⟨_, ps ++ [q], ys ++ [y], rfl, (T15'.put nb bp).mono (by omega), F13.trans (F15.trans (Fr.put (by simp))), upd_same, All2.snoc (hps.imp fun _ _ h => h.same mv) (hq.same mvy), by rw [List.length_append, pl]; rfl, fun u m => ?_, fun u hu => ?_⟩
        · rcases List.mem_append.mp m with m | m
          · exact okp u m
          · have : u = q := by simpa using m
            rw [this]
            exact okq
        · cases ps with
          | nil =>
            have : q = u := by simpa using hu
            rw [← this]
            exact hbq rfl
          | cons p0 r0 =>
            have : p0 = u := by simpa using hu
            exact hdp u (by rw [this]; rfl)
      · subst e
        have ed13 := F13 d _ (by simp [dp, Ne.symm bd]) L'.dic
        have elr13 : H13 lr = some (.lst rts) := F13 lr _ (by simp [lrp, Ne.symm blr]) (by rw [qJ2]; exact S11 _ _ elr)
        refine ⟨_, rfl, d, .ref lr, rfl, .inl ⟨_, Sum.inr "rules", .inl ed13, rfl, (kv3_rules ls lf lr).symm⟩, .inl ⟨rfl, _, .of elr13⟩, _, rfl, _, rfl, (by show 2 ≤ sizeLine; decide), fun t ht => ?_⟩
        have S14 := Kb.same_upd (o := .tup [.str nm, .ref b]) ht
        have T14 := T13.new (o := .tup [.str nm, .ref b]) ht
        have tp : t ≠ p := T13.1.ne ht
        have tn : H t = none := T13.free ht tp
        refine ⟨lr, rts, _, rfl, rfl, S14 _ _ elr13, by rw [rtl, rsl]; exact Nat.lt_of_le_of_lt (show _ ≤ 4 by omega) (by decide), ?_⟩
        have tX : t ∉ p :: d :: lr :: (bs ++ [b]) := fun m => by
          rcases (xin t).mp m with h | h
          · simp only [List.mem_cons] at h
            rcases h with h | h | h | h
            · exact tp h
            · rw [h, ed13] at ht; cases ht
            · rw [h, elr13] at ht; cases ht
            · obtain ⟨zs, ez⟩ := L'.live t h
              have xb : t ≠ b := fun z => bbs (by rw [← z]; exact h)
              rw [F13 t _ (by simp [xb, tp]) ez] at ht
              cases ht
          · rw [h, eb13] at ht; cases ht
        have tlr : t ≠ lr := fun z => tX (by rw [z]; simp)
        have F14 : Fr [p, b, lr] J2 (upd (upd H13 t (.tup [.str nm, .ref b])) lr (.lst (rts ++ [.ref t]))) := fun a o na e => by
          simp only [List.mem_cons, List.not_mem_nil, or_false, not_or] at na
          rw [upd_ne na.2.2]
          exact S14 _ _ (F13 a o (by simp [na.1, na.2.1]) e)
        have xsub : ∀ z ∈ [p, b, lr], z ∈ p :: d :: lr :: (bs ++ [b]) := fun z hz => by
          simp only [List.mem_cons, List.not_mem_nil, or_false] at hz
          rcases hz with rfl | rfl | rfl
          · simp
          · exact (xin _).mpr (.inr rfl)
          · simp
        have sP : Same (Pt (p :: d :: lr :: (bs ++ [b])) H J2) (Pt (p :: d :: lr :: (bs ++ [b])) H (upd (upd H13 t (.tup [.str nm, .ref b])) lr (.lst (rts ++ [.ref t])))) := F14.pt xsub
        have sQ : Same (Pt (p :: d :: lr :: (bs ++ [b])) H H13) (Pt (p :: d :: lr :: (bs ++ [b])) H (upd (upd H13 t (.tup [.str nm, .ref b])) lr (.lst (rts ++ [.ref t])))) := Same.trans (Pt.new ht) (Pt.put (by simp))
        obtain ⟨rts2, elr2, rtl2, bsl2, hat2⟩ := L'.rls
        have ers : rts2 = rts := by
          have : J2 lr = some (.lst rts) := by rw [qJ2]; exact S11 _ _ elr
          rw [this] at elr2
          injection (Option.some.inj elr2) with e
          exact e.symm
        subst ers
        have lrb : lr ∉ bs ++ [b] := by
          simp only [List.mem_append, List.mem_cons, List.not_mem_nil, or_false, not_or]
          exact ⟨L.ne.1, Ne.symm blr⟩
        have db : d ∉ bs ++ [b] := by
          simp only [List.mem_append, List.mem_cons, List.not_mem_nil, or_false, not_or]
          exact ⟨L.ne.2, Ne.symm bd⟩
        have dlr : d ≠ lr := fun z => by
          have := L.dic
          rw [z, elr] at this
          cases this
        have pXb : p ∉ d :: lr :: (bs ++ [b]) := fun m => by
          simp only [List.mem_cons, List.mem_append, List.not_mem_nil, or_false] at m pX
          rcases m with h | h | h | h
          · exact pX (.inl h)
          · exact pX (.inr (.inl h))
          · exact pX (.inr (.inr h))
          · exact bp h.symm
        have inX' : ∀ x ∈ bs ++ [b], x ∈ p :: d :: lr :: (bs ++ [b]) := fun x m => by simp only [List.mem_cons]; exact .inr (.inr (.inr m))
        refine ⟨_, _, _, bs ++ [b], rs ++ [(nm, ps)], rfl, (T14.put L.new.2.1 (fun z => pX (by rw [z]; simp))).mono (by omega), ?_, pXb, fun m => ?_, ⟨?_, sP _ _ L'.sig, ⟨rts2 ++ [.ref t], upd_same, by rw [List.length_append, List.length_append, rtl]; rfl, by rw [List.length_append, List.length_append, bsl]; rfl, fun i' y r' b' e1 e2 e3 => ?_⟩, ?_, ⟨by simp, by simp, inX'⟩, ⟨lrb, db⟩, ⟨L.new.1, L.new.2.1, fun x m => ?_⟩⟩, ?_, fun u m => ?_⟩
        · have : r ≠ lr := fun z => rX (by rw [z]; simp)
          rw [upd_ne this]
          refine S14 _ _ (F13 r _ ?_ er11)
          simp [Ne.symm br]
          exact fun z => rX (by rw [z]; simp)
        · rcases (xin r).mp m with h | h
          · exact rX h
          · exact br h.symm
        · rw [upd_ne dlr]
          exact S14 _ _ ed13
        · by_cases c : i' < rs.length
          · rw [List.getElem?_append_left (by omega)] at e1 e3
            rw [List.getElem?_append_left c] at e2
            refine (hat2 i' y r' b' e1 e2 e3).imp sP fun zs e => ?_
            have mb := List.mem_of_getElem? e3
            have n1 : b' ≠ lr := fun z => L.ne.1 (by rw [← z]; exact mb)
            have n2 : b' ≠ b := fun z => bbs (by rw [← z]; exact mb)
            have n3 : b' ≠ p := fun z => pX (by rw [← z]; simp [mb])
            exact F14 b' _ (by simp [n1, n2, n3]) e
          · have ei : i' = rs.length := by
              have := (List.getElem?_eq_some_iff.mp e2).1
              rw [List.length_append] at this
              simp only [List.length_cons, List.length_nil] at this
              omega
            subst ei
            rw [List.getElem?_append_right (by omega)] at e1 e2 e3
            rw [show rs.length - rts2.length = 0 by omega] at e1
            rw [show rs.length - rs.length = 0 by omega] at e2
            rw [show rs.length - bs.length = 0 by omega] at e3
            cases e1
            cases e2
            cases e3
            refine ⟨⟨t, rfl, .of (Pt.at tX tn (by rw [upd_ne tlr, upd_same]))⟩, ys, by rw [upd_ne blr]; exact S14 _ _ eb13, hps.imp fun _ _ h => h.same sQ⟩
        · rw [List.nodup_append]
          refine ⟨L.nd, by simp, fun x hx y hy => ?_⟩
          have : y = b := by simpa using hy
          rw [this]
          exact fun z => bbs (by rw [← z]; exact hx)
        · rcases List.mem_append.mp m with m | m
          · exact L.new.2.2 x m
          · have : x = b := by simpa using m
            rw [this]
            exact nb
        · rw [List.map_append, en, etk]
          rfl
        · rcases List.mem_append.mp m with m | m
          · exact ok u m
          · have : u = (nm, ps) := by simpa using m
            rw [this]
            refine ⟨ssub nm (List.mem_of_getElem? hnm), fun z => ?_, by dsimp only; omega, okp, hdp⟩
            dsimp only at z
            rw [z] at pl
            simp at pl
            omega
    · subst e
      rw [List.length_map, List.take_length] at en
      have rl : rs.length = ss.length := by
        have := congrArg List.length en
        simpa using this
      exact ⟨_, rfl, k H9 d ls lf lr bs sg rs (T.mono (by rw [List.length_map]; omega)) pX L ⟨hsg, ok, fun z => by rw [z] at rl; simp at rl; omega, by omega, by rw [en]; exact snd⟩⟩
end
end K1
set_option Elab.async false
set_option linter.all false
set_option maxRecDepth 100000
set_option maxHeartbeats 4000000
namespace K1
open PySem PySem.Spec PyProof.Rows L2 Kb Kc Kn
abbrev s__law_house : Stmt := top 73
theorem sc__law_house : FnScope ["_law_pot_here", "_law_lore_here", "_law_name", "_law_passes", "_law_lap"] ["_law_pot_here"] (defScope s__law_house) := ⟨rfl, rfl, rfl, by decide +kernel, rfl, by decide +kernel, by decide +kernel⟩
def LRule (K : PySem.W.Frag) (G : Hp) (r : Rule) (y : V) : Prop := ∃ (t b : Addr) (ys : List V), y = .ref t ∧ SqT K G t [.str r.1, .ref b] ∧ SqL K G b ys ∧ All2 (LPass K G) r.2 ys
/-- a drawn house -/
def HLore (K : PySem.W.Frag) (G : Hp) (L : Lore) (y : V) : Prop := ∃ (d ls lf lr : Addr) (fs rts : List V), y = .ref d ∧ G d = some (.dK (kv3 ls lf lr)) ∧ SqL K G ls (L.sg.map V.str) ∧ SqL K G lf fs ∧ All2 (LForm K G) L.fs fs ∧ SqL K G lr rts ∧ All2 (LRule K G) L.rs rts
theorem LRule.same {K : PySem.W.Frag} {H H' : Hp} {r : Rule} {y : V} (s : Same H H') (h : LRule K H r y) : LRule K H' r y := by
  obtain ⟨t, b, ys, e, q, q2, a⟩ := h
  exact ⟨t, b, ys, e, Kb.Same.seqT s q, Same.seq s q2, a.imp fun _ _ h => h.same s⟩
theorem HLore.same {K : PySem.W.Frag} {H H' : Hp} {L : Lore} {y : V} (s : Same H H') (h : HLore K H L y) : HLore K H' L y := by
  obtain ⟨d, ls, lf, lr, fs, rts, e, h1, h2, h3, h4, h5, h6⟩ := h
  exact ⟨d, ls, lf, lr, fs, rts, e, s _ _ h1, Same.seq s h2, Same.seq s h3, h4.imp fun _ _ h => h.same s, Same.seq s h5, h6.imp fun _ _ h => h.same s⟩
def spHouse (K : PySem.W.Frag) : Sp := fun vs H Q _ => ∃ (p : Addr) (n : Nat), vs = [.ref p] ∧ PotAt H p n ∧ n + 1000 ≤ 900000 ∧ ∀ H' y L, Took p n 1000 H H' → HLore K (New p H H') L y → L.Ok → Q y H'
theorem kv3_put (ls lf lr lg : Addr) : putK (kv3 ls lf lr) (Sum.inr "forms") (V.ref lg) = kv3 ls lg lr := by rfl
theorem nodup_idx {α : Type} {xs : List α} {i j : Nat} {a : α} (nd : xs.Nodup) (h1 : xs[i]? = some a) (h2 : xs[j]? = some a) : i = j := by
  obtain ⟨l1, e1⟩ := List.getElem?_eq_some_iff.mp h1
  obtain ⟨l2, e2⟩ := List.getElem?_eq_some_iff.mp h2
  have pw := List.pairwise_iff_getElem.mp nd
  rcases Nat.lt_trichotomy i j with c | c | c
  · exact absurd (e1.trans e2.symm) (pw i j l1 l2 c)
  · exact c
  · exact absurd (e2.trans e1.symm) (pw j i l2 l1 c)
theorem set_names {rs : List Rule} {i : Nat} {r r' : Rule} (h : rs[i]? = some r) (e : r'.1 = r.1) : (rs.set i r').map (·.1) = rs.map (·.1) := by
  refine List.ext_getElem? fun j => ?_
  rw [List.getElem?_map, List.getElem?_map, List.getElem?_set]
  by_cases c : i = j
  · subst c
    rw [if_pos rfl, h]
    have lt := (List.getElem?_eq_some_iff.mp h).1
    rw [if_pos lt]
    exact congrArg some e
  · rw [if_neg c]
def HouseInv (K : PySem.W.Frag) (p d ls lf lr : Addr) (bs : List Addr) (n : Nat) (sg : List Str) (rts : List V) (rl : Nat) (H : Hp) (i : Nat) (σ : L2.St) (H2 : Hp) : Prop := ∃ (v2 v3 : Option V) (rs : List Rule), σ = [some (.ref p), some (.ref d), v2, v3, none] ∧ Took p n (701 + i) H H2 ∧ LoreIn K (p :: d :: lr :: bs) d ls lf lr bs sg rs H H2 ∧ H2 lr = some (.lst rts) ∧ LrOk sg rs ∧ rs.length = rl
section
variable {P : Program} {w : World} {K : PySem.W.Frag} {mg : Str → Option Value} {base : Heap}
theorem ok_house {f f_law_take f_law_lore f_law_form : Addr} {fd fd_law_take fd_law_lore fd_law_form : FuncData} (F : Fun K "_law_house" "_law_house" s__law_house f fd) (B : Bl mg)
    (c_law_take : Cal P w K mg base 1 "_law_take" s__law_take ["_law_pot_here", "_law_upto"] spTake f_law_take fd_law_take)
    (c_law_lore : Cal P w K mg base 6 "_law_lore" s__law_lore ["_law_pot_here", "_law_signs_here", "_law_rules", "_law_passes", "_law_odds"] (spLore K) f_law_lore fd_law_lore)
    (c_law_form : Cal P w K mg base 3 "_law_form" s__law_form ["_law_pot_here", "_law_signs_here"] (spForm K) f_law_form fd_law_form) :
    FnOk P w K mg base CX0 7 f fd ["_law_pot_here"] (spHouse K) := by
  refine F.ok sc__law_house (fun vs H Q E h => ?_) (fun cdv A outer s H vs Q E hr h => ?_)
  · obtain ⟨p, n, rfl, _⟩ := h
    rfl
  · obtain ⟨p, n, rfl, hP, hn, k⟩ := h
    refine ⟨_, (pss_cons (ps_set (i := 1) sc__law_house.nd rfl (Or.inr rfl) (pe_call c_law_lore.G (hr.mono (by decide)) (by rfl) c_law_lore.g c_law_lore.F.kp c_law_lore.b .nil pass0 (pa_cons (pv 0) (pa_cons (pe_op op_add pe_int (pe_call c_law_take.G (hr.mono (by decide)) (by rfl) c_law_take.g c_law_take.F.kp c_law_take.b .nil pass0 (pa_cons (pv 0) (pa_cons pe_int pa_nil)))) (pa_cons pe_int (pa_cons pe_int (pa_cons pe_int pa_nil)))))))
      (pss_cons (ps_for PassesOwn.never rfl (pi_list (pe_dget (hu_of hr) (pv 1) pe_str (fun _ _ => rfl))) (pg_tup rfl (pgs_cons (pg_name (i := 2) sc__law_house.nd rfl (Or.inl rfl)) (pgs_cons (pg_name (i := 3) sc__law_house.nd rfl (Or.inl rfl)) pgs_nil)))
        (pss_one (ps_if (PW.pt (pw_and (pt_cmpR op_lt (pe_callB call_len_seq (by rfl) B.len (by decide +kernel) (pa_cons (pv 3) pa_nil)) pe_int (nomark _)) (pw_and1 (pt_cmpR op_eq (pe_call c_law_take.G (hr.mono (by decide)) (by rfl) c_law_take.g c_law_take.F.kp c_law_take.b .nil pass0 (pa_cons (pv 0) (pa_cons pe_int pa_nil))) pe_int (nomark _)))))
        (pss_one (ps_expr (pe_bm PySem.F.plainAttrs_list PySem.F.slot_list_append PySem.F.type_list_append mt_append (pv 3) (pa_cons (pe_tup (pa_cons pe_str (pa_cons pe_non (pa_cons pe_non pa_nil)))) pa_nil))))
        pss_nil)))
      (pss_cons (ps_dput (hu_of hr) (pv 1) pe_str (pe_lc (own := [("_law_lap", 4)]) (g := gName 4) (tt := tYes) rfl sc__law_house.nd (pi_range1 rfl B.range (pa_cons (pe_call c_law_take.G (hr.mono (by decide)) (by rfl) c_law_take.g c_law_take.F.kp c_law_take.b .nil pass0 (pa_cons (pv 0) (pa_cons pe_int pa_nil))) pa_nil)) (blkOk_by (own := [("_law_lap", 4)]) (N := ["_law_pot_here", "_law_lore_here", "_law_name", "_law_passes", "_law_lap"]) (sc := defScope s__law_house) (by decide +kernel)) (fun _ _ _ _ _ => (pg_name (i := 4) sc__law_house.nd rfl (Or.inl rfl))) (fun _ _ _ _ _ => pts_nil) (fun _ _ _ _ _ => (pe_call c_law_form.G (hr.mono (by decide)) (by rfl) c_law_form.g c_law_form.F.kp c_law_form.b .nil pass0 (pa_cons (pv 0) (pa_cons (pe_dget (hu_of hr) (pv 1) pe_str (fun _ _ => rfl)) pa_nil))))) rfl)
      (pss_one (ps_ret (pv 1)))))), ?_⟩
    refine ⟨_, rfl, _, rfl, p, 6, n, rfl, hP, by omega, by decide, by decide, fun H1 z z0 z1 T1 => ⟨1, z, rfl, rfl, ?_⟩⟩
    obtain ⟨m, hm⟩ : ∃ c : Nat, (1 : Int) + z = (c : Int) := ⟨(1 + z).toNat, by omega⟩
    refine ⟨p, m, _, (by show [V.ref p, V.int (1 + z), .int 4, .int 3, .int 2] = _; rw [hm]; rfl), T1.1, by omega, by omega, by omega, fun H2 d ls lf lr bs sg rs T2 pX L0 lok => ?_⟩
    have x0 : ∀ b, b ≠ p → H1 b = none → H b = none := fun b nb e => T1.free e nb
    have T2' := T1.go T2
    have sN : Same (Pt (p :: d :: lr :: bs) H1 H2) (Pt (p :: d :: lr :: bs) H H2) := fun b o e => by
      obtain ⟨h1, h2, h3⟩ := Pt.inv e
      exact Pt.at h1 (x0 b (fun z => h1 (by rw [z]; simp)) h2) h3
    have pX' : ∀ x ∈ d :: lr :: bs, x ≠ p := fun x m z => pX (by rw [← z]; exact m)
    have L : LoreIn K (p :: d :: lr :: bs) d ls lf lr bs sg rs H H2 := by
      obtain ⟨h1, h2, ⟨rts, e1, e2, e3, e4⟩, h4, h5, h6, h7, h7', h7''⟩ := L0
      exact ⟨h1, sN _ _ h2, ⟨rts, e1, e2, e3, fun i y r b a1 a2 a3 => (e4 i y r b a1 a2 a3).imp sN fun ys e => e⟩, h4, h5, h6, x0 _ (pX' _ (by simp)) h7, x0 _ (pX' _ (by simp)) h7', fun b m => x0 _ (pX' _ (by simp [m])) (h7'' b m)⟩
    obtain ⟨rts, elr, rtl, bsl, _⟩ := L.rls
    have dp : d ≠ p := pX' d (by simp)
    have lrp : lr ≠ p := pX' lr (by simp)
    refine ⟨_, rfl, d, .ref lr, rfl, .inl ⟨_, Sum.inr "rules", .inl L.dic, rfl, (kv3_rules ls lf lr).symm⟩, lr, rfl, ⟨_, .of elr⟩, for_it (walk_list (xs := rts)) (HouseInv K p d ls lf lr bs n sg rts rs.length H) ⟨none, none, rs, rfl, T2'.mono (by omega), L, elr, lok, rfl⟩ (fun i σ H3 _ ⟨_, _, _, _, _, _, e, _⟩ => .of e) (fun i x σ H4 H3 hi ⟨v2, v3, rs3, e, T3, L3, elr3, lok3, rl3⟩ y => ?_) fun σ H3 ⟨v2, v3, rs3, e, T3, L3, elr3, lok3, rl3⟩ => ?_⟩
    · subst e
      obtain ⟨rfl, hx⟩ := y
      obtain ⟨r, hr3⟩ : ∃ r, rs3[i]? = some r := ⟨_, List.getElem?_eq_getElem (by omega)⟩
      obtain ⟨b, hb⟩ : ∃ b, bs[i]? = some b := ⟨_, List.getElem?_eq_getElem (by omega)⟩
      obtain ⟨rts', elr', _, _, hat⟩ := L3.rls
      have : rts' = rts := by
        rw [elr3] at elr'
        injection (Option.some.inj elr') with e
        exact e.symm
      subst this
      obtain ⟨⟨t, rfl, hq⟩, ys, eb, hps⟩ := hat i x r b hx hr3 hb
      have mb := List.mem_of_getElem? hb
      have bX : b ∈ p :: d :: lr :: bs := by simp [mb]
      have bp : b ≠ p := pX' b (by simp [mb])
      have nb : H b = none := L3.new.2.2 b mb
      have okr : RuleOk sg r := lok3.2.1 r (List.mem_of_getElem? hr3)
      refine ⟨t, _, rfl, Kb.Same.seqT Pt.sub hq, rfl, _, _, rfl, _, _, rfl, rfl, ?_⟩
      have rlen : i < 4 := by
        have := lok.2.2.2.1
        omega
      have keep : ∀ (H5 : Hp) (e : Nat), Took p n e H H5 → e ≤ 701 + (i + 1) → Fr [p] H3 H5 → HouseInv K p d ls lf lr bs n sg rts' rs.length H (i + 1) [some (.ref p), some (.ref d), some (.str r.1), some (.ref b), none] H5 := fun H5 e T5 he F5 => by
        have : lr ∉ [p] := by simp [lrp]
        exact ⟨_, _, rs3, rfl, T5.mono he, L3.fr F5 (by simp) (by simp [dp]) this (fun x m => by simp; exact pX' x (by simp [m])), F5 _ _ this elr3, lok3, rl3⟩
      refine ⟨_, rfl, b, _, rfl, .inl (.of eb), _, _, rfl, rfl, _, rfl, ite2 (fun c => ?_) (fun c => ?_)⟩
      · have c' := of_decide_eq_true c
        refine ⟨_, rfl, p, 4, _, rfl, T3.1, by omega, by decide, by decide, fun H5 z z0 z1 T5 => ⟨rfl, _, rfl, ite2 (fun c2 => ?_) (fun c2 => ?_)⟩⟩
        · have T5' := T3.go T5
          have F5 : Fr [p] H3 H5 := Fr.ext T5.2 (by simp)
          have eb5 := F5 b _ (by simp [bp]) eb
          refine ⟨_, rfl, .inl ⟨rfl, _, .of eb5⟩, (by show 3 ≤ sizeLine; decide), fun u hu => ?_⟩
          have S6 := Kb.same_upd (o := .tup [.str "length", .non, .non]) hu
          have T6 := T5'.new (o := .tup [.str "length", .non, .non]) hu
          have up : u ≠ p := T5'.1.ne hu
          have un : H u = none := T5'.free hu up
          have ysl : ys.length < 3 := by omega
          refine ⟨b, ys, _, rfl, rfl, S6 _ _ eb5, Nat.lt_of_lt_of_le ysl (by decide), ?_⟩
          have F6 : Fr [p, b] H3 (upd (upd H5 u (.tup [.str "length", .non, .non])) b (.lst (ys ++ [.ref u]))) := fun a o na e => by
            simp only [List.mem_cons, List.not_mem_nil, or_false, not_or] at na
            rw [upd_ne na.2]
            exact S6 _ _ (F5 a o (by simp [na.1]) e)
          have xs2 : ∀ z ∈ [p, b], z ∈ p :: d :: lr :: bs := fun z hz => by
            simp only [List.mem_cons, List.not_mem_nil, or_false] at hz
            rcases hz with rfl | rfl
            · simp
            · exact bX
          have sP : Same (Pt (p :: d :: lr :: bs) H H3) (Pt (p :: d :: lr :: bs) H (upd (upd H5 u (.tup [.str "length", .non, .non])) b (.lst (ys ++ [.ref u])))) := F6.pt xs2
          have db : d ≠ b := fun z => L3.ne.2 (by rw [z]; exact mb)
          have lrb : lr ≠ b := fun z => L3.ne.1 (by rw [z]; exact mb)
          have uX : u ∉ p :: d :: lr :: bs := fun m => by
            simp only [List.mem_cons] at m
            rcases m with h | h | h | h
            · exact up h
            · rw [h, F5 d _ (by simp [dp]) L3.dic] at hu; cases hu
            · rw [h, F5 lr _ (by simp [lrp]) elr3] at hu; cases hu
            · obtain ⟨zs, ez⟩ := L3.live u h
              rw [F5 u _ (by simp [up]) ez] at hu
              cases hu
          have ub : u ≠ b := fun z => uX (by rw [z]; exact bX)
          have rl3' : r.2.length < 3 := by rw [← hps.1]; exact ysl
          have e6 : (rs3.set i (r.1, r.2 ++ [.length])).map (·.1) = rs3.map (·.1) := set_names hr3 rfl
          refine ⟨_, _, rs3.set i (r.1, r.2 ++ [.length]), rfl, (T6.put nb bp).mono (by omega), ⟨F6 _ _ (by simp [dp, db]) L3.dic, sP _ _ L3.sig, ⟨rts', F6 _ _ (by simp [lrp, lrb]) elr3, by rw [List.length_set]; omega, by rw [List.length_set]; omega, fun i' y' r' b' e1 e2 e3 => ?_⟩, L3.nd, L3.inX, L3.ne, L3.new⟩, F6 _ _ (by simp [lrp, lrb]) elr3, ⟨lok3.1, fun r' m => ?_, fun z => ?_, by rw [List.length_set]; exact lok3.2.2.2.1, by rw [e6]; exact lok3.2.2.2.2⟩, by rw [List.length_set]; exact rl3⟩
          · rw [List.getElem?_set] at e2
            by_cases c3 : i = i'
            · subst c3
              rw [if_pos rfl, if_pos (List.getElem?_eq_some_iff.mp hr3).1] at e2
              rw [hx] at e1
              rw [hb] at e3
              cases e1
              cases e2
              cases e3
              refine ⟨⟨t, rfl, Kb.Same.seqT sP hq⟩, ys ++ [.ref u], upd_same, All2.snoc (hps.imp fun _ _ h => h.same sP) ⟨u, rfl, .of (Pt.at uX un (by rw [upd_ne ub, upd_same]))⟩⟩
            · rw [if_neg c3] at e2
              refine (hat i' y' r' b' e1 e2 e3).imp sP fun zs e => ?_
              have n2 : b' ≠ b := fun z => c3 (by
                rw [z] at e3
                exact nodup_idx L3.nd hb e3)
              exact F6 b' _ (by simp [n2, pX' b' (by simp [List.mem_of_getElem? e3])]) e
          · rcases List.mem_or_eq_of_mem_set m with m | m
            · exact lok3.2.1 r' m
            · rw [m]
              obtain ⟨o1, o2, o3, o4, o5⟩ := okr
              refine ⟨o1, by simp, by simp; omega, fun q hq => ?_, fun q hq => ?_⟩
              · rcases List.mem_append.mp hq with h | h
                · exact o4 q h
                · have : q = .length := by simpa using h
                  rw [this]
                  trivial
              · cases e : r.2 with
                | nil => exact absurd e o2
                | cons p0 r0 =>
                  refine o5 q ?_
                  rw [e] at hq ⊢
                  simpa using hq
          · have := congrArg List.length z
            rw [List.length_set] at this
            simp at this
            exact lok3.2.2.1 this
        · exact keep H5 _ (T3.go T5) (by omega) (Fr.ext T5.2 (by simp))
      · exact keep H3 _ T3 (by omega) Fr.refl
    · subst e
      have T3' := T3.mono (show 701 + rts.length ≤ 720 by
        have := lok.2.2.2.1
        omega)
      refine ⟨_, rfl, p, 3, _, rfl, T3'.1, by omega, by decide, by decide, fun H5 z z0 z1 T5 => ⟨z, rfl, by show -(2 ^ 62) ≤ z; omega, by show z < 2 ^ 62; omega, fun D hD => ?_⟩⟩
      have T5' := T3'.go T5
      have F5 : Fr [p] H3 H5 := Fr.ext T5.2 (by simp)
      have Dp : D ≠ p := T5'.1.ne hD
      have nD : H D = none := T5'.free hD Dp
      have L5 : LoreIn K (p :: d :: lr :: bs) d ls lf lr bs sg rs3 H H5 := L3.fr F5 (by simp) (by simp [dp]) (by simp [lrp]) (fun x m => by simp; exact pX' x (by simp [m]))
      have DX : D ∉ p :: d :: lr :: bs := fun m => by
        simp only [List.mem_cons] at m
        rcases m with h | h | h | h
        · exact Dp h
        · rw [h, L5.dic] at hD; cases hD
        · obtain ⟨_, e, _⟩ := L5.rls
          rw [h, e] at hD; cases hD
        · obtain ⟨zs, ez⟩ := L5.live D h
          rw [ez] at hD
          cases hD
      have S6 := Kb.same_upd (o := .lst []) hD
      have T6 := T5'.new (o := .lst []) hD
      have L6 : LoreIn K (D :: p :: d :: lr :: bs) d ls lf lr bs sg rs3 H (upd H5 D (.lst [])) := (L5.more (fun x m => .tail _ m) fun x m => (List.mem_cons.mp m).elim (fun z => .inr (by rw [z]; exact hD)) .inl).fr (Fr.same (Y := []) S6) (by simp) (by simp) (by simp) (by simp)
      obtain ⟨m2, hm2⟩ : ∃ c : Nat, z.toNat = c := ⟨_, rfl⟩
      show ∃ W : Nat → Nat → Hp → Prop, _
      rw [hm2]
      refine lc_range (fun i H7 => ∃ (fs : List (List Item)) (fl : List V), Took p n (721 + 40 * i) H H7 ∧ Fr [p, D] (upd H5 D (.lst [])) H7 ∧ H7 D = some (.lst fl) ∧ All2 (LForm K (Pt (D :: p :: d :: lr :: bs) H H7)) fs fl ∧ fs.length = i ∧ ∀ f ∈ fs, FormOk sg f) ⟨[], [], T6, Fr.refl, upd_same, .nil, rfl, by simp⟩ (fun i H7 hi ⟨fs, fl, T7, F7, eD, hfs, fl_, okf⟩ => ?_) fun H7 ⟨fs, fl, T7, F7, eD, hfs, fl_, okf⟩ => ?_
      · have Dd : D ≠ d := fun z => DX (by rw [z]; simp)
        have ed7 := F7 d _ (by simp [dp, Ne.symm Dd]) L6.dic
        obtain ⟨lx, l0, lh⟩ := Pt.inv L6.sig
        have lx1 : ls ≠ p ∧ ls ≠ D := ⟨fun z => lx (by rw [z]; simp), fun z => lx (by rw [z]; simp)⟩
        have ls7 := F7 ls _ (by simp [lx1.1, lx1.2]) lh
        refine ⟨rfl, _, rfl, _, rfl, d, .ref ls, rfl, .inl ⟨_, Sum.inr "signs", .inl ed7, rfl, (kv3_signs ls lf lr).symm⟩, p, ls, sg, _, rfl, T7.1, by omega, .of (rest_at lx1.1 ls7), lok.1, fun H8 y f T8 hf okf8 => ?_⟩
        have eD8 := T8.2.at Dp eD
        have F8 : Fr [p, D] H7 H8 := Fr.ext T8.2 (by simp)
        have mv : Same (Pt (D :: p :: d :: lr :: bs) H H7) (Pt (D :: p :: d :: lr :: bs) H (upd H8 D (.lst (fl ++ [y])))) := (F8.trans (Fr.put (by simp))).pt (fun z hz => by
          simp only [List.mem_cons, List.not_mem_nil, or_false] at hz
          rcases hz with rfl | rfl <;> simp)
        have elr7 : ∃ o, H7 lr = some o := by
          obtain ⟨rts', e, _⟩ := L6.rls
          have : lr ≠ D := fun z => DX (by rw [← z]; simp)
          exact ⟨_, F7 lr _ (by simp [lrp, this]) e⟩
        have Xl : ∀ x ∈ D :: p :: d :: lr :: bs, x = p ∨ H7 x ≠ none := fun x m => by
          simp only [List.mem_cons] at m
          rcases m with h | h | h | h | h
          · rw [h, eD]; simp
          · exact .inl h
          · rw [h, ed7]; simp
          · obtain ⟨o, e⟩ := elr7
            rw [h, e]; simp
          · obtain ⟨zs, ez⟩ := L6.live x h
            have xD : x ≠ D := fun z => DX (by rw [← z]; simp [h])
            rw [F7 x _ (by simp [xD, pX' x (by simp [h])]) ez]
            simp
        have mvy : Same (New p H7 H8) (Pt (D :: p :: d :: lr :: bs) H (upd H8 D (.lst (fl ++ [y])))) := Same.trans (Pt.callee Xl fun x nx hx => T7.free hx nx) (Pt.put (by simp))
        refine ⟨fl, eD8, by rw [hfs.1, fl_]; exact Nat.lt_of_le_of_lt (show _ ≤ 3 by omega) (by decide), fs ++ [f], fl ++ [y], ((T7.go T8).put nD Dp).mono (by omega), F7.trans (F8.trans (Fr.put (by simp))), upd_same, All2.snoc (hfs.imp fun _ _ h => h.same mv) (hf.same mvy), by rw [List.length_append, fl_]; rfl, fun u m => ?_⟩
        rcases List.mem_append.mp m with m | m
        · exact okf u m
        · have : u = f := by simpa using m
          rw [this]
          exact okf8
      · have Dd : D ≠ d := fun z => DX (by rw [z]; simp)
        have ed7 := F7 d _ (by simp [dp, Ne.symm Dd]) L6.dic
        refine ⟨_, rfl, d, _, rfl, DPut.k (k := Sum.inr "forms") ed7 (Nat.lt_of_le_of_lt (show (kv3 ls lf lr).length ≤ 3 from Nat.le_refl _) (by decide)), ?_⟩
        rw [kv3_put]
        have L7 : LoreIn K (D :: p :: d :: lr :: bs) d ls lf lr bs sg rs3 H H7 := L6.fr F7 (fun z hz => by
          simp only [List.mem_cons, List.not_mem_nil, or_false] at hz
          rcases hz with rfl | rfl <;> simp) (by simp [dp, Ne.symm Dd]) (by
            have : lr ≠ D := fun z => DX (by rw [← z]; simp)
            simp [lrp, this]) (fun x m => by
            have : x ≠ D := fun z => DX (by rw [← z]; simp [m])
            simp [this, pX' x (by simp [m])])
        have s8 : Same (Pt (D :: p :: d :: lr :: bs) H H7) (New p H (upd H7 d (.dK (kv3 ls D lr)))) := Same.trans (Pt.put (by simp)) (Pt.toNew (by simp))
        obtain ⟨rts', elr', rtl', bsl', hat⟩ := L7.rls
        have lrd : lr ≠ d := fun z => by rw [z, ed7] at elr'; cases elr'
        refine ⟨_, rfl, k _ _ ⟨sg, fs, rs3⟩ ((T7.put L7.new.1 dp).mono (by omega)) ⟨d, ls, D, lr, fl, rts', rfl, new_at L7.new.1 (rest_at dp upd_same), .of (s8 _ _ L7.sig), .of (new_at nD (rest_at Dp (by rw [upd_ne Dd]; exact eD))), hfs.imp fun _ _ h => h.same s8, .of (new_at L7.new.2.1 (rest_at lrp (by rw [upd_ne lrd]; exact elr'))), rtl', fun i y r e1 e2 => ?_⟩ ⟨lok3.1, by show fs.length ≤ 2; omega, okf, lok3.2.1, lok3.2.2.1, lok3.2.2.2.1, lok3.2.2.2.2⟩⟩
        obtain ⟨b, hb⟩ : ∃ b, bs[i]? = some b := ⟨_, List.getElem?_eq_getElem (by
          have := (List.getElem?_eq_some_iff.mp e2).1
          show i < bs.length
          rw [bsl']
          exact this)⟩
        obtain ⟨⟨t, rfl, hq⟩, ys, eb, hps⟩ := hat i y r b e1 e2 hb
        have mb := List.mem_of_getElem? hb
        have bd : b ≠ d := fun z => L7.ne.2 (by rw [← z]; exact mb)
        exact ⟨t, b, ys, rfl, Kb.Same.seqT s8 hq, .of (new_at (L7.new.2.2 b mb) (rest_at (pX' b (by simp [mb])) (by rw [upd_ne bd]; exact eb))), hps.imp fun _ _ h => h.same s8⟩
end
end K1
set_option Elab.async false
set_option linter.all false
set_option maxRecDepth 100000
set_option maxHeartbeats 4000000
namespace K1
open PySem PySem.Spec PyProof.Rows L2 Kb Kc Kn
abbrev s__law_pass_line : Stmt := top 69
theorem sc__law_pass_line : FnScope ["_law_row", "_law_word", "_law_classes_here", "_law_facts_here", "_law_one", "_law_fact"] ["_law_row"] (defScope s__law_pass_line) := ⟨rfl, rfl, rfl, by decide +kernel, rfl, by decide +kernel, by decide +kernel⟩
abbrev s__law_text : Stmt := top 70
theorem sc__law_text : FnScope ["_law_lore_here", "_law_lines", "_law_name", "_law_found", "_law_form_here", "_law_row", "_law_some_here", "_law_mark"] ["_law_lore_here"] (defScope s__law_text) := ⟨rfl, rfl, rfl, by decide +kernel, rfl, by decide +kernel, by decide +kernel⟩
def rJoin (K : PySem.W.Frag) : V → List V → Hp → VK → Prop := fun x xs H Q => ∃ a p, ∃ ys : List Str, x = V.str a ∧ xs = [.ref p] ∧ (SqL K H p (ys.map V.str) ∨ SqT K H p (ys.map V.str)) ∧ (ys.map fun x => x.length).sum + ys.length * a.length ≤ 16777216 ∧ Q (.str (Txt.join a ys)) H
theorem pe_joinK {X : Cx} {K : PySem.W.Frag} {o e : Expr} {to te : TE} {apos pos : Pos} (h : X.K = K) (ho : PE X o to) (he : PE X e te) (a1 : starEach [e] X.env = [(false, eval e X.env)] := by rfl)
    (a2 : attributeBase o "join" X.env (eval o X.env) = eval o X.env := by rfl) (a3 : (apos.endLine == pos.line) = true := by rfl) : PE X (.Call (.Attribute o "join" apos) [e] [] pos) (tM1 (rJoin K) to te) := by
  subst h
  exact pe_join ho he a1 a2 a3
theorem call_listBK {X : Cx} {K : PySem.W.Frag} (h : X.K = K) : CallR X (.type "list") (fun xs H Q => ∃ p ys, xs = [.ref p] ∧ SqT K H p ys ∧ ∀ l, H l = none → l ≠ sysModules → Q (.ref l) (upd H l (.lst ys))) := h ▸ call_listB
def spPassLine (K : PySem.W.Frag) : Sp := fun vs H Q _ => ∃ (y : V) (ps : Ps) (sg : List Str), vs = [y] ∧ LPass K H ps y ∧ SgOk sg ∧ ps.ok sg ∧ ∀ H', Same H H' → Q (.str (passLine ps)) H'
theorem join_pre (a x : Str) : ∀ t : List Str, (" " : Str).join ((a ++ x) :: t) = a ++ (" " : Str).join (x :: t)
  | [] => rfl
  | y :: r => by
    have e1 : (" " : Str).join ((a ++ x) :: y :: r) = (a ++ x) ++ (" " : Str) ++ (" " : Str).join (y :: r) := rfl
    have e2 : (" " : Str).join (x :: y :: r) = x ++ (" " : Str) ++ (" " : Str).join (y :: r) := rfl
    rw [e1, e2]
    apply str_ext
    show ((((a.cps ++ x.cps) ++ _) ++ _).toList) = (a.cps ++ ((x.cps ++ _) ++ _)).toList
    simp
theorem sum_leA {b : Nat} : ∀ {l : List Str}, (∀ s ∈ l, s.length ≤ b) → (l.map fun x => x.length).sum ≤ l.length * b
  | [], _ => Nat.zero_le _
  | x :: t, h => by
    have h1 := h x (.head _)
    have h2 := sum_leA fun s m => h s (.tail _ m)
    rw [List.map_cons, List.sum_cons, List.length_cons, Nat.add_mul]
    omega
theorem join3 (a b c : Str) : Txt.join "" [a, b, c] = a ++ b ++ c := by
  rw [txt_join, join_cat]
  apply str_ext
  unfold cat
  show _ = ((a.cps ++ b.cps) ++ c.cps).toList
  simp
theorem all2_at {α : Type} {R : α → V → Prop} {xs : List α} {ys : List V} {i : Nat} {y : V} (h : All2 R xs ys) (e : ys[i]? = some y) : ∃ x, xs[i]? = some x ∧ R x y := by
  obtain ⟨x, hx⟩ : ∃ x, xs[i]? = some x := ⟨_, List.getElem?_eq_getElem (by
    have := (List.getElem?_eq_some_iff.mp e).1
    rw [← h.1]
    exact this)⟩
  exact ⟨x, hx, h.2 i y x e hx⟩
theorem str_app_len (a b : Str) : (a ++ b).length = a.length + b.length := by
  show (a.cps ++ b.cps).size = a.cps.size + b.cps.size
  simp
def spText (K : PySem.W.Frag) : Sp := fun vs H Q _ => ∃ (y : V) (L : Lore), vs = [y] ∧ HLore K H L y ∧ L.Ok ∧ ∀ H', Same H H' → Q (.str L.text) H'
theorem join_lead {a b : Str} (e : b = a ++ " ") : ∀ {l : List Str}, l ≠ [] → b ++ (" " : Str).join l = (" " : Str).join (a :: l)
  | [], h => absurd rfl h
  | x :: r, _ => by
    have e2 : (" " : Str).join (a :: x :: r) = a ++ (" " : Str) ++ (" " : Str).join (x :: r) := rfl
    rw [e2, e]
section
variable {P : Program} {w : World} {K : PySem.W.Frag} {mg : Str → Option Value} {base : Heap}
theorem ok_pass_line {f : Addr} {fd : FuncData} (F : Fun K "_law_pass_line" "_law_pass_line" s__law_pass_line f fd) (B : Bl mg) : FnOk P w K mg base CX0 1 f fd ["_law_row"] (spPassLine K) := by
  refine F.ok sc__law_pass_line (fun vs H Q E h => ?_) (fun cdv A outer s H vs Q E hr h => ?_)
  · obtain ⟨y, ps, sg, rfl, _⟩ := h
    rfl
  · obtain ⟨y, ps, sg, rfl, hp, hsg, ok, k⟩ := h
    refine ⟨_, (pss_cons (ps_asg (pv 0) (pg_tup rfl (pgs_cons (pg_name (i := 1) sc__law_pass_line.nd rfl (Or.inl rfl)) (pgs_cons (pg_name (i := 2) sc__law_pass_line.nd rfl (Or.inl rfl)) (pgs_cons (pg_name (i := 3) sc__law_pass_line.nd rfl (Or.inl rfl)) pgs_nil)))))
      (pss_cons (ps_if (pt_cmp (pc_notN (pv 3)) rfl)
        (pss_one (ps_ret (pe_join pe_str (pe_op op_cat (pe_lstB (pa_cons (pe_op op_add_str pe_str (pv 1)) (pa_cons pe_str pa_nil))) (pe_lc (own := [("_law_fact", 5)]) (g := gName 5) (tt := tYes) rfl sc__law_pass_line.nd (pi_list (pv 3)) (blkOk_by (own := [("_law_fact", 5)]) (N := ["_law_row", "_law_word", "_law_classes_here", "_law_facts_here", "_law_one", "_law_fact"]) (sc := defScope s__law_pass_line) (by decide +kernel)) (fun _ _ _ _ _ => (pg_name (i := 5) sc__law_pass_line.nd rfl (Or.inl rfl))) (fun _ _ _ _ _ => pts_nil) (fun _ _ _ _ _ => (pe_joinK (K := K) rfl pe_str (pe_callTy (call_listBK (K := K) rfl) (by rfl) B.list (by decide +kernel) (pa_cons (pv 5) pa_nil)))))))))
        pss_nil)
      (pss_one (ps_ret (pe_join pe_str (pe_op op_cat (pe_lstB (pa_cons (pe_op op_add_str pe_str (pv 1)) pa_nil)) (pe_lc (own := [("_law_one", 4)]) (g := gName 4) (tt := tYes) rfl sc__law_pass_line.nd (pi_list (pe_ifExp (pt_cmp (pc_notN (pv 2)) rfl) (pv 2) (pe_lstB pa_nil))) (blkOk_by (own := [("_law_one", 4)]) (N := ["_law_row", "_law_word", "_law_classes_here", "_law_facts_here", "_law_one", "_law_fact"]) (sc := defScope s__law_pass_line) (by decide +kernel)) (fun _ _ _ _ _ => (pg_name (i := 4) sc__law_pass_line.nd rfl (Or.inl rfl))) (fun _ _ _ _ _ => pts_nil) (fun _ _ _ _ _ => (pe_joinK (K := K) rfl pe_str (pv 4)))))))))), ?_⟩
    obtain ⟨hw, hwl, hwn⟩ := ps_words hsg ok
    have fin : ∀ {c : Addr} {G : Hp} (w : Str) (ws : List Str), ps.words = w :: ws → Same H G → G c = some (.lst ((("  " ++ w) :: ws).map V.str)) → rJoin K (V.str " ") [.ref c] G fun x H' => Q x H' := fun {c G} w ws e s eg => by
      refine ⟨_, c, ("  " ++ w) :: ws, rfl, rfl, .inl (.of eg), ?_, ?_⟩
      · have h1 : ∀ x ∈ w :: ws, x.length ≤ 16 := fun x m => (hw x (by rw [e]; exact m)).2.2.2
        have h2 := sum_leA (b := 16) fun x m => h1 x (.tail _ m)
        have h3 := h1 w (.head _)
        have h4 : ws.length + 1 ≤ 14 := by
          rw [e] at hwl
          exact hwl
        rw [List.map_cons, List.sum_cons, pre_len]
        show w.length + 2 + _ + (ws.length + 1) * 1 ≤ _
        omega
      · have e1 : Txt.join " " (("  " ++ w) :: ws) = passLine ps := by
          rw [txt_join, join_pre]
          unfold passLine
          rw [e]
        rw [e1]
        exact k G s
    cases ps with
    | known wd xs =>
      obtain ⟨t, z, rfl, q, l, ys, rfl, ql, hx⟩ := hp
      have xl : xs.length ≤ 12 := ok.2.2.1
      have wl : wd.length ≤ 16 := (hw wd (.head _)).2.2.2
      refine ⟨_, rfl, t, _, rfl, q, rfl, _, _, rfl, _, _, rfl, _, _, rfl, rfl, _, rfl, _, rfl, ite2 (fun _ => ?_) (fun c => absurd rfl c)⟩
      refine ⟨⟨_, rfl⟩, _, rfl, _, wd, rfl, rfl, Nat.le_trans (show 2 + wd.length ≤ 18 by omega) (by decide), (by show 2 ≤ sizeLine; decide), fun t1 ht1 _ => ?_⟩
      have S1 := Kb.same_upd (o := .lst [.str ("  " ++ wd), .str "known"]) ht1
      refine ⟨_, rfl, l, rfl, ⟨_, Same.seq S1 ql⟩, fun D hD => lc_mapL (fun _ i y => ∃ x, xs[i]? = some x ∧ y = V.str (factW x)) (fun _ _ _ _ _ h => h) (Same.refl _) hD (Same.seq S1 ql) (by rw [hx.1]; exact Nat.lt_of_le_of_lt xl (by decide)) (fun j x H4 G4 Q4 hj s24 g24 g4 k4 => ?_) (gname_mono 5) fun H5 zs s25 hz hl rl => ?_⟩
      · obtain ⟨xf, hxf, u, rfl, hu⟩ := all2_at hx hj
        refine ⟨rfl, ⟨_, rfl⟩, _, rfl, u, _, rfl, Kb.Same.seqT (Same.trans S1 s24) hu, fun l2 hl2 _ => ⟨_, l2, [xf.lo, xf.rel, xf.hi], rfl, rfl, .inl (.of upd_same), ?_, ?_⟩⟩
        · obtain ⟨f1, f2, _, f4⟩ := ok.2.1 xf (List.mem_of_getElem? hxf)
          have a1 := sg_len _ (hsg.2.2.2 _ f1)
          have a2 := sg_len _ (hsg.2.2.2 _ f2)
          have a3 := fc_len _ f4
          show xf.lo.length + (xf.rel.length + (xf.hi.length + 0)) + 3 * 0 ≤ _
          omega
        · rw [join3]
          exact k4 _ _ (Kb.same_upd hl2) ⟨xf, hxf, rfl⟩
      · have e := rel_map (f := fun x => V.str (factW x)) (by rw [hl, hx.1]) rl
        subst e
        refine ⟨t1, D, _, _, rfl, rfl, s25 _ _ upd_same, hz, ?_, fun c hc => ?_⟩
        · rw [List.length_map]
          exact Nat.le_trans (show 2 + xs.length ≤ 14 by omega) (by decide)
        · exact fin wd ("known" :: xs.map factW) rfl (Same.trans S1 (Same.trans s25 (Kb.same_upd hc))) (by rw [upd_same]; simp)
    | length =>
      obtain ⟨t, rfl, q⟩ := hp
      refine ⟨_, rfl, t, _, rfl, q, rfl, _, _, rfl, _, _, rfl, _, _, rfl, rfl, _, rfl, _, rfl, ite2 (fun c => nomatch c) (fun _ => ?_)⟩
      refine ⟨⟨_, rfl⟩, _, rfl, _, "length", rfl, rfl, by decide, (by show 1 ≤ sizeLine; decide), fun t1 ht1 _ => ?_⟩
      have S1 := Kb.same_upd (o := .lst [.str ("  " ++ "length")]) ht1
      refine ⟨_, rfl, _, rfl, ite2 (fun c => nomatch c) (fun _ => ⟨(by show 0 ≤ sizeLine; decide), fun t2 ht2 _ => ⟨t2, rfl, ⟨_, .of upd_same⟩, fun D hD => lc_mapL (fun _ i y => False) (fun _ _ _ _ _ h => h) (Same.refl _) hD (.of upd_same) (by show 0 < sizeLine; decide) (fun j x H4 G4 Q4 hj s24 g24 g4 k4 => ?_) (gname_mono 4) fun H5 zs s25 hz hl rl => ?_⟩⟩)⟩
      · simp at hj
      · have : zs = [] := List.length_eq_zero_iff.mp hl
        subst this
        refine ⟨t1, D, _, _, rfl, rfl, s25 _ _ (Kb.same_upd ht2 _ _ upd_same), hz, by show 1 + 0 ≤ sizeLine; decide, fun c hc => ?_⟩
        exact fin "length" [] rfl (Same.trans S1 (Same.trans (Kb.same_upd ht2) (Same.trans s25 (Kb.same_upd hc)))) (by rw [upd_same]; rfl)
    | cls wd rows =>
      obtain ⟨t, z, rfl, q, l, ys, rfl, ql, hx⟩ := hp
      have wl : wd.length ≤ 16 := (hw wd (.head _)).2.2.2
      have r13 : rows.length ≤ 13 := by
        have : (wd :: rows.map rowW).length ≤ 14 := hwl
        simp at this
        omega
      refine ⟨_, rfl, t, _, rfl, q, rfl, _, _, rfl, _, _, rfl, _, _, rfl, rfl, _, rfl, _, rfl, ite2 (fun c => nomatch c) (fun _ => ?_)⟩
      refine ⟨⟨_, rfl⟩, _, rfl, _, wd, rfl, rfl, Nat.le_trans (show 2 + wd.length ≤ 18 by omega) (by decide), (by show 1 ≤ sizeLine; decide), fun t1 ht1 _ => ?_⟩
      have S1 := Kb.same_upd (o := .lst [.str ("  " ++ wd)]) ht1
      refine ⟨_, rfl, _, rfl, ite2 (fun _ => ?_) (fun c => absurd rfl c)⟩
      refine ⟨_, rfl, l, rfl, ⟨_, Same.seq S1 ql⟩, fun D hD => lc_mapL (fun _ i y => ∃ x, rows[i]? = some x ∧ y = V.str (rowW x)) (fun _ _ _ _ _ h => h) (Same.refl _) hD (Same.seq S1 ql) (by rw [hx.1]; exact Nat.lt_of_le_of_lt r13 (by decide)) (fun j x H4 G4 Q4 hj s24 g24 g4 k4 => ?_) (gname_mono 4) fun H5 zs s25 hz hl rl => ?_⟩
      · obtain ⟨r, hrj, u, rfl, hu⟩ := all2_at hx hj
        refine ⟨rfl, ⟨_, rfl⟩, _, rfl, _, u, r, rfl, rfl, .inl (Same.seq (Same.trans S1 s24) hu), ?_, ?_⟩
        · have insg : ∀ s ∈ r, s.length ≤ 1 := fun s m => by
            rw [sg_len s (hsg.2.2.2 s (ok.2.1.2.mem_iff.mp (List.mem_flatten.mpr ⟨r, List.mem_of_getElem? hrj, m⟩)))]
            exact Nat.le_refl _
          have h1 := sum_leA insg
          have h2 : r.length ≤ 8 := by
            have h3 := ok.2.1.2.length_eq
            have h4 := hsg.2.1
            obtain ⟨A, Z, e⟩ := List.append_of_mem (List.mem_of_getElem? hrj)
            rw [e, List.flatten_append, List.length_append, List.flatten_cons, List.length_append] at h3
            omega
          show _ + r.length * 1 ≤ _
          omega
        · rw [txt_join]
          exact k4 _ _ (Same.refl _) ⟨r, hrj, rfl⟩
      · have e := rel_map (f := fun x => V.str (rowW x)) (by rw [hl, hx.1]) rl
        subst e
        refine ⟨t1, D, _, _, rfl, rfl, s25 _ _ upd_same, hz, ?_, fun c hc => ?_⟩
        · rw [List.length_map]
          exact Nat.le_trans (show 1 + rows.length ≤ 14 by omega) (by decide)
        · exact fin wd (rows.map rowW) rfl (Same.trans S1 (Same.trans s25 (Kb.same_upd hc))) (by rw [upd_same]; simp)
theorem ok_text {f f_law_pass_line : Addr} {fd fd_law_pass_line : FuncData} (F : Fun K "_law_text" "_law_text" s__law_text f fd) (B : Bl mg)
    (c_law_pass_line : Cal P w K mg base 1 "_law_pass_line" s__law_pass_line ["_law_row"] (spPassLine K) f_law_pass_line fd_law_pass_line) : FnOk P w K mg base CX0 2 f fd ["_law_lore_here"] (spText K) := by
  refine F.ok sc__law_text (fun vs H Q E h => ?_) (fun cdv A outer s H vs Q E hr h => ?_)
  · obtain ⟨y, L, rfl, _⟩ := h
    rfl
  · obtain ⟨y, L, rfl, hL, ok, k⟩ := h
    obtain ⟨d, ls, lf, lr, fs, rts, rfl, hd, hls, hlf, hfs, hlr, hrs⟩ := hL
    obtain ⟨hsg, f2, fok, rok, rne, r4, rnd⟩ := id ok
    refine ⟨_, (pss_cons (ps_set (i := 1) sc__law_text.nd rfl (Or.inl rfl) (pe_lstB (pa_cons (pe_op op_add_str pe_str (pe_join pe_str (pe_dget (hu_of hr) (pv 0) pe_str (fun _ _ => rfl)))) pa_nil)))
      (pss_cons (ps_expr (pe_bm PySem.F.plainAttrs_list PySem.F.slot_list_extend PySem.F.type_list_extend mt_extend (pv 1) (pa_cons (pe_lc (own := [("_law_form_here", 4)]) (g := gName 4) (tt := tYes) rfl sc__law_text.nd (pi_list (pe_dget (hu_of hr) (pv 0) pe_str (fun _ _ => rfl))) (blkOk_by (own := [("_law_form_here", 4)]) (N := ["_law_lore_here", "_law_lines", "_law_name", "_law_found", "_law_form_here", "_law_row", "_law_some_here", "_law_mark"]) (sc := defScope s__law_text) (by decide +kernel)) (fun _ _ _ _ _ => (pg_name (i := 4) sc__law_text.nd rfl (Or.inl rfl))) (fun _ _ _ _ _ => pts_nil) (fun _ _ _ _ _ => (pe_op op_add_str pe_str (pe_joinK (K := K) rfl pe_str (pe_lc (own := [("_law_some_here", 6), ("_law_mark", 7)]) (tt := tYes) rfl sc__law_text.nd (pi_listK (K := K) rfl (pv 4)) (blkOk_by (own := [("_law_some_here", 6), ("_law_mark", 7)]) (N := ["_law_lore_here", "_law_lines", "_law_name", "_law_found", "_law_form_here", "_law_row", "_law_some_here", "_law_mark"]) (sc := relS _ (defScope s__law_text)) (by decide +kernel)) (fun _ _ _ _ _ => (pg_tupK (K := K) (n := 2) rfl rfl (pgs_cons (pg_name (i := 6) sc__law_text.nd rfl (Or.inl rfl)) (pgs_cons (pg_name (i := 7) sc__law_text.nd rfl (Or.inl rfl)) pgs_nil)))) (fun _ _ _ _ _ => pts_nil) (fun _ _ _ _ _ => (pe_op op_add_str (pv 6) (pv 7)))))))) pa_nil)))
      (pss_cons (ps_for PassesOwn.never rfl (pi_list (pe_dget (hu_of hr) (pv 0) pe_str (fun _ _ => rfl))) (pg_tup rfl (pgs_cons (pg_name (i := 2) sc__law_text.nd rfl (Or.inl rfl)) (pgs_cons (pg_name (i := 3) sc__law_text.nd rfl (Or.inl rfl)) pgs_nil)))
        (pss_cons (ps_expr (pe_bm PySem.F.plainAttrs_list PySem.F.slot_list_append PySem.F.type_list_append mt_append (pv 1) (pa_cons (pe_op op_add_str pe_str (pv 2)) pa_nil)))
      (pss_one (ps_expr (pe_bm PySem.F.plainAttrs_list PySem.F.slot_list_extend PySem.F.type_list_extend mt_extend (pv 1) (pa_cons (pe_lc (own := [("_law_row", 5)]) (g := gName 5) (tt := tYes) rfl sc__law_text.nd (pi_list (pv 3)) (blkOk_by (own := [("_law_row", 5)]) (N := ["_law_lore_here", "_law_lines", "_law_name", "_law_found", "_law_form_here", "_law_row", "_law_some_here", "_law_mark"]) (sc := defScope s__law_text) (by decide +kernel)) (fun _ _ _ _ _ => (pg_name (i := 5) sc__law_text.nd rfl (Or.inl rfl))) (fun _ _ _ _ _ => pts_nil) (fun _ _ _ _ _ => (pe_call c_law_pass_line.G (hr.mono (by decide)) (by rfl) c_law_pass_line.g c_law_pass_line.F.kp c_law_pass_line.b .nil pass0 (pa_cons (pv 5) pa_nil)))) pa_nil))))))
      (pss_one (ps_ret (pe_join pe_str (pv 1))))))), ?_⟩
    have gd : ∀ {G : Hp} {k : Key} {v : V}, Same H G → valV (kv3 ls lf lr) k = some v → DGet G d (kV k) (some v) := fun s e => .inl ⟨_, _, .inl (s _ _ hd), rfl, e.symm⟩
    refine ⟨⟨_, rfl⟩, _, rfl, d, .ref ls, rfl, gd (Same.refl H) (kv3_signs ls lf lr), ?_⟩
    have sgl := List.length_pos_iff.mpr hsg.1
    have e1 : ("signs " : Str) ++ (" " : Str).join L.sg = signsLine L.sg := join_lead (a := "signs") rfl hsg.1
    have ll := line_len ok
    have l19 := lines_le ok
    have l1 : ((" " : Str).join L.sg).length ≤ 240 := by
      have h1 := ll (signsLine L.sg) (.head _)
      rw [← e1, str_app_len] at h1
      omega
    refine ⟨_, ls, L.sg, rfl, rfl, .inl hls, ?_, _, _, rfl, rfl, ?_, (by show 1 ≤ sizeLine; decide), fun q hq _ => ?_⟩
    · have h1 : ∀ s ∈ L.sg, s.length ≤ 1 := fun s m => by rw [sg_len s (hsg.2.2.2 s m)]; exact Nat.le_refl _
      have h2 := sum_leA h1
      have h3 := hsg.2.1
      show _ + L.sg.length * 1 ≤ _
      omega
    · rw [txt_join]
      exact Nat.le_trans (show 6 + _ ≤ 246 by omega) (by decide)
    rw [txt_join, e1]
    have S0 := Kb.same_upd (o := .lst [.str (signsLine L.sg)]) hq
    have eq0 : (upd H q (.lst [.str (signsLine L.sg)])) q = some (.lst ([signsLine L.sg].map V.str)) := upd_same
    obtain ⟨J, qJ⟩ : ∃ z, z = upd H q (.lst [.str (signsLine L.sg)]) := ⟨_, rfl⟩
    rw [← qJ] at S0 eq0 ⊢
    have fl : fs.length ≤ 2 := by rw [hfs.1]; exact f2
    refine ⟨_, rfl, .inl ⟨rfl, _, .of eq0⟩, _, rfl, d, .ref lf, rfl, gd S0 (kv3_forms ls lf lr), lf, rfl, ⟨_, Same.seq S0 hlf⟩, fun D hD => lc_mapL (fun _ i y => ∃ f, L.fs[i]? = some f ∧ y = V.str (formLine f)) (fun _ _ _ _ _ h => h) (Same.refl _) hD (Same.seq S0 hlf) (Nat.lt_of_le_of_lt fl (by decide)) (fun j x H4 G4 Q4 hj s24 g24 g4 k4 => ?_) (gname_mono 4) fun H5 zs s25 hz hl rl => ?_⟩
    · obtain ⟨f, hf, lf_, ys, rfl, hlf4, hit⟩ := all2_at hfs hj
      have fm := List.mem_of_getElem? hf
      obtain ⟨fne, f6, fit⟩ := fok f fm
      have s04 := Same.trans S0 s24
      refine ⟨rfl, ⟨_, rfl⟩, _, rfl, lf_, rfl, ⟨_, Same.seq s04 hlf4⟩, fun D2 hD2 => lc_it walk_list (fun i H8 => Same H4 H8 ∧ H8 D2 = some (.lst (((f.take i).map itemW).map V.str))) ⟨Kb.same_upd hD2, upd_same⟩ (fun i H8 _ ⟨s, _⟩ => Same.seq (Same.trans s04 s) hlf4) (fun i x H6 H' hi ⟨s, eD⟩ y => ?_) fun H6 ⟨s6, eD6⟩ => ?_⟩
      · obtain ⟨rfl, hx⟩ := y
        obtain ⟨it, hit2, t, rfl, ht⟩ := all2_at hit hx
        have htl := item_len hsg (fit it (List.mem_of_getElem? hit2))
        have il : (cat it.1).length + it.2.length ≤ 9 := by
          unfold itemW at htl
          rw [str_app_len] at htl
          exact htl
        refine ⟨t, _, rfl, Kb.Same.seqT (Same.trans s04 s) ht, rfl, _, _, rfl, _, _, rfl, rfl, rfl, _, rfl, _, rfl, _, _, rfl, rfl, Nat.le_trans il (by decide), _, eD, ?_, fun b o e => ?_, ?_⟩
        · rw [List.length_map, List.length_map, List.length_take]
          exact Nat.lt_of_le_of_lt (show _ ≤ 6 by omega) (by decide)
        · rw [upd_ne (ne_of_none e hD2)]
          exact s b o e
        · rw [upd_same, List.take_succ, hit2]
          simp
          rfl
      · rw [hit.1, List.take_length] at eD6
        have e2 : ("names " : Str) ++ (" " : Str).join (f.map itemW) = formLine f := join_lead (a := "names") rfl (by simpa using fne)
        have l2 : ((" " : Str).join (f.map itemW)).length ≤ 240 := by
          have h1 := ll (formLine f) (List.mem_cons_of_mem _ (List.mem_append_left _ (List.mem_map.mpr ⟨f, fm, rfl⟩)))
          rw [← e2, str_app_len] at h1
          omega
        refine ⟨_, D2, f.map itemW, rfl, rfl, .inl (.of eD6), ?_, ?_⟩
        · have h1 : ∀ s ∈ f.map itemW, s.length ≤ 9 := fun s m => by
            obtain ⟨i, mi, rfl⟩ := List.mem_map.mp m
            exact item_len hsg (fit i mi)
          have h2 := sum_leA h1
          rw [List.length_map] at h2 ⊢
          show _ + f.length * 1 ≤ _
          omega
        · rw [txt_join]
          refine ⟨_, _, rfl, rfl, Nat.le_trans (show 6 + _ ≤ 246 by omega) (by decide), ?_⟩
          rw [e2]
          exact k4 _ _ s6 ⟨f, hf, rfl⟩
    · have e := rel_map (f := fun f => V.str (formLine f)) (by rw [hl, hfs.1]) rl
      have e' : zs = (L.fs.map formLine).map V.str := by rw [e, List.map_map]; rfl
      subst e'
      refine ⟨q, D, _, _, rfl, rfl, s25 _ _ eq0, hz, ?_, ?_⟩
      · rw [List.length_map, List.length_map, List.length_map]
        exact Nat.le_trans (show 1 + L.fs.length ≤ 3 by omega) (by decide)
      have eq1 : [signsLine L.sg].map V.str ++ (L.fs.map formLine).map V.str = (signsLine L.sg :: L.fs.map formLine).map V.str := by simp
      rw [eq1]
      have U : ∀ {H6 : Hp} {xs : List V}, Same H H6 → Same H (upd H6 q (.lst xs)) := fun s b o e => by
        rw [upd_ne (ne_of_none e hq)]
        exact s b o e
      have S6 := U (xs := (signsLine L.sg :: L.fs.map formLine).map V.str) (Same.trans S0 s25)
      have eq6 : (upd H5 q (.lst ((signsLine L.sg :: L.fs.map formLine).map V.str))) q = some (.lst ((signsLine L.sg :: L.fs.map formLine).map V.str)) := upd_same
      obtain ⟨J2, qJ2⟩ : ∃ z, z = upd H5 q (.lst ((signsLine L.sg :: L.fs.map formLine).map V.str)) := ⟨_, rfl⟩
      rw [← qJ2] at S6 eq6 ⊢
      refine ⟨_, rfl, d, .ref lr, rfl, gd S6 (kv3_rules ls lf lr), lr, rfl, ⟨_, Same.seq S6 hlr⟩, for_it (walk_list (xs := rts)) (fun i σ H7 => ∃ (v2 v3 : Option V), σ = [some (.ref d), some (.ref q), v2, v3, none, none, none, none] ∧ Same H H7 ∧ H7 q = some (.lst (((signsLine L.sg :: L.fs.map formLine) ++ ruleLines (L.rs.take i)).map V.str))) ⟨none, none, rfl, S6, by rw [eq6]; simp [ruleLines]⟩ (fun i σ H7 _ ⟨_, _, _, s, _⟩ => Same.seq s hlr) (fun i x σ H8 H7 hi ⟨v2, v3, e, s7, e7⟩ y => ?_) fun σ H7 ⟨v2, v3, e, s7, e7⟩ => ?_⟩
      · subst e
        obtain ⟨rfl, hx⟩ := y
        obtain ⟨r, hr_, t, b, ys, rfl, ht, hb, hps⟩ := all2_at hrs hx
        have rm := List.mem_of_getElem? hr_
        obtain ⟨o1, o2, o3, o4, o5⟩ := rok r rm
        have len7 : ((signsLine L.sg :: L.fs.map formLine) ++ ruleLines (L.rs.take i)).length + 4 ≤ 30 := by
          have h1 : ∀ rs : List Rule, (∀ r ∈ rs, r.2.length ≤ 3) → (ruleLines rs).length ≤ rs.length * 4 := fun rs h => by
            induction rs with
            | nil => exact Nat.zero_le _
            | cons r t ih =>
              have a1 := h r (.head _)
              have a2 := ih fun x hx => h x (.tail _ hx)
              unfold ruleLines at a2 ⊢
              rw [List.flatMap_cons, List.length_append, List.length_cons, List.length_map, List.length_cons, Nat.add_mul]
              omega
          have h2 := h1 (L.rs.take i) fun r m => (rok r (List.mem_of_mem_take m)).2.2.1
          rw [List.length_take] at h2
          rw [List.length_append, List.length_cons, List.length_map]
          omega
        refine ⟨t, _, rfl, Kb.Same.seqT s7 ht, rfl, _, _, rfl, _, _, rfl, rfl, ?_⟩
        have e3 : ("rule " : Str) ++ r.1 = ruleLine r.1 := rfl
        have nl : r.1.length ≤ 8 := by
          have : ∀ s ∈ WD, s.length ≤ 8 := by decide +kernel
          exact this _ o1
        refine ⟨_, rfl, .inl ⟨rfl, _, .of e7⟩, _, rfl, _, _, rfl, rfl, Nat.le_trans (show 5 + r.1.length ≤ 13 by omega) (by decide), ?_⟩
        rw [e3]
        refine ⟨q, _, _, rfl, rfl, e7, by rw [List.length_map]; exact Nat.lt_of_le_of_lt (show _ ≤ 30 by omega) (by decide), ?_⟩
        obtain ⟨xs7, hxs7⟩ : ∃ xs, xs = ((signsLine L.sg :: L.fs.map formLine) ++ ruleLines (L.rs.take i)) ++ [ruleLine r.1] := ⟨_, rfl⟩
        have exs : ((signsLine L.sg :: L.fs.map formLine) ++ ruleLines (L.rs.take i)).map V.str ++ [V.str (ruleLine r.1)] = xs7.map V.str := by rw [hxs7, List.map_append (l₂ := [ruleLine r.1])]; rfl
        rw [exs]
        have S8 := U (xs := xs7.map V.str) s7
        have e8 : (upd H7 q (.lst (xs7.map V.str))) q = some (.lst (xs7.map V.str)) := upd_same
        obtain ⟨J3, qJ3⟩ : ∃ z, z = upd H7 q (.lst (xs7.map V.str)) := ⟨_, rfl⟩
        rw [← qJ3] at S8 e8 ⊢
        refine ⟨_, rfl, .inl ⟨rfl, _, .of e8⟩, _, rfl, b, rfl, ⟨_, Same.seq S8 hb⟩, fun D2 hD2 => lc_mapL (fun _ i y => ∃ p, r.2[i]? = some p ∧ y = V.str (passLine p)) (fun _ _ _ _ _ h => h) (Same.refl _) hD2 (Same.seq S8 hb) (by rw [hps.1]; exact Nat.lt_of_le_of_lt o3 (by decide)) (fun j x H9 G4 Q4 hj s24 g24 g4 k4 => ?_) (gname_mono 5) fun H9 zs s9 hz hl rl => ?_⟩
        · obtain ⟨p, hp, hpp⟩ := all2_at hps hj
          exact ⟨rfl, _, rfl, x, p, L.sg, rfl, hpp.same (Same.trans S8 s24), hsg, o4 p (List.mem_of_getElem? hp), fun H10 s10 => k4 _ _ s10 ⟨p, hp, rfl⟩⟩
        · have e := rel_map (f := fun p => V.str (passLine p)) (by rw [hl, hps.1]) rl
          have e' : zs = (r.2.map passLine).map V.str := by rw [e, List.map_map]; rfl
          subst e'
          refine ⟨q, D2, _, _, rfl, rfl, s9 _ _ e8, hz, ?_, _, _, rfl, U (Same.trans S8 s9), ?_⟩
          · rw [List.length_map, List.length_map, List.length_map, hxs7, List.length_append]
            exact Nat.le_trans (show _ ≤ 40 by simp only [List.length_cons, List.length_nil]; omega) (by decide)
          · rw [upd_same, ← List.map_append, hxs7, List.take_succ, hr_]
            simp [ruleLines, List.flatMap_append]
      · subst e
        rw [hrs.1, List.take_length] at e7
        have el : (signsLine L.sg :: L.fs.map formLine) ++ ruleLines L.rs = L.lines := by
          unfold Lore.lines
          rfl
        rw [el] at e7
        refine ⟨⟨_, rfl⟩, _, rfl, _, q, L.lines, rfl, rfl, .inl (.of e7), ?_, ?_⟩
        · have h2 := sum_leA ll
          show _ + L.lines.length * 1 ≤ _
          omega
        · rw [txt_join]
          exact k H7 s7
end
end K1
set_option Elab.async false
set_option linter.all false
set_option maxRecDepth 100000
set_option maxHeartbeats 4000000
namespace K1
open PySem PySem.Spec PyProof.Rows L2 Kb Kc Kn
abbrev s__law_is_full : Stmt := top 71
theorem sc__law_is_full : FnScope ["_law_lore_here", "_law_name", "_law_passes", "_law_row"] ["_law_lore_here"] (defScope s__law_is_full) := ⟨rfl, rfl, rfl, by decide +kernel, rfl, by decide +kernel, by decide +kernel⟩
abbrev s__law_told_pass : Stmt := top 72
theorem sc__law_told_pass : FnScope ["_law_row", "_law_word", "_law_classes_here", "_law_facts_here", "_law_told_here", "_law_one"] ["_law_row"] (defScope s__law_told_pass) := ⟨rfl, rfl, rfl, by decide +kernel, rfl, by decide +kernel, by decide +kernel⟩
def spIsFull (K : PySem.W.Frag) : Sp := fun vs H Q _ => ∃ (y : V) (L : Lore), vs = [y] ∧ HLore K H L y ∧ L.Ok ∧ ∀ H', Same H H' → Q (.bl L.full) H'
def spToldPass (K : PySem.W.Frag) : Sp := fun vs H Q _ => ∃ (y : V) (ps : Ps) (sg : List Str), vs = [y] ∧ LPass K H ps y ∧ SgOk sg ∧ ps.ok sg ∧ ∀ H' y', Same H H' → isPass K H' ps y' → Q y' H'
theorem lpass_third {K : PySem.W.Frag} {H : Hp} {p : Ps} {y : V} (h : LPass K H p y) : ∃ (t : Addr) (x1 x2 x3 : V), y = .ref t ∧ SqT K H t [x1, x2, x3] ∧ (!decide (x3 = .non)) = p.isKnown := by
  cases p with
  | length =>
    obtain ⟨t, e, q⟩ := h
    exact ⟨t, _, _, _, e, q, rfl⟩
  | known w xs =>
    obtain ⟨t, z, e, q, l, ys, rfl, _⟩ := h
    exact ⟨t, _, _, _, e, q, by rw [decide_eq_false (by intro z; cases z)]; rfl⟩
  | cls w rows =>
    obtain ⟨t, z, e, q, _⟩ := h
    exact ⟨t, _, _, _, e, q, rfl⟩
section
variable {P : Program} {w : World} {K : PySem.W.Frag} {mg : Str → Option Value} {base : Heap}
theorem ok_is_full {f : Addr} {fd : FuncData} (F : Fun K "_law_is_full" "_law_is_full" s__law_is_full f fd) (B : Bl mg) : FnOk P w K mg base CX0 1 f fd ["_law_lore_here"] (spIsFull K) := by
  refine F.ok sc__law_is_full (fun vs H Q E h => ?_) (fun cdv A outer s H vs Q E hr h => ?_)
  · obtain ⟨y, L, rfl, _⟩ := h
    rfl
  · obtain ⟨y, L, rfl, hL, ok, k⟩ := h
    refine ⟨_, (pss_one (ps_ret (pe_not (pe_callB (cr_any rfl) (by rfl) B.any (by decide +kernel) (pa_cons (pe_lc (own := [("_law_name", 1), ("_law_passes", 2)]) (tt := tYes) rfl sc__law_is_full.nd (pi_list (pe_dget (hu_of hr) (pv 0) pe_str (fun _ _ => rfl))) (blkOk_by (own := [("_law_name", 1), ("_law_passes", 2)]) (N := ["_law_lore_here", "_law_name", "_law_passes", "_law_row"]) (sc := defScope s__law_is_full) (by decide +kernel)) (fun _ _ _ _ _ => (pg_tupK (K := K) (n := 2) rfl rfl (pgs_cons (pg_name (i := 1) sc__law_is_full.nd rfl (Or.inl rfl)) (pgs_cons (pg_name (i := 2) sc__law_is_full.nd rfl (Or.inl rfl)) pgs_nil)))) (fun _ _ _ _ _ => pts_nil) (fun _ _ _ _ _ => (pe_callB (cr_anyK (K := K) rfl rfl) (by rfl) B.any (by decide +kernel) (pa_cons (pe_lc (own := [("_law_row", 3)]) (g := gName 3) (tt := tYes) rfl sc__law_is_full.nd (pi_listK (K := K) rfl (pv 2)) (blkOk_by (own := [("_law_row", 3)]) (N := ["_law_lore_here", "_law_name", "_law_passes", "_law_row"]) (sc := relS _ (defScope s__law_is_full)) (by decide +kernel)) (fun _ _ _ _ _ => (pg_name (i := 3) sc__law_is_full.nd rfl (Or.inl rfl))) (fun _ _ _ _ _ => pts_nil) (fun _ _ _ _ _ => (pe_cmp (pc_notN (pe_ix (ix_tupK (K := K) rfl) (pv 3) pe_int (fun _ _ => rfl))) rfl))) pa_nil)))) pa_nil))))), ?_⟩
    obtain ⟨d, ls, lf, lr, fs, rts, rfl, hd, hls, hlf, hfs, hlr, hrs⟩ := hL
    obtain ⟨hsg, f2, fok, rok, rne, r4, rnd⟩ := id ok
    refine ⟨_, rfl, d, .ref lr, rfl, .inl ⟨_, Sum.inr "rules", .inl hd, rfl, (kv3_rules ls lf lr).symm⟩, lr, rfl, ⟨_, hlr⟩, fun D hD => lc_it walk_list (fun i H1 => Same H H1 ∧ H1 D = some (.lst (((L.rs.take i).map fun r => r.2.any Ps.isKnown).map V.bl))) ⟨Kb.same_upd hD, upd_same⟩ (fun i H1 _ ⟨s, _⟩ => Same.seq s hlr) (fun i x H6 H' hi ⟨s, eD⟩ y => ?_) fun H6 ⟨s6, eD6⟩ => ?_⟩
    · obtain ⟨rfl, hx⟩ := y
      obtain ⟨r, hri, t, b, ys, rfl, ht, hb, hps⟩ := all2_at hrs hx
      obtain ⟨o1, o2, o3, o4, o5⟩ := rok r (List.mem_of_getElem? hri)
      refine ⟨t, _, rfl, Kb.Same.seqT s ht, rfl, _, _, rfl, _, _, rfl, rfl, rfl, _, rfl, b, rfl, ⟨_, Same.seq s hb⟩, fun D2 hD2 => lc_mapL (fun _ i y => ∃ p, r.2[i]? = some p ∧ y = V.bl p.isKnown) (fun _ _ _ _ _ h => h) (Same.refl _) hD2 (Same.seq s hb) (by rw [hps.1]; exact Nat.lt_of_le_of_lt o3 (by decide)) (fun j x H9 G4 Q4 hj s24 g24 g4 k4 => ?_) (gname_mono 3) fun H9 zs s9 hz hl rl => ?_⟩
      · obtain ⟨p, hp, hpp⟩ := all2_at hps hj
        obtain ⟨u, x1, x2, x3, rfl, q, e3⟩ := lpass_third hpp
        refine ⟨rfl, _, rfl, u, _, 2, x3, rfl, rfl, Kb.Same.seqT (Same.trans s s24) q, rfl, ?_⟩
        show Q4 (V.bl (!decide (x3 = V.non))) H9
        rw [e3]
        exact k4 _ _ (Same.refl _) ⟨p, hp, rfl⟩
      · have e := rel_map (f := fun p : Ps => V.bl p.isKnown) (by rw [hl, hps.1]) rl
        have e' : zs = (r.2.map Ps.isKnown).map V.bl := by rw [e, List.map_map]; rfl
        subst e'
        refine ⟨D2, _, rfl, .of hz, _, s9 _ _ eD, ?_, fun b o e => ?_, ?_⟩
        · rw [List.length_map, List.length_map, List.length_take]
          exact Nat.lt_of_le_of_lt (show _ ≤ 4 by omega) (by decide)
        · rw [upd_ne (ne_of_none e hD)]
          exact s9 _ _ (s _ _ e)
        · rw [upd_same, List.take_succ, hri]
          simp
    · rw [hrs.1, List.take_length] at eD6
      refine ⟨D, _, rfl, .of eD6, _, rfl, ?_⟩
      have e : (!((L.rs.map fun r => r.2.any Ps.isKnown).any id)) = L.full := by
        unfold Lore.full
        rw [List.any_map, List.not_any_eq_all_not]
        congr 1
        funext r
        show (!(r.2.any Ps.isKnown)) = _
        rw [List.not_any_eq_all_not]
      rw [e]
      exact k H6 s6
theorem ok_told_pass {f : Addr} {fd : FuncData} (F : Fun K "_law_told_pass" "_law_told_pass" s__law_told_pass f fd) (B : Bl mg) : FnOk P w K mg base CX0 1 f fd ["_law_row"] (spToldPass K) := by
  refine F.ok sc__law_told_pass (fun vs H Q E h => ?_) (fun cdv A outer s H vs Q E hr h => ?_)
  · obtain ⟨y, ps, sg, rfl, _⟩ := h
    rfl
  · obtain ⟨y, ps, sg, rfl, hp, hsg, ok, k⟩ := h
    refine ⟨_, (pss_cons (ps_asg (pv 0) (pg_tup rfl (pgs_cons (pg_name (i := 1) sc__law_told_pass.nd rfl (Or.inl rfl)) (pgs_cons (pg_name (i := 2) sc__law_told_pass.nd rfl (Or.inl rfl)) (pgs_cons (pg_name (i := 3) sc__law_told_pass.nd rfl (Or.inl rfl)) pgs_nil)))))
      (pss_cons (ps_set (i := 4) sc__law_told_pass.nd rfl (Or.inl rfl) (pe_ifExp (pt_cmp (pc_isN (pv 2)) rfl) pe_non (pe_tupleOf (by rfl) B.tuple (pe_lc (own := [("_law_one", 5)]) (g := gName 5) (tt := tYes) rfl sc__law_told_pass.nd (pi_list (pv 2)) (blkOk_by (own := [("_law_one", 5)]) (N := ["_law_row", "_law_word", "_law_classes_here", "_law_facts_here", "_law_told_here", "_law_one"]) (sc := defScope s__law_told_pass) (by decide +kernel)) (fun _ _ _ _ _ => (pg_name (i := 5) sc__law_told_pass.nd rfl (Or.inl rfl))) (fun _ _ _ _ _ => pts_nil) (fun _ _ _ _ _ => (tupK (K := K) rfl (pe_tupleOf (by rfl) B.tuple (pe_callB (cr_sortedSK (K := K) rfl) (by rfl) B.sorted (by decide +kernel) (pa_cons (pv 5) pa_nil)))))))))
      (pss_one (ps_ret (pe_tup (pa_cons (pv 1) (pa_cons (pv 4) (pa_cons (pe_ifExp (pt_cmp (pc_isN (pv 3)) rfl) pe_non (pe_tupleOf (by rfl) B.tuple (pv 3))) pa_nil)))))))), ?_⟩
    cases ps with
    | length =>
      obtain ⟨t, rfl, q⟩ := hp
      refine ⟨_, rfl, t, _, rfl, q, rfl, _, _, rfl, _, _, rfl, _, _, rfl, rfl, _, rfl, _, rfl, ite2 (fun _ => ?_) (fun c => absurd rfl c)⟩
      refine ⟨_, rfl, _, rfl, _, rfl, _, rfl, ite2 (fun _ => ?_) (fun c => absurd rfl c)⟩
      exact ⟨(by show 3 ≤ sizeLine; decide), fun u hu => k _ _ (Kb.same_upd hu) ⟨u, rfl, .of upd_same⟩⟩
    | known wd xs =>
      obtain ⟨t, z, rfl, q, l, ys, rfl, ql, hx⟩ := hp
      refine ⟨_, rfl, t, _, rfl, q, rfl, _, _, rfl, _, _, rfl, _, _, rfl, rfl, _, rfl, _, rfl, ite2 (fun _ => ?_) (fun c => absurd rfl c)⟩
      refine ⟨_, rfl, _, rfl, _, rfl, _, rfl, ite2 (fun c => nomatch c) (fun _ => ?_)⟩
      refine ⟨_, rfl, .inl ⟨l, ys, rfl, ql, fun u hu => ?_⟩⟩
      have S1 := Kb.same_upd (o := .tup ys) hu
      refine ⟨(by show 3 ≤ sizeLine; decide), fun v hv => ?_⟩
      have S2 := Kb.same_upd (o := .tup [.str wd, .non, .ref u]) hv
      have S := Same.trans S1 S2
      exact k _ _ S ⟨v, u, ys, rfl, .of upd_same, .of (S2 _ _ upd_same), hx.1, fun i y x e1 e2 => isFact_same S (hx.2 i y x e1 e2)⟩
    | cls wd rows =>
      obtain ⟨t, z, rfl, q, l, ys, rfl, ql, hx⟩ := hp
      have hfl : rows.flatten.length ≤ 8 := by
        rw [ok.2.1.2.length_eq]
        exact hsg.2.1
      have rl8 : rows.length ≤ 8 := Nat.le_trans (len_flat ok.2.1.1) hfl
      have r8 : ∀ r ∈ rows, r.length ≤ 8 := fun r m => by
        obtain ⟨A, Z, e⟩ := List.append_of_mem m
        rw [e, List.flatten_append, List.length_append, List.flatten_cons, List.length_append] at hfl
        omega
      refine ⟨_, rfl, t, _, rfl, q, rfl, _, _, rfl, _, _, rfl, _, _, rfl, rfl, _, rfl, _, rfl, ite2 (fun c => nomatch c) (fun _ => ?_)⟩
      refine ⟨_, rfl, l, rfl, ⟨_, ql⟩, fun D hD => lc_mapL (fun H j y => ∃ r, rows[j]? = some r ∧ isRow K H r y) (fun _ _ _ _ s ⟨r, e, t, z, e1, q, e2, e3⟩ => ⟨r, e, t, z, e1, Kb.Same.seqT s q, e2, e3⟩) (G1 := fun _ => none) nw_none hD ql (by rw [hx.1]; exact Nat.lt_of_le_of_lt rl8 (by decide)) (fun j x H6 G2 Q2 hj s56 g12 g2 k2 => ?_) (gname_mono 5) fun H7 zs7 s57 hz7 hl7 rl7 => ?_⟩
      · obtain ⟨r, hrj, l2, rfl, hL⟩ := all2_at hx hj
        have hm := List.mem_of_getElem? hrj
        refine ⟨rfl, _, rfl, l2, r, rfl, Same.seq s56 hL, Nat.lt_of_le_of_lt (r8 r hm) (by decide), fun zr q3 pr sr hq3 => .inl ⟨q3, _, rfl, .of upd_same, fun t ht => ?_⟩⟩
        refine k2 _ _ (Same.trans (Kb.same_upd hq3) (Kb.same_upd ht)) ⟨r, hrj, t, zr, rfl, .of (grow_new ?_ upd_same), pr, sr⟩
        exact (Kb.same_upd hq3).free ht
      · refine .inl ⟨D, zs7, rfl, .of hz7, fun u hu => ?_⟩
        have S1 := Kb.same_upd (o := .tup zs7) hu
        refine ⟨_, rfl, _, rfl, _, rfl, _, rfl, ite2 (fun _ => ?_) (fun c => absurd rfl c)⟩
        refine ⟨(by show 3 ≤ sizeLine; decide), fun v hv => ?_⟩
        have S2 := Kb.same_upd (o := .tup [.str wd, .ref u, .non]) hv
        refine k _ _ (Same.trans s57 (Same.trans S1 S2)) ⟨v, u, zs7, rfl, .of upd_same, .of (S2 _ _ upd_same), by rw [hl7, hx.1], fun i y r e1 e2 => ?_⟩
        obtain ⟨r', e3, t', z, e4, q, e5, e6⟩ := rl7 i y e1
        rw [e2] at e3
        cases e3
        exact ⟨t', z, e4, Kb.Same.seqT (Same.trans (grow_part nw_none hD s57) (Same.trans S1 S2)) q, e5, e6⟩
end
end K1
set_option Elab.async false
set_option linter.all false
set_option maxRecDepth 100000
set_option maxHeartbeats 4000000
namespace K1
open PySem PySem.Spec PyProof.Rows L2 Kb Kc Kn
abbrev s__law_odd : Stmt := top 57
theorem sc__law_odd : FnScope ["_law_pot_here", "_law_some_here"] ["_law_pot_here"] (defScope s__law_odd) := ⟨rfl, rfl, rfl, by decide +kernel, rfl, by decide +kernel, by decide +kernel⟩
section
variable {P : Program} {w : World} {K : PySem.W.Frag} {mg : Str → Option Value} {base : Heap}
theorem ok_odd {f f_law_of : Addr} {fd fd_law_of : FuncData} (F : Fun K "_law_odd" "_law_odd" s__law_odd f fd) (c_law_of : Cal P w K mg base 2 "_law_of" s__law_of ["_law_pot_here", "_law_some_here"] (spOf K) f_law_of fd_law_of) :
    FnOk P w K mg base CX0 3 f fd ["_law_pot_here"] (spOdd K) := by
  refine F.ok sc__law_odd (fun vs H Q E h => ?_) (fun cdv A outer s H vs Q E hr h => ?_)
  · obtain ⟨p, n, rfl, _⟩ := h
    rfl
  · obtain ⟨p, n, rfl, hP, hn, k⟩ := h
    refine ⟨_, (pss_cons (ps_set (i := 1) sc__law_odd.nd rfl (Or.inl rfl) (pe_lstB (pa_cons pe_non (pa_cons pe_bl (pa_cons pe_bl (pa_cons pe_int (pa_cons pe_int (pa_cons (pe_un un_neg pe_int) (pa_cons pe_int (pa_cons pe_str (pa_cons pe_str (pa_cons pe_str (pa_cons pe_str (pa_cons pe_str (pa_cons (pe_tup pa_nil) (pa_cons (pe_lstB pa_nil) (pa_cons pe_dnewK (pa_cons (pe_tup (pa_cons (pe_tup pa_nil) pa_nil)) (pa_cons (pe_tup (pa_cons pe_int pa_nil)) (pa_cons (pe_tup (pa_cons pe_int (pa_cons pe_int pa_nil))) pa_nil))))))))))))))))))))
      (pss_cons (ps_set (i := 1) sc__law_odd.nd rfl (Or.inl rfl) (pe_op op_cat (pv 1) (pe_lstB (pa_cons (pe_lstB (pa_cons pe_int pa_nil)) (pa_cons (pe_disp (pps_cons pe_str pe_int pps_nil) (by rfl) (by rfl) (fun z => by cases z) (by decide)) (pa_cons pe_int (pa_cons pe_str (pa_cons pe_str (pa_cons (pe_tup (pa_cons pe_str (pa_cons pe_str pa_nil))) (pa_cons (pe_tup (pa_cons pe_str pa_nil)) (pa_cons (pe_tup (pa_cons pe_non (pa_cons pe_non pa_nil))) (pa_cons (pe_tup (pa_cons pe_str (pa_cons pe_bl pa_nil))) (pa_cons pe_str pa_nil)))))))))))))
      (pss_one (ps_ret (pe_call c_law_of.G (hr.mono (by decide)) (by rfl) c_law_of.g c_law_of.F.kp c_law_of.b .nil pass0 (pa_cons (pv 0) (pa_cons (pv 1) pa_nil))))))), ?_⟩
    -- the first list
    refine ⟨_, rfl, (by show 0 ≤ sizeLine; decide), fun t1 h1 => ⟨(by show 0 ≤ sizeLine; decide), fun t2 h2 g2 => fun t3 h3 => ⟨(by show 0 ≤ sizeLine; decide), fun t4 h4 => ⟨(by show 1 ≤ sizeLine; decide), fun t5 h5 => ⟨(by show 1 ≤ sizeLine; decide), fun t6 h6 => ⟨(by show 2 ≤ sizeLine; decide), fun t7 h7 => ⟨(by show 18 ≤ sizeLine; decide), fun t8 h8 g8 => ?_⟩⟩⟩⟩⟩⟩⟩
    -- the second list
    refine ⟨_, rfl, (by show 1 ≤ sizeLine; decide), fun t9 h9 g9 => fun t10 h10 => ⟨upd_same, [(Sum.inr "a", V.int 1)], rfl, (by decide), ?_⟩⟩
    rw [upd_upd]
    refine ⟨(by show 2 ≤ sizeLine; decide), fun t11 h11 => ⟨(by show 1 ≤ sizeLine; decide), fun t12 h12 => ⟨(by show 2 ≤ sizeLine; decide), fun t13 h13 => ⟨(by show 2 ≤ sizeLine; decide), fun t14 h14 => ⟨(by show 10 ≤ sizeLine; decide), fun t15 h15 g15 => ?_⟩⟩⟩⟩⟩
    have F15 : Fresh H [(t1, .tup []), (t2, .lst []), (t3, .dK []), (t4, .tup []), (t5, .tup [.ref t4]), (t6, .tup [.int 0]), (t7, .tup [.int 0, .int 1]), (t8, .lst [V.non, V.bl true, V.bl false, V.int 0, V.int 1, V.int (-1), V.int 2, V.str "", V.str "a", V.str "known", V.str "before", V.str "carries", V.ref t1, V.ref t2, V.ref t3, V.ref t5, V.ref t6, V.ref t7]), (t9, .lst [.int 0]), (t10, .dK [(Sum.inr "a", .int 1)]), (t11, .tup [.str "a", .str "b"]), (t12, .tup [.str "fits"]),
        (t13, .tup [.non, .non]), (t14, .tup [.str "a", .bl true]), (t15, .lst [V.ref t9, V.ref t10, V.int 99999, V.str "1", V.str "rule", V.ref t11, V.ref t12, V.ref t13, V.ref t14, V.str "-"])] := ⟨h1, h2, h3, h4, h5, h6, h7, h8, h9, h10, h11, h12, h13, h14, h15, trivial⟩
    refine ⟨t8, t15, _, _, rfl, rfl, lay_at (i := 7) F15 rfl, lay_at (i := 14) F15 rfl, (by show 28 ≤ sizeLine; decide), fun t16 h16 => ?_⟩
    have F16 : Fresh H [(t1, .tup []), (t2, .lst []), (t3, .dK []), (t4, .tup []), (t5, .tup [.ref t4]), (t6, .tup [.int 0]), (t7, .tup [.int 0, .int 1]), (t8, .lst [V.non, V.bl true, V.bl false, V.int 0, V.int 1, V.int (-1), V.int 2, V.str "", V.str "a", V.str "known", V.str "before", V.str "carries", V.ref t1, V.ref t2, V.ref t3, V.ref t5, V.ref t6, V.ref t7]), (t9, .lst [.int 0]), (t10, .dK [(Sum.inr "a", .int 1)]), (t11, .tup [.str "a", .str "b"]), (t12, .tup [.str "fits"]),
        (t13, .tup [.non, .non]), (t14, .tup [.str "a", .bl true]), (t15, .lst [V.ref t9, V.ref t10, V.int 99999, V.str "1", V.str "rule", V.ref t11, V.ref t12, V.ref t13, V.ref t14, V.str "-"]), (t16, .lst ([V.non, V.bl true, V.bl false, V.int 0, V.int 1, V.int (-1), V.int 2, V.str "", V.str "a", V.str "known", V.str "before", V.str "carries", V.ref t1, V.ref t2, V.ref t3, V.ref t5, V.ref t6, V.ref t7] ++ [V.ref t9, V.ref t10, V.int 99999, V.str "1", V.str "rule", V.ref t11, V.ref t12, V.ref t13, V.ref t14, V.str "-"]))] := ⟨h1, h2, h3, h4, h5, h6, h7, h8, h9, h10, h11, h12, h13, h14, h15, h16, trivial⟩
    obtain ⟨pa, pb, pc, hp, _⟩ := id hP.ex
    have D : DqAll K (New p H (lay H [(t1, .tup []), (t2, .lst []), (t3, .dK []), (t4, .tup []), (t5, .tup [.ref t4]), (t6, .tup [.int 0]), (t7, .tup [.int 0, .int 1]), (t8, .lst [V.non, V.bl true, V.bl false, V.int 0, V.int 1, V.int (-1), V.int 2, V.str "", V.str "a", V.str "known", V.str "before", V.str "carries", V.ref t1, V.ref t2, V.ref t3, V.ref t5, V.ref t6, V.ref t7]), (t9, .lst [.int 0]), (t10, .dK [(Sum.inr "a", .int 1)]), (t11, .tup [.str "a", .str "b"]), (t12, .tup [.str "fits"]),
        (t13, .tup [.non, .non]), (t14, .tup [.str "a", .bl true]), (t15, .lst [V.ref t9, V.ref t10, V.int 99999, V.str "1", V.str "rule", V.ref t11, V.ref t12, V.ref t13, V.ref t14, V.str "-"]), (t16, .lst ([V.non, V.bl true, V.bl false, V.int 0, V.int 1, V.int (-1), V.int 2, V.str "", V.str "a", V.str "known", V.str "before", V.str "carries", V.ref t1, V.ref t2, V.ref t3, V.ref t5, V.ref t6, V.ref t7] ++ [V.ref t9, V.ref t10, V.int 99999, V.str "1", V.str "rule", V.ref t11, V.ref t12, V.ref t13, V.ref t14, V.str "-"]))])) _ oddD :=
      DqAll.app (.cons .non (.cons (.bl _) (.cons (.bl _) (.cons (.int _) (.cons (.int _) (.cons (.int _) (.cons (.int _) (.cons (.str _) (.cons (.str _) (.cons (.str _) (.cons (.str _) (.cons (.str _)
          (.cons (.tup (.of (lay_new (i := 0) F16 hp rfl)) .nil) (.cons (.lst (.of (lay_new (i := 1) F16 hp rfl)) g2 .nil) (.cons (.dic (.inl (lay_new (i := 2) F16 hp rfl)) .nil)
          (.cons (.tup (.of (lay_new (i := 4) F16 hp rfl)) (.cons (.tup (.of (lay_new (i := 3) F16 hp rfl)) .nil) .nil)) (.cons (.tup (.of (lay_new (i := 5) F16 hp rfl)) (.cons (.int _) .nil))
          (.cons (.tup (.of (lay_new (i := 6) F16 hp rfl)) (.cons (.int _) (.cons (.int _) .nil))) .nil))))))))))))))))))
        (.cons (.lst (.of (lay_new (i := 8) F16 hp rfl)) g9 (.cons (.int _) .nil)) (.cons (.dic (.inl (lay_new (i := 9) F16 hp rfl)) (.cons (k := Sum.inr "a") (.int _) .nil)) (.cons (.int _) (.cons (.str _) (.cons (.str _)
          (.cons (.tup (.of (lay_new (i := 10) F16 hp rfl)) (.cons (.str _) (.cons (.str _) .nil))) (.cons (.tup (.of (lay_new (i := 11) F16 hp rfl)) (.cons (.str _) .nil))
          (.cons (.tup (.of (lay_new (i := 12) F16 hp rfl)) (.cons .non (.cons .non .nil))) (.cons (.tup (.of (lay_new (i := 13) F16 hp rfl)) (.cons (.str _) (.cons (.bl _) .nil))) (.cons (.str _) .nil))))))))))
    refine ⟨_, rfl, _, rfl, p, t16, _, n, rfl, hP.same (lay_same F16), hn, .of (lay_rest (i := 15) F16 hp rfl), (by show 0 < 28; decide), (by show 28 ≤ 1000000; decide), fun H' x hx T => ?_⟩
    obtain ⟨d, hd, hq⟩ := DqAll.pick D hx
    exact k H' x d hd (Dq.same (new_ext T.2) _ _ hq) ⟨T.1, .trans (.same (lay_same F16)) T.2⟩
end
end K1
set_option Elab.async false
set_option linter.all false
set_option maxRecDepth 100000
set_option maxHeartbeats 4000000
namespace K1
open PySem PySem.Spec PyProof.Rows L2 Kb Kc Kn
/-! ### operators by own methods: what they answer, both ways -/
section
variable {X : Cx} {CX : CXT} {n : Nat} {C f : Addr} {fd : FuncData} {ps : List Str} {sp : Sp} {E : XK} {pins : List (Addr × Obj)} {σ : L2.St} {H : Hp} {s : Shared}
theorem ins_inst {a C dx : Addr} {fs : List (Str × V)} (I : Inv X pins σ H s) (e : H a = some (.ins C dx fs)) : ∃ od, PySem.W.InstAt s.heap a (PySem.W.instObj C dx) C (some od) := by
  have h := I.hok a _ e
  obtain ⟨_, _, _, he, mA, hn, _⟩ := h
  obtain ⟨od, ho, _⟩ := lookIn_ns hn
  exact ⟨od, he, rfl, rfl, ho⟩
/-- a call of an own def, at any A as roomy -/
theorem runF {A : Around} {Q : VK} {us : List Value} {vs : List V} (F : FnOk X.prog X.w X.K X.mg X.base CX n f fd ps sp) (hfr : A.frames = X.A.frames) (hr : Room n A) (hb : Binds X.K fd ps []) (hx : Passes CX X E)
    (I : Inv X pins σ H s) (r : Vals vs us) (h : sp vs H Q E) : wpAny (model X.prog X.w) A (call (.ref f) us) (EP X pins σ Q) X.xe s := by
  have hl : us.length = ps.length := by rw [← r.length]; exact F.len _ _ _ _ h
  have e0 : Env0 X.prog X.w X.K X.mg X.base A X.stack s H := { I.env0 with frames := hfr.trans I.env0.frames }
  have hb' := hb s us I.kIn (by rw [List.append_nil]; exact hl)
  rw [List.append_nil] at hb'
  refine wpAny_call (codeAny_mono (F.run A X.stack s H ⟨us, []⟩ us vs Q E hr e0 hb' r h) fun q s' hq => ?_)
  cases q with
  | error e => exact hx pins σ H s e s' I hq
  | ok fl =>
    cases fl with
    | ret u => exact I.after hq
    | next => exact False.elim hq
    | brk => exact False.elim hq
    | cont => exact False.elim hq
def rInM (neg : Bool) (C : Addr) (sp : Sp) (E : XK) : R2 := fun x y H Q => ∃ (a dx : Addr) (fs : List (Str × V)), y = .ref a ∧ H a = some (.ins C dx fs) ∧ sp [.ref a, x] H (fun v H' => ∃ b, v = .bl b ∧ Q (.bl (if neg then !b else b)) H') E
theorem op_inM (F : FnOk X.prog X.w X.K X.mg X.base CX n f fd ps sp) (hr : Room n X.A) (hf : PySem.W.findIn X.K (.ref C) "__contains__" = some (some (.ref f))) (hfn : PySem.W.isFn X.K (.ref f) = true) (hb : Binds X.K fd ps []) (hx : Passes CX X E) : OpR X (compareOp .In) (rInM false C sp E) := by
  intro pins s σ H x y v u Q I rx ry ⟨a, dx, fs, ey, hi, hsp⟩
  subst ey
  obtain ⟨m, fr⟩ := I.fr
  obtain ⟨od, ia⟩ := ins_inst I hi
  cases ry
  refine PySem.W.in_K fr I.ok.mod.kin ia hf hfn ?_
  refine wpAny_mono (runF F rfl hr hb hx I (vs := [.ref a, x]) (.cons rfl (.cons rx .nil)) hsp) (fun r s' hq => ?_) fun e s' h => h
  obtain ⟨w, H', I', rw_, b, e, q⟩ := hq
  subst e
  cases rw_
  exact wpAny_pure ⟨.bl b, H', I', rfl, q⟩
theorem op_notInM (F : FnOk X.prog X.w X.K X.mg X.base CX n f fd ps sp) (hr : Room n X.A) (hf : PySem.W.findIn X.K (.ref C) "__contains__" = some (some (.ref f))) (hfn : PySem.W.isFn X.K (.ref f) = true) (hb : Binds X.K fd ps []) (hx : Passes CX X E) : OpR X (compareOp .NotIn) (rInM true C sp E) := by
  intro pins s σ H x y v u Q I rx ry ⟨a, dx, fs, ey, hi, hsp⟩
  subst ey
  obtain ⟨m, fr⟩ := I.fr
  obtain ⟨od, ia⟩ := ins_inst I hi
  cases ry
  refine PySem.W.notIn_K fr I.ok.mod.kin ia hf hfn ?_
  refine wpAny_mono (runF F rfl hr hb hx I (vs := [.ref a, x]) (.cons rfl (.cons rx .nil)) hsp) (fun r s' hq => ?_) fun e s' h => h
  obtain ⟨w, H', I', rw_, b, e, q⟩ := hq
  subst e
  cases rw_
  exact wpAny_pure ⟨.bl (!b), H', I', rfl, q⟩
def rLenM (C : Addr) (sp : Sp) (E : XK) : List V → Hp → VK → Prop := fun xs H Q => ∃ (a dx : Addr) (fs : List (Str × V)), xs = [.ref a] ∧ H a = some (.ins C dx fs) ∧ sp [.ref a] H (fun v H' => ∃ k : Nat, v = nv k ∧ k < 2 ^ 63 ∧ Q (nv k) H') E
theorem room_in1 {A : Around} (h : Room (n + 1) A) : Room n A.in1 := ⟨h.hd, by have := h.dp; show A.depth + 3 * n + 5 < _; omega, by have := h.un; show A.units + 1 + 16 * n + 200 < _; omega⟩
theorem call_lenM (F : FnOk X.prog X.w X.K X.mg X.base CX n f fd ps sp) (hr : Room (n + 1) X.A) (hf : PySem.W.findIn X.K (.ref C) "__len__" = some (some (.ref f))) (hfn : PySem.W.isFn X.K (.ref f) = true) (hb : Binds X.K fd ps []) (hx : Passes CX X E) : CallR X (.builtin "len") (rLenM C sp E) := by
  intro pins s σ H xs us Q I rv ⟨a, dx, fs, ex, hi, hsp⟩
  subst ex
  obtain ⟨m, fr⟩ := I.fr
  obtain ⟨od, ia⟩ := ins_inst I hi
  cases rv with
  | cons r1 r2 =>
    cases r2
    cases r1
    refine PySem.W.len_K fr I.ok.mod.kin ia hf hfn ?_
    refine wpAny_mono (runF F rfl (room_in1 hr) hb hx I (vs := [.ref a]) (.cons rfl .nil) hsp) (fun r s' hq => ?_) fun e s' h => h
    obtain ⟨w, H', I', rw_, k, e, hk, q⟩ := hq
    subst e
    obtain ⟨t, rfl⟩ := rw_
    exact ⟨⟨by omega, by omega⟩, .int k, H', I'.tok _, ⟨_, rfl⟩, q⟩
def rEqM (K : PySem.W.Frag) (C : Addr) (sp : Sp) (E : XK) : R2 := fun x y H Q => ∃ (a dx : Addr) (fs : List (Str × V)) (T : Value), x = .ref a ∧ H a = some (.ins C dx fs) ∧ TyX K H y T ∧ PySem.W.notFirst K C T = true ∧ sp [.ref a, y] H (fun v H' => ∃ b, v = .bl b ∧ Q (.bl b) H') E
theorem op_eqM (F : FnOk X.prog X.w X.K X.mg X.base CX n f fd ps sp) (hr : Room n X.A) (hf : PySem.W.findIn X.K (.ref C) "__eq__" = some (some (.ref f))) (hfn : PySem.W.isFn X.K (.ref f) = true) (hb : Binds X.K fd ps []) (hx : Passes CX X E) : OpR X (compareOp .Eq) (rEqM X.K C sp E) := by
  intro pins s σ H x y v u Q I rx ry ⟨a, dx, fs, T, ey, hi, hT, hn, hsp⟩
  subst ey
  obtain ⟨m, fr⟩ := I.fr
  obtain ⟨od, ia⟩ := ins_inst I hi
  obtain ⟨P, kx, hP, _⟩ := kit_of I ry hT
  cases rx
  refine PySem.W.cmp_ofEq (PySem.W.cmp_K (op := .Eq) (by have := hr.un; omega) fr I.ok.mod.kin ia (kx.ty _ _ I.kIn hP) hn hf hfn ?_)
  refine wpAny_mono (runF F rfl hr hb hx I (vs := [.ref a, y]) (.cons rfl (.cons ry .nil)) hsp) (fun r s' hq => ?_) fun e s' h => h
  obtain ⟨w, H', I', rw_, b, e, q⟩ := hq
  subst e
  cases rw_
  exact ⟨.bl b, H', I', rfl, q⟩
end
end K1
set_option Elab.async false
set_option linter.all false
set_option maxRecDepth 100000
set_option maxHeartbeats 4000000
namespace K1
open PySem PySem.Spec PyProof.Rows L2 Kb Kc Kn
abbrev s_House___len__ : Stmt := inClass (top 49) 2
theorem sc_House___len__ : FnScope ["self"] ["self"] (defScope s_House___len__) := ⟨rfl, rfl, rfl, by decide +kernel, rfl, by decide +kernel, by decide +kernel⟩
abbrev s_House___contains__ : Stmt := inClass (top 49) 3
theorem sc_House___contains__ : FnScope ["self", "value"] ["self", "value"] (defScope s_House___contains__) := ⟨rfl, rfl, rfl, by decide +kernel, rfl, by decide +kernel, by decide +kernel⟩
abbrev s_House___eq__ : Stmt := inClass (top 49) 4
theorem sc_House___eq__ : FnScope ["self", "other"] ["self", "other"] (defScope s_House___eq__) := ⟨rfl, rfl, rfl, by decide +kernel, rfl, by decide +kernel, by decide +kernel⟩
/-- a house: the object, and what stands behind its fields -/
def HouseObj (K : PySem.W.Frag) (C : Addr) (H : Hp) (L : Lore) (a : Addr) : Prop := ∃ (dx sa tr d : Addr) (m : V), H a = some (.ins C dx (hf6 (.str L.text) (.ref sa) (.ref tr) (.bl L.full) m (.ref d))) ∧ HouseIn K H L sa tr d
theorem HouseObj.same {K : PySem.W.Frag} {C : Addr} {H H' : Hp} {L : Lore} {a : Addr} (s : Same H H') (h : HouseObj K C H L a) : HouseObj K C H' L a := by
  obtain ⟨dx, sa, tr, d, m, h1, h2⟩ := h
  exact ⟨dx, sa, tr, d, m, s _ _ h1, h2.same s⟩
def Lore.names (L : Lore) : List Str := L.rs.map (·.1)
def spHLen (K : PySem.W.Frag) (C : Addr) : Sp := fun vs H Q _ => ∃ (a : Addr) (L : Lore), vs = [.ref a] ∧ HouseObj K C H L a ∧ Q (nv L.rs.length) H
/-- no string: a value of a type that is none -/
def NoStr (K : PySem.W.Frag) (H : Hp) (x : V) : Prop := ∃ T, TyX K H x T ∧ PySem.W.kitOne K T (.type "str") = some false
def spHIn (K : PySem.W.Frag) (C : Addr) : Sp := fun vs H Q _ => ∃ (a : Addr) (x : V) (L : Lore), vs = [.ref a, x] ∧ HouseObj K C H L a ∧ ((∃ s, x = .str s ∧ Q (.bl (decide (s ∈ L.names))) H) ∨ (NoStr K H x ∧ Q (.bl false) H))
def spHEq (K : PySem.W.Frag) (C : Addr) : Sp := fun vs H Q _ => ∃ (a : Addr) (x : V) (L : Lore), vs = [.ref a, x] ∧ HouseObj K C H L a ∧ ((∃ b L', x = .ref b ∧ HouseObj K C H L' b ∧ Q (.bl (decide (L.text = L'.text))) H) ∨ ((∃ T, TyX K H x T ∧ PySem.W.kitOne K T (.ref C) = some false) ∧ Q (.bl false) H))
section
variable {P : Program} {w : World} {K : PySem.W.Frag} {mg : Str → Option Value} {base : Heap}
theorem ok_h_len {f C : Addr} {fd : FuncData} (F : Fun K "__len__" "House.__len__" s_House___len__ f fd) (B : Bl mg) (T : HouseT K C) : FnOk P w K mg base CX0 1 f fd ["self"] (spHLen K C) := by
  refine F.ok sc_House___len__ (fun vs H Q E h => ?_) (fun cdv A outer s H vs Q E hr h => ?_)
  · obtain ⟨a, L, rfl, _⟩ := h
    rfl
  · obtain ⟨a, L, rfl, ⟨dx, sa, tr, d, m, h1, h2⟩, k⟩ := h
    refine ⟨_, (pss_one (ps_ret (pe_callB call_len_seq (by rfl) B.len (by decide +kernel) (pa_cons (pe_fld (pv 0) rfl) pa_nil)))), ?_⟩
    refine ⟨_, rfl, a, C, dx, _, .ref tr, rfl, h1, T.cl, T.n3, hf_rules, tr, _, rfl, .inr h2.rs, ?_⟩
    show Q (V.int ((L.rs.map fun r => V.str r.1).length : Nat)) H
    rw [List.length_map]
    exact k
theorem ok_h_in {f C : Addr} {fd : FuncData} (F : Fun K "__contains__" "House.__contains__" s_House___contains__ f fd) (B : Bl mg) (T : HouseT K C) : FnOk P w K mg base CX0 1 f fd ["self", "value"] (spHIn K C) := by
  refine F.ok sc_House___contains__ (fun vs H Q E h => ?_) (fun cdv A outer s H vs Q E hr h => ?_)
  · obtain ⟨a, x, L, rfl, _⟩ := h
    rfl
  · obtain ⟨a, x, L, rfl, ⟨dx, sa, tr, d, m, h1, h2⟩, k⟩ := h
    refine ⟨_, (pss_one (ps_ret (pe_and (pe_callB call_isi (by rfl) B.isinstance (by decide +kernel) (pa_cons (pv 1) (pa_cons (pe_bltn (v := .ty "str") (u := .type "str") (by rfl) B.str (by decide +kernel) rfl) pa_nil))) (pe_one (pe_cmpR op_in_seq (pv 1) (pe_fld (pv 0) rfl) rfl))))), ?_⟩
    have en : (L.rs.map fun r => V.str r.1) = L.names.map V.str := by
      unfold Lore.names
      rw [List.map_map]
      rfl
    rcases k with ⟨z, rfl, k⟩ | ⟨⟨Ty, hT, hk⟩, k⟩
    · refine ⟨_, rfl, .str z, .ty "str", _, _, true, rfl, .ty _, .base (.str z), kit_ty (a := "str") (b := "str") (r := true) (by decide +kernel), _, rfl, iteT ?_⟩
      refine ⟨_, rfl, _, rfl, a, C, dx, _, .ref tr, rfl, h1, T.cl, T.n3, hf_rules, tr, _, rfl, .inr h2.rs, rfl, by rw [en]; exact all_flat _, ?_⟩
      show Q (V.bl (inV (V.str z) (L.rs.map fun r => V.str r.1))) H
      rw [en, inV_str]
      exact k
    · refine ⟨_, rfl, x, .ty "str", _, _, false, rfl, .ty _, hT, hk, _, rfl, iteF ?_⟩
      exact k
theorem ok_h_eq {f C : Addr} {fd : FuncData} (F : Fun K "__eq__" "House.__eq__" s_House___eq__ f fd) (B : Bl mg) (T : HouseT K C) (CHouse : Addr) (gHouse : mg "House" = some (.ref CHouse)) (eC : CHouse = C)
    (hty : ∀ {H : Hp} {a dx : Addr} {fs : List (Str × V)}, H a = some (.ins C dx fs) → TyX K H (.ref a) (.ref C)) (hcl : ClsV (.ref C) (.ref C)) (hk1 : PySem.W.kitOne K (.ref C) (.ref C) = some true) : FnOk P w K mg base CX0 1 f fd ["self", "other"] (spHEq K C) := by
  subst eC
  refine F.ok sc_House___eq__ (fun vs H Q E h => ?_) (fun cdv A outer s H vs Q E hr h => ?_)
  · obtain ⟨a, x, L, rfl, _⟩ := h
    rfl
  · obtain ⟨a, x, L, rfl, ⟨dx, sa, tr, d, m, h1, h2⟩, k⟩ := h
    refine ⟨_, (pss_one (ps_ret (pe_and (pe_callB call_isi (by rfl) B.isinstance (by decide +kernel) (pa_cons (pv 1) (pa_cons (pe_glob (v := .ref CHouse) (by rfl) gHouse rfl) pa_nil))) (pe_one (pe_cmpR op_eq (pe_fld (pv 0) rfl) (pe_fld (pv 1) rfl) (nomark _)))))), ?_⟩
    rcases k with ⟨b, L', rfl, ⟨dx', sa', tr', d', m', h1', h2'⟩, k⟩ | ⟨⟨Ty, hT, hk⟩, k⟩
    · refine ⟨_, rfl, .ref b, .ref CHouse, _, _, true, rfl, hcl, hty h1', hk1, _, rfl, iteT ?_⟩
      refine ⟨_, rfl, a, CHouse, dx, _, .str L.text, rfl, h1, T.cl, T.n1, hf_text, _, rfl, b, CHouse, dx', _, .str L'.text, rfl, h1', T.cl, T.n1, hf_text, rfl, ?_⟩
      show Q (V.bl (decide (V.str L.text = V.str L'.text))) H
      have : decide (V.str L.text = V.str L'.text) = decide (L.text = L'.text) := by
        by_cases c : L.text = L'.text
        · rw [c]; simp
        · rw [decide_eq_false c, decide_eq_false (fun z => c (V.str.inj z))]
      rw [this]
      exact k
    · refine ⟨_, rfl, x, .ref CHouse, _, _, false, rfl, hcl, hT, hk, _, rfl, iteF ?_⟩
      exact k
end
end K1
set_option Elab.async false
set_option linter.all false
set_option maxRecDepth 100000
set_option maxHeartbeats 4000000
namespace K1
open PySem PySem.Spec PyProof.Rows L2 Kb Kc Kn
abbrev s_OrderError___init__ : Stmt := inClass (top 1) 0
theorem sc_OrderError___init__ : FnScope ["self", "value"] ["self", "value"] (defScope s_OrderError___init__) := ⟨rfl, rfl, rfl, by decide +kernel, rfl, by decide +kernel, by decide +kernel⟩
abbrev s_House_passes : Stmt := inClass (top 49) 1
theorem sc_House_passes : FnScope ["self", "rule"] ["self", "rule"] (defScope s_House_passes) := ⟨rfl, rfl, rfl, by decide +kernel, rfl, by decide +kernel, by decide +kernel⟩
/-- passes of a rule; NoRule of what is none -/
def spHPasses (K : PySem.W.Frag) (C CN : Addr) : Sp := fun vs H Q E => ∃ (a : Addr) (x : V) (L : Lore), vs = [.ref a, x] ∧ L.Ok ∧ HouseObj K C H L a ∧
  ((∃ r, r ∈ L.rs ∧ x = .str r.1 ∧ ∀ t ys, SqT K H t ys → PassesAt K H r.2 ys → Q (.ref t) H) ∨
   (((∃ s, x = .str s ∧ s ∉ L.names) ∨ NoStr K H x) ∧ ∀ H' d, Same H H' → H d = none → H' d = some (.xd [("value", x)]) → E (.ref CN) (some d) H'))
section
variable {P : Program} {w : World} {K : PySem.W.Frag} {mg : Str → Option Value} {base : Heap}
theorem ok_oe_init {fI : Addr} {fd : FuncData} (F : Fun K "__init__" "OrderError.__init__" s_OrderError___init__ fI fd) (gV : mg "ValueError" = none) (vV : PySem.W.findCls K (.type "ValueError") (.type "type") "__init__" = some (.val (.builtin "ValueError.__init__"))) : FnOk P w K mg base CX0 1 fI fd ["self", "value"] (spInit K) := by
  refine F.ok sc_OrderError___init__ (fun vs H Q E h => ?_) (fun cdv A outer s H vs Q E hr h => ?_)
  · obtain ⟨a, C, v, rfl, _⟩ := h
    rfl
  · obtain ⟨a, C, v, rfl, ha, ho, hn, k⟩ := h
    refine ⟨_, pss_cons (ps_expr (pe_veinit (by rfl) gV vV (pa_cons (pv 0) (pa_cons (pv 1) pa_nil)))) (pss_one (ps_ost (pv 0) (pv 1))), ?_⟩
    refine ⟨_, rfl, _, rfl, a, C, [v], rfl, (by show 1 ≤ 1000; decide), ho, ha, ?_⟩
    exact ⟨_, rfl, _, rfl, a, C, rfl, ho, hn, .inl ⟨ha, fun dx hd ne => k dx hd ne⟩⟩
theorem ok_h_passes {f C fin CN CO fI : Addr} {fd fdin fdI : FuncData} (F : Fun K "passes" "House.passes" s_House_passes f fd) (T : HouseT K C)
    (GI : FnOk P w K mg base CX0 1 fin fdin ["self", "value"] (spHIn K C)) (bin : Binds K fdin ["self", "value"] []) (hfin : PySem.W.findIn K (.ref C) "__contains__" = some (some (.ref fin))) (hfn : PySem.W.isFn K (.ref fin) = true)
    (TN : ErrB K CN CO fI) (GO : FnOk P w K mg base CX0 1 fI fdI ["self", "value"] (spInit K)) (bI : Binds K fdI ["self", "value"] []) (tI : PySem.W.typeIn K (.ref fI) = some (.type "function")) (gNoRule : mg "NoRule" = some (.ref CN)) :
    FnOk P w K mg base (CX P w) 3 f fd ["self", "rule"] (spHPasses K C CN) := by
  refine F.okX sc_House_passes (fun vs H Q E h => ?_) (fun cdv A outer s H vs Q E hr h => ?_)
  · obtain ⟨a, x, L, rfl, _⟩ := h
    rfl
  · obtain ⟨a, x, L, rfl, ok, ho, k⟩ := h
    refine ⟨_, pss_cons (ps_if (pt_cmpR (op_notInM GI (hr.mono (by decide)) hfin hfn bin pass0) (pv 1) (pv 0) rfl) (pss_one (ps_raise rfl (takes_of rfl rfl rfl rfl) (pmk_oex TN.ox TN.iC tI GO hr bI .nil pass0 (by rfl) gNoRule (pa_cons (pv 1) pa_nil)))) pss_nil) (PSs.nox (pss_one (ps_ret (pe_dget (hu_of hr) (pe_fld (pv 0) rfl) (pv 1) (fun _ _ => rfl))))), ?_⟩
    obtain ⟨dx, sa, tr, d, m, h1, h2⟩ := id ho
    have hro : ((∃ s, x = .str s ∧ s ∉ L.names) ∨ NoStr K H x) → (∀ H' d, Same H H' → H d = none → H' d = some (.xd [("value", x)]) → E (.ref CN) (some d) H') →
        tMkO CN (spInit K) [] (tCons (tVar 1) tNil) (L2.start ["self", "rule"] [V.ref a, x]) H fun cls d H' => E cls d H' := fun _ k => by
      refine ⟨_, rfl, (by show 1 ≤ 1000; decide), fun e he => ⟨e, CN, x, rfl, upd_same, TN.ox, TN.no, fun dd hdd ne => ⟨rfl, dd, [("value", x)], upd_same, by rw [upd_ne ne, upd_same], ?_, ?_⟩⟩⟩
      · rw [upd_ne ne] at hdd
        exact hdd
      · have hd0 : H dd = none := by
          rw [upd_ne ne] at hdd
          exact hdd
        refine k _ dd (fun b o eb => ?_) hd0 upd_same
        have b1 : b ≠ dd := ne_of_none eb hd0
        have b2 : b ≠ e := ne_of_none eb he
        rw [upd_ne b1]
        show (if b = e then none else _) = some o
        rw [if_neg b2, upd_ne b2, upd_ne b1, upd_ne b2]
        exact eb
    rcases k with ⟨r, hr1, rfl, k⟩ | ⟨hx, k⟩
    · have mem : r.1 ∈ L.names := List.mem_map.mpr ⟨r, hr1, rfl⟩
      refine ⟨_, rfl, _, rfl, a, dx, _, rfl, h1, a, _, L, rfl, ho, .inl ⟨r.1, rfl, _, rfl, _, rfl, ?_⟩⟩
      rw [decide_eq_true mem]
      refine iteF ?_
      obtain ⟨kvs, hd, ra⟩ := h2.ps
      obtain ⟨i, hi, ei⟩ := List.getElem_of_mem hr1
      have ri : L.rs[i]? = some r := by rw [List.getElem?_eq_getElem hi, ei]
      obtain ⟨kv, hkv⟩ : ∃ kv, kvs[i]? = some kv := ⟨_, List.getElem?_eq_getElem (by rw [ra.1]; exact hi)⟩
      obtain ⟨ek, t, ys, ev, q, pa⟩ := ra.2 i kv r hkv ri
      have hnd : (kvs.map (·.1)).Nodup := by
        rw [rules_keys ra]
        exact nodup_inr ok.2.2.2.2.2.2
      have hv := valV_at hnd hkv
      rw [ek, ev] at hv
      exact ⟨_, rfl, a, C, dx, _, .ref d, rfl, h1, T.cl, T.n6, hf_passes, _, rfl, d, .ref t, rfl, .inl ⟨kvs, Sum.inr r.1, .inl hd, rfl, hv.symm⟩, k t ys q pa⟩
    · refine ⟨_, rfl, _, rfl, a, dx, _, rfl, h1, a, x, L, rfl, ho, ?_⟩
      rcases id hx with ⟨z, rfl, nm⟩ | hn
      · refine .inl ⟨z, rfl, _, rfl, _, rfl, ?_⟩
        rw [decide_eq_false nm]
        exact iteT (hro hx k)
      · exact .inr ⟨hn, _, rfl, _, rfl, iteT (hro hx k)⟩
end
end K1
set_option Elab.async false
set_option linter.all false
set_option maxRecDepth 100000
set_option maxHeartbeats 4000000
namespace K1
open PySem PySem.Spec PyProof.Rows L2 Kb Kc Kn
/-! ### an error that was caught, and is kept behind the suite -/
def exq (a : Addr) (cls : Value) (d : Option Addr) : HO := .ext fun h => ∃ (oe : Obj) (vs : Array Value), h.get? a = some oe ∧ Zc cls d oe ∧ oe.data = .fields vs
section
variable {X : Cx} {pins : List (Addr × Obj)} {σ : L2.St} {H : Hp} {s : Shared} {a : Addr} {cls : Value} {d : Option Addr}
theorem exq_ok {P : Program} {w : World} {h : Heap} {oe : Obj} {vs : Array Value} (e : h.get? a = some oe) (z : Zc cls d oe) (hd : oe.data = .fields vs) : ObjOk P w H h a (exq a cls d) :=
  ⟨⟨oe, vs, e, z, hd⟩, ⟨oe, e⟩, fun _ _ ⟨o, v, q, r⟩ k => ⟨o, v, k o q, r⟩⟩
theorem exq_at {P : Program} {w : World} {h : Heap} (hok : HOk P w H h) (e : H a = some (exq a cls d)) : ∃ (oe : Obj) (vs : Array Value), h.get? a = some oe ∧ Zc cls d oe ∧ oe.data = .fields vs := by
  have x : ObjOk P w H h a (.ext fun h => ∃ (oe : Obj) (vs : Array Value), h.get? a = some oe ∧ Zc cls d oe ∧ oe.data = .fields vs) := hok a _ e
  exact x.1
/-- an object of the frame that was left alone is looked at from now on -/
theorem inv_track {oe : Obj} {vs : Array Value} (I : Inv X pins σ H s) (he : s.heap.get? a = some oe) (z : Zc cls d oe) (hd : oe.data = .fields vs) (na : H a = none) (nL : a ≠ X.env.locals) (nS : X.s_0.heap.get? a = none)
    (np : ∀ p ∈ X.pn ++ pins, p.1 ≠ a) : Inv X pins σ (upd H a (exq a cls d)) s where
  ok := I.ok
  os := I.os
  bare := I.bare
  base := {
    keep := I.base.keep
    slot := I.base.slot
    free := fun b o e n x => by rw [upd_ne (fun q => by rw [q, nS] at e; cases e)]; exact I.base.free b o e n x
    there := I.base.there
    tups := fun b xs e => by
      have h1 := I.base.tups b xs e
      rw [upd_ne (ne_of_none h1 na)]
      exact h1
    frzs := fun b o u e => by
      have h1 := I.base.frzs b o u e
      rw [upd_ne (ne_of_none h1 na)]
      exact h1
    tbls := fun b ps e => by
      obtain ⟨m, h1⟩ := I.base.tbls b ps e
      exact ⟨m, by rw [upd_ne (ne_of_none h1 na)]; exact h1⟩ }
  loc := I.loc
  cell := I.cell
  free := by rw [upd_ne (Ne.symm nL)]; exact I.free
  freeC := fun x c e => by
    obtain ⟨v, o, ho, hc⟩ := I.cell x c e
    have : c ≠ a := fun q => by
      rw [q, he] at ho
      cases ho
      rw [hd] at hc
      cases hc
    rw [upd_ne this]
    exact I.freeC x c e
  pin := fun p hp => by
    obtain ⟨h1, h2, h3⟩ := I.pin p hp
    exact ⟨h1, by rw [upd_ne (np p hp)]; exact h2, h3⟩
  hok := fun b o e => by
    by_cases q : b = a
    · subst q
      rw [upd_same] at e
      cases e
      exact exq_ok he z hd
    · rw [upd_ne q] at e
      refine (I.hok b o e).stay (fun _ _ _ q => q) (fun c h1 => ?_) fun c xs h1 => ?_
      · rw [upd_ne (ne_of_none h1 na)]
        exact h1
      · rw [upd_ne (ne_of_none h1 na)]
        exact h1
  len := I.len
/-- an error of the class at C, held, whose own dict is known -/
def HeldAt (H : Hp) (a C dx : Addr) (fs : List (Str × V)) : Prop := H a = some (exq a (.ref C) (some dx)) ∧ H dx = some (.xd fs)
theorem HeldAt.same {H H' : Hp} {a C dx : Addr} {fs : List (Str × V)} (s : Same H H') (h : HeldAt H a C dx fs) : HeldAt H' a C dx fs := ⟨s _ _ h.1, s _ _ h.2⟩
theorem held_inst {C dx : Addr} {fs : List (Str × V)} (I : Inv X pins σ H s) (e : HeldAt H a C dx fs) :
    ∃ oe od, PySem.W.InstAt s.heap a oe C (some od) ∧ ∃ mA : Str → Option Value, (∀ f, RelO (fs.lookup f) (mA f)) ∧ ∀ f, PySem.W.lookIn f od = some (mA f) := by
  obtain ⟨oe, vs, he, ⟨z1, z2⟩, hd⟩ := exq_at I.hok e.1
  obtain ⟨mA, hn, hr⟩ : ∃ mA, s.heap.Ns1 dx mA ∧ ∀ f, RelO (fs.lookup f) (mA f) := I.hok dx _ e.2
  obtain ⟨od, ho, hl⟩ := lookIn_ns hn
  refine ⟨oe, od, ⟨he, z1, ?_, ?_⟩, mA, hr, hl⟩
  · obtain ⟨c, di, da, sl⟩ := oe
    cases hd
    rfl
  · rw [z2]
    exact ho
def rIsH (K : PySem.W.Frag) : List V → Hp → VK → Prop := fun xs H Q => ∃ (a C dx : Addr) (fs : List (Str × V)) (c : V) (cv : Value) (b : Bool), xs = [.ref a, c] ∧ HeldAt H a C dx fs ∧ ExcC K C ∧ ClsV c cv ∧ PySem.W.kitOne K (.ref C) cv = some b ∧ Q (.bl b) H
theorem call_isH : CallR X (.builtin "isinstance") (rIsH X.K) := by
  intro pins s σ H xs us Q I r h
  obtain ⟨a, C, dx, fs, c, cv, b, rfl, he, hC, hc, hk, q⟩ := h
  obtain ⟨u1, u2, rfl, r1, r2⟩ := vals2 r
  cases r1
  have e2 := hc.eq r2
  subst e2
  obtain ⟨oe, od, J, _⟩ := held_inst I he
  exact PySem.W.kia_one (kitx_err hC) I.kIn J hk (fun z => nomatch z) fun tk => ⟨.bl b, H, I.tok tk, rfl, q⟩
/-- a held error's field -/
def tHeldF (K : PySem.W.Frag) (f : Str) (te : TE) : TE := fun σ H Q => te σ H fun x H1 => ∃ (a C dx : Addr) (fs : List (Str × V)) (v : V), x = .ref a ∧ HeldAt H1 a C dx fs ∧ ExcC K C ∧ PySem.W.findIn K (.ref C) f = some none ∧ fs.lookup f = some v ∧ Q v H1
theorem pe_heldF {e : Expr} {te : TE} {f : Str} {pos : Pos} (he : PE X e te) (hb : attributeBase e f X.env (eval e X.env) = eval e X.env := by rfl) : PE X (.Attribute e f pos) (tHeldF X.K f te) := by
  refine ⟨fun pins s σ H Q I h => ?_⟩
  refine attr_of hb (thn (he.run pins s σ H _ I h) fun u s1 ⟨x, H1, I1, rx, a, C, dx, fs, v, ex, ea, hC, hno, l, q⟩ => ?_)
  subst ex
  obtain rfl : u = Value.ref a := rx
  obtain ⟨oe, od, J, mA, hr, hl⟩ := held_inst I1 ea
  obtain ⟨u, hu, ru⟩ := RelO.some_of (v := v) (o := mA f) (by rw [← l]; exact hr f)
  exact HandSPX.exc_get I1.kIn J hC.hg hC.hk hC.hs (PySem.W.findObj_own hC.hd hno rfl (by rw [hl, hu])) (handed_of ru) ⟨v, H1, I1.tok _, ru, q⟩
end
end K1
set_option Elab.async false
set_option linter.all false
set_option maxRecDepth 100000
set_option maxHeartbeats 4000000
namespace K1
open PySem PySem.Spec PyProof.Rows L2 Kb Kc Kn
/-! ### try: body / except X as n: m = n, where all that leaves the body is an X: m is looked at from then on -/
def wKeep (K : PySem.W.Frag) (c : Value) (i j : Nat) (D : Ends) : WX := fun cls d σ H =>
  PySem.W.exmOne K cls c = some true ∧ ∀ a, H a = none → D.nx (((σ.set i (some (.ref a))).set j (some (.ref a))).set i none) (upd H a (exq a cls d))
section
variable {X : Cx} {x n : Str} {c : Value} {i j : Nat} {body : List Stmt} {b₀ : Stmt} {np pos pos' : Pos} {tb : WX → TS} {pins : List (Addr × Obj)} {σ : L2.St} {H : Hp} {D : Ends}
/-- a caught error's object is none of the frames', and new since the def's start -/
theorem keep_new {a : Addr} {B : Heap} {sI : Shared} {h3 : Heap} {oe : Obj} {vs : Array Value} (hs : X.stack = X.env :: X.outer) (hf : X.env.frame = some X.env.locals) (hex : X.ex = []) (J : Inv X pins σ H sI)
    (nb : ∀ b o, sI.heap.get? b = some o → b ∉ frs X.stack → B.get? b = some o) (hB : B.get? a = none) (ff : h3.FunFrames B (X.env :: X.outer)) (he : h3.get? a = some oe) (hd : oe.data = .fields vs) :
    a ≠ X.env.locals ∧ a ∉ X.fs ∧ X.s_0.heap.get? a = none ∧ ∀ p ∈ X.pn ++ pins, p.1 ≠ a := by
  have out : a ∉ frs (X.env :: X.outer) := fun hm => by
    obtain ⟨_, o', e', nf⟩ := ff.mem hm
    rw [he] at e'
    cases e'
    exact nf _ hd
  have mem : ∀ {b : Addr}, b ∈ X.env.locals :: X.fs → b ∈ frs (X.env :: X.outer) := fun {b} hb => by
    rcases List.mem_cons.mp hb with e | hb
    · exact List.mem_filterMap.mpr ⟨X.env, .head _, by rw [hf, e]⟩
    · obtain ⟨e, he, q⟩ := List.mem_filterMap.mp hb
      exact List.mem_filterMap.mpr ⟨e, .tail _ he, q⟩
  have sIn : sI.heap.get? a = none := by
    cases e : sI.heap.get? a with
    | none => rfl
    | some o =>
      have := nb a o e (by rw [hs]; exact out)
      rw [hB] at this
      cases this
  refine ⟨fun z => out (mem (by rw [z]; exact .head _)), fun m => out (mem (.tail _ m)), ?_, fun p hp z => ?_⟩
  · cases e : X.s_0.heap.get? a with
    | none => rfl
    | some o =>
      obtain ⟨o', e'⟩ := J.base.there a o e (by rw [hex]; exact fun z => nomatch z)
      rw [sIn] at e'
      cases e'
  · have := (J.pin p hp).1
    rw [z, sIn] at this
    cases this
theorem ps_try_keep (hs : X.stack = X.env :: X.outer) (hf : X.env.frame = some X.env.locals) (hex : X.ex = []) (hN : X.N.Nodup) (hi : X.N[i]? = some n) (hln : X.env.kindOf n = some .local) (hc : Names X x c)
    (hb : ∀ (W : WX) (pn : List (Addr × Obj)) (xe : Value → Shared → Prop), Takes (X.tr pn xe) W → PassesOwn (model X.prog X.w) X.A X.env xe → PSs (X.tr pn xe) body (tb W))
    (hsu : ∀ (a : Addr) (oe : Obj) (pn : List (Addr × Obj)), PSs (X.suite a ((a, oe) :: pn)) [b₀] (tAsg (tVar i) (gName j))) :
    PS X (.Try body [.ExceptHandler (some (.Name x np)) (some n) [b₀] pos'] [] [] pos) (fun D σ H => tb (wKeep X.K c i j D) D σ H) := by
  refine ⟨fun pins s σ H D I h => wpAny_Try_except ?_⟩
  have ok := I.ok
  have hfr : X.A.frames = some (X.env :: X.outer) := by rw [ok.frames, hs]
  refine wpAny_mono ((hb (wKeep X.K c i j D) (X.pn ++ pins) (fun e s₁ => wpAny (model X.prog X.w) X.A (noteFrame e X.env) (fun _ s₂ => wpAny (model X.prog X.w) X.A (setFlight e none) (fun _ s₃ =>
    wpAny (model X.prog X.w) X.A (handleBy e X.env [.ExceptHandler (some (.Name x np)) (some n) [b₀] pos']) (SP X pins D) X.xe s₃) X.xe s₂) X.xe s₁) (fun u s' hit => ?_) PassesOwn.looking).run [] s σ H D (I.toTry _) h) (fun f s1 hsp => ?_) (fun e s1 he => he)
  · obtain ⟨a, B, sI, p', σ', H', cls, d, rfl, J', nb, up, sky, na, os, ag, hm, hk⟩ := hit
    have J : Inv X pins σ' H' sI := J'.ofTry ok
    refine Sky.land Zc.steady hfr hf (by rw [← hs]; exact sky) fun h3 fl3 up3 => ?_
    obtain ⟨oe3, vs3, he3, hz3, hd3⟩ := fl3.there
    obtain ⟨nL, nF, nS, nP⟩ := keep_new hs hf hex J nb fl3.2.1 fl3.2.2.1 he3 hd3
    have S3 := (J.landed (s' := { s' with heap := h3 }) nb fl3.1 (up.trans up3) os ag).suite he3 hd3 na nL nF
    refine wpAny_handleBy_cons (codeAny_handlers_test ?_) (by intro q; cases q)
    have named : ∀ {Q E : Value → Shared → Prop}, Q c { s' with heap := h3 } → wpAny (model X.prog X.w) (X.A.mark (some (.ref a))) (eval (.Name x np) X.env) Q E { s' with heap := h3 } := fun {Q E} q => by
      rcases hc with ⟨hg, hdbg, hm | ⟨hm, hv, hnn⟩⟩
      · exact ld_glob (X := X.suite a ((a, oe3) :: (X.pn ++ pins))) S3 hg hm q hdbg
      · exact ld_blt (X := X.suite a ((a, oe3) :: (X.pn ++ pins))) S3 hg hm hv q hnn hdbg
    refine named ((PySem.W.exm_one (M := model X.prog X.w) S3.kIn (fun A Q E s k q => wpAny_typeOf_ref (k _ _ he3) (by rw [hz3.1]; exact q)) hm).here ?_)
    refine codeAny_handlers_suite_as (HandSPX.lands_againZ fl3 fun h4 fl4 up4 => ?_)
    obtain ⟨oe4, vs4, he4, hz4, hd4⟩ := fl4.there
    have S4 := (J.landed (s' := { s' with heap := h4 }) nb fl4.1 ((up.trans up3).trans up4) os ag).suite he4 hd4 na nL nF
    have li : i < σ'.length := by
      rw [J.len]
      exact (List.getElem?_eq_some_iff.mp hi).1
    refine store_ok (X := X.suite a ((a, oe4) :: (X.pn ++ pins))) (v := .ref a) S4 hN hi (.inl hln) rfl (fun s5 S5 => ?_) (.inr hln)
    refine wpAny_mono ((hsu a oe4 (X.pn ++ pins)).run [] s5 _ H' { nx := fun σ6 H6 => σ6 = (σ'.set i (some (.ref a))).set j (some (.ref a)) ∧ H6 = H', rt := fun _ _ => False, bk := fun _ _ => False, ct := fun _ _ => False } S5 ⟨.ref a, by rw [List.getElem?_set_self li], rfl, rfl⟩) (fun f s6 hsp => ?_) (fun _ _ z => False.elim z)
    cases f with
    | next =>
      obtain ⟨σ6, H6, S6, e1, e2⟩ := hsp
      subst e1 e2
      have there := (S6.pin (a, oe4) (List.mem_append_left _ (.head _))).1
      exact gone_ok (inv_track (S6.unsuite ok) there hz4 hd4 na nL nS nP) hN hi hln fun s7 J7 => ⟨_, _, J7, hk a na⟩
    | brk =>
      obtain ⟨_, _, _, q⟩ := hsp
      exact False.elim q
    | cont =>
      obtain ⟨_, _, _, q⟩ := hsp
      exact False.elim q
    | ret u =>
      obtain ⟨_, _, _, _, _, q⟩ := hsp
      exact False.elim q
  · cases f with
    | next =>
      obtain ⟨σ', H', J', q⟩ := hsp
      exact wpAny_execs_nil ⟨σ', H', J'.ofTry ok, q⟩
    | brk =>
      obtain ⟨σ', H', J', q⟩ := hsp
      exact ⟨σ', H', J'.ofTry ok, q⟩
    | cont =>
      obtain ⟨σ', H', J', q⟩ := hsp
      exact ⟨σ', H', J'.ofTry ok, q⟩
    | ret u =>
      obtain ⟨v', σ', H', J', r, q⟩ := hsp
      exact ⟨v', σ', H', J'.ofTry ok, r, q⟩
end
end K1
set_option Elab.async false
set_option linter.all false
set_option maxRecDepth 100000
set_option maxHeartbeats 4000000
namespace K1
open PySem PySem.Spec PyProof.Rows L2 Kb Kc Kn LamX
/-! ### a lambda that may raise, called in a try of the def that got it: the slots at the call are known to the except clause -/
section
variable {X : Cx} {pins : List (Addr × Obj)} {σ : L2.St} {H : Hp} {s : Shared}
/-- what a call of the lambda does, as an outcome of its own -/
theorem lam_run {f c' : Addr} {pm ctv : Value} {params : Arguments} {body : Expr} {scope : Scope} {k : Nat} {E : XK} {tb : TE} {A : Around} {outer : List Env} {s1 : Shared} {HZ : Hp} {Q : VK}
    (I : Inv X pins σ H s) (L : LamS X.env.scope scope) (e0 : Env0 X.prog X.w X.K X.mg X.base A outer s1 HZ) (un : Un (frs X.stack) [] H HZ s.heap s1.heap) (nl : s1.heap.NoLimit) (hr : Room (k + 1) A)
    (of1 : s1.heap.get? f = some (PySem.W.kla_obj "<lambda>" (X.env.qual ++ "<lambda>") params body scope (cloFrom X.env.cells scope.names []) pm c' ctv)) (hc : HZ c' = some (CodeO c' (X.env.qual ++ "<lambda>")))
    (hbind : bindArgs (PySem.W.kla_fn "<lambda>" (X.env.qual ++ "<lambda>") params body scope (cloFrom X.env.cells scope.names []) pm (.ref c') ctv) ⟨[], []⟩ = pure [])
    (hbody : ∀ (A : Around) (outer : List Env) (s : Shared) (H : Hp), Room k (A.deeper (lamEnv X scope s.heap.objs.size f c')) → PE (lamCx X A outer s H E scope f c') body tb)
    (ht : tb σ HZ Q) : codeAny (model X.prog X.w) A (.call (.ref f) ⟨[], []⟩) (CR (L2.CX X.prog X.w) outer X.prog X.w HZ s1 Q E) s1 := by
  obtain ⟨⟨oc, vs, t, hoc, hdc, hvc⟩, _, _⟩ := e0.hok c' _ hc
  refine PySem.W.kla_callFunE hr.depth of1 rfl L.co L.gen rfl ⟨c', oc, vs, t, rfl, hoc, hdc, hvc⟩ ?_
  rw [hbind]
  refine wpAny_pure (wpAny_newFunctionEnv (fun y hy => (L.own y hy).2) (fun y hy => absurd hy (by simp)) (fun h₁ hns hsb => ⟨nl.fresh _ hsb, ?_⟩) L.kind)
  have start : Inv (lamCx X A outer s1 HZ E scope f c') [] σ HZ { s1 with heap := h₁, toks := s1.toks + ([] : List (Str × Value)).length } :=
    lam_start2 I L e0 hr.hd un hns fun b o e => hsb.extBut b o (Nat.ne_of_lt (Heap.lt_size e)) (Heap.get?_push_of_some _ e)
  refine PySem.W.kla_codeExpr (wpAny_mono ((hbody A outer s1 HZ (hr.deeper _)).run [] _ _ HZ Q start ht) (fun v s' hq => ?_) fun e s' hq => hq)
  obtain ⟨w', H', J, r, q⟩ := hq
  exact ⟨w', H', J.os, J.bare, J.base, J.hok, r, q⟩
/-- x(), in a context Z of the def that got it; W speaks of Z's slots as they are at the call -/
def Acts (Z : Cx) (a : Str) (f c' : Addr) (q : Str) (tl : XK → Hp → VK → Prop) : Prop :=
  ∀ (pn : List (Addr × Obj)) (xe : Value → Shared → Prop) (W : WX) (E : XK) (p1 p2 : Pos) (pz : List (Addr × Obj)) (sz : Shared) (σz : L2.St) (Hz : Hp) (Q : VK), Takes (Z.tr pn xe) W → (∀ cls d H', E cls d H' → W cls d σz H') →
    Inv (Z.tr pn xe) pz σz Hz sz → σz[0]? = some (some (.ref f)) → Hz c' = some (CodeO c' q) → tl E Hz Q →
    wpAny (model Z.prog Z.w) Z.A (eval (.Call (.Name a p1) [] [] p2) Z.env) (EP (Z.tr pn xe) pz σz Q) xe sz
theorem acts_of {Ng : List Str} {qg : Str} {sg : Scope} {g f c' : Addr} {cdg pm ctv : Value} {params : Arguments} {body : Expr} {scope : Scope} {k : Nat} {a : Str} {t : XK → TE}
    (I : Inv X pins σ H s) (L : LamS X.env.scope scope) (hf : s.heap.get? f = some (PySem.W.kla_obj "<lambda>" (X.env.qual ++ "<lambda>") params body scope (cloFrom X.env.cells scope.names []) pm c' ctv)) (hfn : H f = none) (hfr : f ∉ frs X.stack)
    (hbind : bindArgs (PySem.W.kla_fn "<lambda>" (X.env.qual ++ "<lambda>") params body scope (cloFrom X.env.cells scope.names []) pm (.ref c') ctv) ⟨[], []⟩ = pure [])
    (hr : Room (k + 1) (X.A.deeper (envOfC qg sg s.heap.objs.size g cdg)))
    (hbody : ∀ (A : Around) (outer : List Env) (s : Shared) (H : Hp) (E : XK), Room k (A.deeper (lamEnv X scope s.heap.objs.size f c')) → PE (lamCx X A outer s H E scope f c') body (t E))
    (hN : Ng[0]? = some a) (hv : Vis sg a) (hd : (a == ("__debug__" : Str)) = false := by decide) (hcd : (a == ("__classdict__" : Str)) = false := by decide) :
    Acts (cxOf C8.CX0 X.prog X.w X.K X.mg X.base Ng qg sg g cdg X.A X.stack s H C8.E0) a f c' (X.env.qual ++ "<lambda>") (fun E H' Q' => t E σ H' Q') := by
  intro pn xe W E p1 p2 pz sz σz Hz Q tk hW Iz hs hc ht
  refine wpAny_Call_Name_kw (thn ((pe_var (X := (cxOf C8.CX0 X.prog X.w X.K X.mg X.base Ng qg sg g cdg X.A X.stack s H C8.E0).tr pn xe) (pos := p1) (i := 0) hN hv hd hcd).run pz sz σz Hz (fun v H1 => v = .ref f ∧ H1 = Hz) Iz ⟨.ref f, hs, rfl, rfl⟩) fun u s1 ⟨v, H1, I1, r1, ev, eH⟩ => ?_)
  subst ev
  rw [eH] at I1
  obtain rfl : u = Value.ref f := r1
  have of1 := I1.base.keep f _ hf hfn hfr (fun z => nomatch (show f ∈ ([] : List Addr) from z))
  refine PySem.W.callWith_F0 ⟨_, _, _, _, of1⟩ ?_
  have un : Un (frs X.stack) [] H Hz s.heap s1.heap := I1.base
  have e0 : Env0 X.prog X.w X.K X.mg X.base (X.A.deeper (envOfC qg sg s.heap.objs.size g cdg)) (envOfC qg sg s.heap.objs.size g cdg :: X.stack) s1 Hz := I1.env0
  have nl : s1.heap.NoLimit := I1.nolimit
  have rc : codeAny (model X.prog X.w) (X.A.deeper (envOfC qg sg s.heap.objs.size g cdg)) (.call (.ref f) ⟨[], []⟩) (CR (L2.CX X.prog X.w) (envOfC qg sg s.heap.objs.size g cdg :: X.stack) X.prog X.w Hz s1 Q E) s1 :=
    lam_run (tb := t E) I L e0 un nl hr of1 hc hbind (fun A outer s H hr2 => hbody A outer s H E hr2) ht
  refine wpAny_call (codeAny_mono rc fun r s' hq => ?_)
  cases r with
  | error e => exact tk e s' (XE.of_call I1 (fun cls d H' h => hW cls d H' h) hq)
  | ok fl =>
    cases fl with
    | ret u => exact I1.after hq
    | next => exact False.elim hq
    | brk => exact False.elim hq
    | cont => exact False.elim hq
end
end K1
set_option Elab.async false
set_option linter.all false
set_option maxRecDepth 100000
set_option maxHeartbeats 4000000
namespace K1
open PySem PySem.Spec PyProof.Rows L2 Kb Kc Kn LamX
abbrev s__law_told : Stmt := top 56
theorem sc__law_told : FnScope ["_law_look", "_law_caught", "_law_back", "error"] ["_law_look"] (defScope s__law_told) := ⟨rfl, rfl, rfl, by decide +kernel, rfl, by decide +kernel, by decide +kernel⟩
/-- the def that calls what it got, where the call may raise -/
def Gives2 (X : Cx) (Ng : List Str) (x : Str) (sg : Scope) (g : Addr) (cdg : Value) (bg : List Stmt) (a : Str) (q : Str) (TT : (XK → Hp → VK → Prop) → Hp → VK → Prop) : Prop :=
  ∀ (f c' : Addr) (s : Shared) (H : Hp) (Q : VK) (tl : XK → Hp → VK → Prop), Acts (cxOf C8.CX0 X.prog X.w X.K X.mg X.base Ng x sg g cdg X.A X.stack s H C8.E0) a f c' q tl →
    H c' = some (CodeO c' q) → TT tl H Q →
    ∃ t, PSs (cxOf C8.CX0 X.prog X.w X.K X.mg X.base Ng x sg g cdg X.A X.stack s H C8.E0).nox bg t ∧ t { nx := fun _ H' => Q .non H', rt := Q } (L2.start Ng [.ref f]) H
/-- (the error, None), the error looked at from then on; or (None, what came back) -/
def TTk (K : PySem.W.Frag) (CO : Addr) : (XK → Hp → VK → Prop) → Hp → VK → Prop := fun tl H Q => ∀ H1, Same H H1 →
  tl (fun cls d H' => PySem.W.exmOne K cls (.ref CO) = some true ∧ ∀ a, H' a = none → ∀ t, upd H' a (exq a cls d) t = none → Q (.ref t) (upd (upd H' a (exq a cls d)) t (.tup [.ref a, .non]))) H1
    fun v H' => ∀ t, H' t = none → Q (.ref t) (upd H' t (.tup [.non, v]))
section
variable {X : Cx}
theorem told_gives2 {q : Str} {g CO : Addr} {cdg : Value} (hme : X.mg "OrderError" = some (.ref CO)) : Gives2 X ["_law_look", "_law_caught", "_law_back", "error"] "_law_told" (defScope s__law_told) g cdg (defBody s__law_told) "_law_look" q (TTk X.K CO) := by
  intro f c' s H Q tl act hc h
  refine ⟨_, pss_cons (ps_asg (pe_tup (pa_cons pe_non (pa_cons pe_non pa_nil))) (pg_tup rfl (pgs_cons (pg_name (i := 1) sc__law_told.nd rfl (Or.inl rfl)) (pgs_cons (pg_name (i := 2) sc__law_told.nd rfl (Or.inl rfl)) pgs_nil)))) (pss_cons (ps_try_keep (i := 3) (j := 1) (c := .ref CO)
    (tb := fun W => tAsg (fun σz Hz Q => ∃ (E : XK) (Q1 : VK), (∀ cls d H', E cls d H' → W cls d σz H') ∧ (∀ v H', Q1 v H' → Q v H') ∧ σz[0]? = some (some (.ref f)) ∧ Hz c' = some (CodeO c' q) ∧ tl E Hz Q1) (gName 2))
    rfl rfl rfl sc__law_told.nd rfl rfl ⟨(by rfl), by decide, .inl hme⟩ (fun W pn xe tk _ => pss_one (ps_set (i := 2) sc__law_told.nd rfl (Or.inl rfl) ⟨fun pz sz σz Hz Qz Iz ⟨E, Q1, hW, hQ, h1, h2, h3⟩ => wpAny_mono (act pn xe W E _ _ pz sz σz Hz Q1 tk hW Iz h1 h2 h3) (fun u s' ⟨v, H', J, r, q⟩ => ⟨v, H', J, r, hQ v H' q⟩) fun e s' h => h⟩)) (fun a oe pn => pss_one (ps_set (i := 1) sc__law_told.nd rfl (Or.inl rfl) (pv 3)))) (pss_one (ps_ret (pe_tup (pa_cons (pv 1) (pa_cons (pv 2) pa_nil)))))), ?_⟩
  refine ⟨(by show 2 ≤ sizeLine; decide), fun t0 ht0 => ⟨t0, _, rfl, .of upd_same, rfl, _, _, rfl, _, _, rfl, rfl, ?_⟩⟩
  have S := Kb.same_upd (o := .tup [.non, .non]) ht0
  exact ⟨_, _, fun cls d H' he => ⟨he.1, fun a na => ⟨_, rfl, _, rfl, (by show 2 ≤ sizeLine; decide), fun t ht => he.2 a na t ht⟩⟩, fun v H' hv => ⟨_, rfl, _, rfl, (by show 2 ≤ sizeLine; decide), fun t ht => hv t ht⟩, rfl, S _ _ hc, h _ S⟩
end
end K1
set_option Elab.async false
set_option linter.all false
set_option maxRecDepth 100000
set_option maxHeartbeats 4000000
namespace K1
open PySem PySem.Spec PyProof.Rows L2 Kb Kc Kn LamX
section
variable {X : Cx}
/-- x(lambda: body), x a def that may catch what the lambda raises -/
theorem pe_lam2 {T : List (Addr × Str)} {TT : (XK → Hp → VK → Prop) → Hp → VK → Prop} {x a : Str} {g c P : Addr} {k : Nat} {pg : Arguments} {bg : List Stmt} {sg : Scope} {dV kV doc pm cdv ct oc : Value} {an od : Option Addr} {osl : Array (Option Value)} {Ng : List Str}
    {params : Arguments} {body : Expr} {scope : Scope} {t : XK → TE} {p lpos pos : Pos} (hg : Gl X x) (hm : X.mg x = some (.ref g)) (hk : PySem.W.keepIn X.K (.ref g) = true)
    (lk : X.K.lookup g = some ⟨oc, od, .func (PySem.W.fnOf x x pg bg sg dV kV doc pm an cdv ct), osl⟩) (hcg : PySem.W.codeIn X.K cdv x = true) (hb : L2.Binds X.K (PySem.W.fnOf x x pg bg sg dV kV doc pm an cdv ct) [a] []) (Sg : FnScope Ng [a] sg) (hNg : Ng[0]? = some a) (hva : Vis sg a)
    (hG : Gives2 X Ng x sg g cdv bg a (X.env.qual ++ "<lambda>") TT)
    (TB : TabB X.base X.mg c P) (hcode : X.env.code = .ref c) (hmT : (P, X.env.qual ++ "<lambda>") ∈ T) (hu : ∀ p ∈ T, p.1 = P → p.2 = X.env.qual ++ "<lambda>") (hr : Room (k + 2) X.A) (L : LamS X.env.scope scope) (hdef : defaultsOf params X.env = ([], []))
    (hbind : ∀ (q : Str) (cl : List (Str × Addr)) (pm cv ctv : Value), bindArgs (PySem.W.kla_fn "<lambda>" q params body scope cl pm cv ctv) ⟨[], []⟩ = pure [])
    (hbody : ∀ (A : Around) (outer : List Env) (s : Shared) (H : Hp) (E : XK) (f c' : Addr), Room k (A.deeper (lamEnv X scope s.heap.objs.size f c')) → PE (lamCx X A outer s H E scope f c') body (t E))
    (hdb : (x == ("__debug__" : Str)) = false := by decide) (hd : (a == ("__debug__" : Str)) = false := by decide) (hcd : (a == ("__classdict__" : Str)) = false := by decide) :
    PE X (.Call (.Name x p) [.Lambda params body scope lpos] [] pos) (tLam T TT t) := by
  refine ⟨fun pins s σ H Q I ⟨hT, h⟩ => wpAny_Call_Name_kw (ld_glob I hg hm (PySem.W.callWith_K (h₀ := X.base) I.ok.mod.kin hk ?_ (by rfl) (by rfl)) hdb)⟩
  refine Calls.spliced_cons (lam_make2 I TB hcode hmT hu hT hdef (L.has I.ok) fun f c' pm' ctv H1 s' I1 eN T1 hf hfn hfr hco => Calls.spliced_nil ⟨I1.kIn, ?_⟩)
  have rc : codeAny (model X.prog X.w) X.A (.call (.ref g) ⟨[.ref f], []⟩) (CR C8.CX0 X.stack X.prog X.w H1 s' Q C8.E0) s' := by
    refine run_ofS (N := Ng) (ps := [a]) (us := [.ref f]) (vs := [.ref f]) lk hcg Sg hr I1.env0 (hb s' [.ref f] I1.kIn rfl) (.cons rfl .nil) rfl fun hr' => ?_
    have ac := acts_of (Ng := Ng) (qg := x) (sg := sg) (g := g) (cdg := cdv) (t := t) I1 L hf hfn hfr (hbind _ _ _ _ _) hr' (fun A outer s H E hr2 => hbody A outer s H E f c' hr2) hNg hva hd hcd
    obtain ⟨t', ht', hq'⟩ := hG f c' s' H1 Q (fun E H' Q' => t E σ H' Q') ac hco (h H1 eN T1)
    exact ⟨t', ht'.nox, hq'⟩
  refine wpAny_call (codeAny_mono rc fun r s2 hq => ?_)
  cases r with
  | error e => exact False.elim hq
  | ok fl =>
    cases fl with
    | ret u => exact I1.after hq
    | next => exact False.elim hq
    | brk => exact False.elim hq
    | cont => exact False.elim hq
/-- the same, the name of the def around told by itself -/
theorem pe_lam3 {qv : Str} {T : List (Addr × Str)} {TT : (XK → Hp → VK → Prop) → Hp → VK → Prop} {x a : Str} {g c P : Addr} {k : Nat} {pg : Arguments} {bg : List Stmt} {sg : Scope} {dV kV doc pm cdv ct oc : Value} {an od : Option Addr} {osl : Array (Option Value)} {Ng : List Str}
    {params : Arguments} {body : Expr} {scope : Scope} {t : XK → TE} {p lpos pos : Pos} (hqv : X.env.qual = qv) (hg : Gl X x) (hm : X.mg x = some (.ref g)) (hk : PySem.W.keepIn X.K (.ref g) = true)
    (lk : X.K.lookup g = some ⟨oc, od, .func (PySem.W.fnOf x x pg bg sg dV kV doc pm an cdv ct), osl⟩) (hcg : PySem.W.codeIn X.K cdv x = true) (hb : L2.Binds X.K (PySem.W.fnOf x x pg bg sg dV kV doc pm an cdv ct) [a] []) (Sg : FnScope Ng [a] sg) (hNg : Ng[0]? = some a) (hva : Vis sg a)
    (hG : Gives2 X Ng x sg g cdv bg a (qv ++ "<lambda>") TT)
    (TB : TabB X.base X.mg c P) (hcode : X.env.code = .ref c) (hmT : (P, qv ++ "<lambda>") ∈ T) (hu : ∀ p ∈ T, p.1 = P → p.2 = qv ++ "<lambda>") (hr : Room (k + 2) X.A) (L : LamS X.env.scope scope) (hdef : defaultsOf params X.env = ([], []))
    (hbind : ∀ (q : Str) (cl : List (Str × Addr)) (pm cv ctv : Value), bindArgs (PySem.W.kla_fn "<lambda>" q params body scope cl pm cv ctv) ⟨[], []⟩ = pure [])
    (hbody : ∀ (A : Around) (outer : List Env) (s : Shared) (H : Hp) (E : XK) (f c' : Addr), Room k (A.deeper (lamEnv X scope s.heap.objs.size f c')) → PE (lamCx X A outer s H E scope f c') body (t E))
    (hdb : (x == ("__debug__" : Str)) = false := by decide) (hd : (a == ("__debug__" : Str)) = false := by decide) (hcd : (a == ("__classdict__" : Str)) = false := by decide) :
    PE X (.Call (.Name x p) [.Lambda params body scope lpos] [] pos) (tLam T TT t) := by
  subst hqv
  exact pe_lam2 hg hm hk lk hcg hb Sg hNg hva hG TB hcode hmT hu hr L hdef hbind hbody hdb hd hcd
end
end K1
set_option Elab.async false
set_option linter.all false
set_option maxRecDepth 100000
set_option maxHeartbeats 4000000
namespace K1
open PySem PySem.Spec PyProof.Rows L2 Kb Kc Kn LamX
section
variable {X : Cx} {CX : CXT} {n : Nat} {C f : Addr} {fd : FuncData} {ps : List Str} {sp : Sp} {E : XK}
def rNeM (C : Addr) (sp : Sp) (E : XK) : R2 := fun x y H Q => ∃ (a dx b dy : Addr) (fs gs : List (Str × V)), x = .ref a ∧ y = .ref b ∧ H a = some (.ins C dx fs) ∧ H b = some (.ins C dy gs) ∧ sp [.ref a, .ref b] H (fun v H' => ∃ b, v = .bl b ∧ Q (.bl (!b)) H') E
/-- != by an own __eq__, of two objects of the class -/
theorem op_neM {B : String} {bm : List Value} (F : FnOk X.prog X.w X.K X.mg X.base CX n f fd ps sp) (hr : Room (n + 1) X.A) (FB : CmpFacts B bm) (hC : ∀ {h : Heap} {x : Addr} {o : Obj}, X.K.In h → h.get? x = some o → o.cls = .ref C → h.OwnEqNoNe x C f B bm)
    (hb : Binds X.K fd ps []) (hx : Passes CX X E) : OpR X (compareOp .NotEq) (rNeM C sp E) := by
  intro pins s σ H x y v u Q I rx ry ⟨a, dx, b, dy, fs, gs, ex, ey, hi, hj, hsp⟩
  subst ex ey
  obtain ⟨od, ia⟩ := ins_inst I hi
  obtain ⟨oe, ib⟩ := ins_inst I hj
  cases rx
  cases ry
  obtain ⟨hp, g, d, t, os⟩ := s
  refine compareOp_ne_ownEq FB (hC I.kIn ia.at_ ia.cls) ib.at_ ib.cls (by have := hr.un; omega) ?_
  refine wpAny_mono (runF F rfl (room_in1 hr) hb hx I (vs := [.ref a, .ref b]) (.cons rfl (.cons rfl .nil)) hsp) (fun r s' hq => ?_) fun e s' h => h
  obtain ⟨w, H', I', rw_, k, e, q⟩ := hq
  subst e
  cases rw_
  exact ⟨k, rfl, .bl (!k), H', I', rfl, q⟩
end
end K1
set_option Elab.async false
set_option linter.all false
set_option maxRecDepth 100000
set_option maxHeartbeats 4000000
namespace K1
open PySem PySem.Spec PyProof.Rows L2 Kb Kc Kn
/-! ### texts that can be shown -/
theorem ok_iff {s : Str} : PyData.strOk s = true ↔ ∀ c ∈ s.cps.toList, c < 1114112 := by
  unfold PyData.strOk
  rw [← Array.all_toList, List.all_eq_true]
  exact ⟨fun h c m => of_decide_eq_true (h c m), fun h c m => decide_eq_true (h c m)⟩
theorem ok_join {sep : Str} {ws : List Str} (hs : PyData.strOk sep = true) (h : ∀ w ∈ ws, PyData.strOk w = true) : PyData.strOk (sep.join ws) = true := ok_iff.mpr fun c m => by
  rcases join_mem m with m | ⟨w, hw, m⟩
  · exact ok_iff.mp hs c m
  · exact ok_iff.mp (h w hw) c m
theorem ok_app {a b : Str} (ha : PyData.strOk a = true) (hb : PyData.strOk b = true) : PyData.strOk (a ++ b) = true := ok_iff.mpr fun c m => by
  have m' : c ∈ (a.cps ++ b.cps).toList := m
  rw [Array.toList_append] at m'
  rcases List.mem_append.mp m' with m | m
  · exact ok_iff.mp ha c m
  · exact ok_iff.mp hb c m
theorem ok_cat {ss : List Str} (h : ∀ s ∈ ss, PyData.strOk s = true) : PyData.strOk (cat ss) = true := ok_iff.mpr fun c m => by
  have m' : c ∈ ss.flatMap fun s => s.cps.toList := by simpa [cat] using m
  obtain ⟨s, hs, m⟩ := List.mem_flatMap.mp m'
  exact ok_iff.mp (h s hs) c m
theorem mk_ok : ∀ m ∈ MK, PyData.strOk m = true := by decide +kernel
theorem wd_ok : ∀ m ∈ WD, PyData.strOk m = true := by decide +kernel
theorem wd_le8 : ∀ m ∈ WD, m.length ≤ 8 := by decide +kernel
theorem text_ok {L : Lore} (h : L.Ok) : PyData.strOk L.text = true := by
  obtain ⟨hsg, f2, fok, rok, _⟩ := h
  have sp : PyData.strOk " " = true := by decide +kernel
  refine ok_join (by decide +kernel) fun z hz => ?_
  unfold Lore.lines at hz
  rcases List.mem_cons.mp hz with rfl | hz
  · refine ok_join sp fun w hw => ?_
    rcases List.mem_cons.mp hw with rfl | hw
    · decide +kernel
    · exact sg_ok w (hsg.2.2.2 w hw)
  · rcases List.mem_append.mp hz with hz | hz
    · obtain ⟨f, hf, rfl⟩ := List.mem_map.mp hz
      refine ok_join sp fun w hw => ?_
      rcases List.mem_cons.mp hw with rfl | hw
      · decide +kernel
      · obtain ⟨i, hi, rfl⟩ := List.mem_map.mp hw
        obtain ⟨_, _, a3, a4⟩ := (fok f hf).2.2 i hi
        exact ok_app (ok_cat fun s ms => sg_ok s (hsg.2.2.2 s (a3 s ms))) (mk_ok _ a4)
    · obtain ⟨r, hr, hz⟩ := List.mem_flatMap.mp hz
      obtain ⟨o1, _, _, o4, _⟩ := rok r hr
      rcases List.mem_cons.mp hz with rfl | hz
      · refine ok_join sp fun w hw => ?_
        simp only [List.mem_cons, List.not_mem_nil, or_false] at hw
        rcases hw with rfl | rfl
        · decide +kernel
        · exact wd_ok _ o1
      · obtain ⟨p, hp, rfl⟩ := List.mem_map.mp hz
        exact ok_app (by decide +kernel) (ok_join sp fun w hw => ((ps_words hsg (o4 p hp)).1 w hw).2.2.1)
theorem sz_str {s : Str} (h : PyData.strOk s = true) : Sz (.str s) (10 * s.length + 2) := by
  refine ⟨by simp [PyData.showable, h], by simp [PyData.depth], ?_⟩
  have e : (PyData.str s).shown = reprText s := by simp [PyData.shown]
  rw [e]
  exact PySem.StrLaws.reprText_len s fun c m => Nat.lt_of_lt_of_le (ok_iff.mp h c m) (by decide)
theorem sz_strs {b : Nat} : ∀ {l : List Str}, (∀ s ∈ l, PyData.strOk s = true ∧ s.length ≤ b) → SzL (l.map PyData.str) (l.length * (10 * b + 4))
  | [], _ => by
    rw [List.length_nil, Nat.zero_mul]
    exact SzL.nil
  | x :: t, h => by
    have h1 := (sz_str (h x (.head _)).1).mono (show _ ≤ 10 * b + 2 by have := (h x (.head _)).2; omega)
    have h2 := sz_strs fun s m => h s (.tail _ m)
    have h3 := SzL.cons h1 h2
    rw [List.length_cons, Nat.add_mul]
    have e : 10 * b + 2 + t.length * (10 * b + 4) + 2 = t.length * (10 * b + 4) + 1 * (10 * b + 4) := by omega
    rw [e] at h3
    exact h3
theorem sz_bl (b : Bool) : Sz (.bool b) 60 := by
  cases b <;> exact sz_dec (by decide +kernel)
theorem sz_nat {n : Nat} (h : n ≤ 4) : Sz (.int (n : Int)) 60 := by
  rcases (by omega : n = 0 ∨ n = 1 ∨ n = 2 ∨ n = 3 ∨ n = 4) with rfl | rfl | rfl | rfl | rfl <;> exact sz_dec (by decide +kernel)
/-- (text, signs, rules, is_full, number of rules) -/
def toldD (L : Lore) : PyData := .tuple [.str L.text, .tuple (L.sg.map PyData.str), .tuple (L.names.map PyData.str), .bool L.full, .int (L.rs.length : Nat)]
theorem sz_told {L : Lore} (h : L.Ok) : Sz (toldD L) 60000 := by
  obtain ⟨hsg, f2, fok, rok, rne, r4, _⟩ := id h
  have t1 : Sz (.str L.text) 45800 := (sz_str (text_ok h)).mono (by have := text_len h; omega)
  have t2 : Sz (.tuple (L.sg.map PyData.str)) 200 := (Sz.tup (sz_strs (b := 1) fun s m => ⟨sg_ok s (hsg.2.2.2 s m), by rw [sg_len s (hsg.2.2.2 s m)]; exact Nat.le_refl _⟩)).mono (by have := hsg.2.1; omega)
  have t3 : Sz (.tuple (L.names.map PyData.str)) 500 := (Sz.tup (sz_strs (b := 8) (l := L.names) fun s m => by
    obtain ⟨r, hr, rfl⟩ := List.mem_map.mp m
    exact ⟨wd_ok _ (rok r hr).1, wd_le8 _ (rok r hr).1⟩)).mono (by
      unfold Lore.names
      rw [List.length_map]
      omega)
  exact (Sz.tup (SzL.cons t1 (SzL.cons t2 (SzL.cons t3 (SzL.cons (sz_bl _) (SzL.cons (sz_nat r4) SzL.nil)))))).mono (by omega)
theorem told_depth (L : Lore) : (toldD L).depth ≤ 290 := by
  simp [toldD, PyData.depth, PyData.depthAll, dep_strs]
theorem dq_strs {K : PySem.W.Frag} {H : Hp} : ∀ l : List Str, DqAll K H (l.map V.str) (l.map PyData.str)
  | [] => .nil
  | _ :: t => .cons (.str _) (dq_strs t)
end K1
set_option Elab.async false
set_option linter.all false
set_option maxRecDepth 100000
set_option maxHeartbeats 4000000
namespace K1
open PySem PySem.Spec PyProof.Rows L2 Kb Kc Kn
/-! ### told passes as data -/
def Pr {α : Type} (S : α → PyData → Prop) : List α → List PyData → Prop
  | [], [] => True
  | x :: xs, d :: ds => S x d ∧ Pr S xs ds
  | _, _ => False
theorem pr_pick {K : PySem.W.Frag} {H : Hp} {α : Type} {R : α → V → Prop} {S : α → PyData → Prop} (f : ∀ x y, R x y → ∃ d, Dq K H y d ∧ S x d) : ∀ {xs : List α} {ys : List V}, All2 R xs ys → ∃ ds, DqAll K H ys ds ∧ Pr S xs ds
  | [], ys, h => by
    have : ys = [] := List.length_eq_zero_iff.mp h.1
    rw [this]
    exact ⟨[], .nil, trivial⟩
  | x :: t, ys, h => by
    cases ys with
    | nil => exact absurd h.1 (by simp)
    | cons y u =>
      obtain ⟨d, h1, h2⟩ := f x y (h.2 0 y x rfl rfl)
      obtain ⟨ds, h3, h4⟩ := pr_pick f (xs := t) (ys := u) ⟨by have := h.1; simp at this; exact this, fun i y x e1 e2 => h.2 (i + 1) y x (by simpa using e1) (by simpa using e2)⟩
      exact ⟨d :: ds, .cons h1 h3, h2, h4⟩
theorem pr_eq {α : Type} {S : α → PyData → Prop} (f : ∀ x d e, S x d → S x e → d = e) : ∀ {xs : List α} {ds es : List PyData}, Pr S xs ds → Pr S xs es → ds = es
  | [], [], [], _, _ => rfl
  | x :: t, d :: ds, e :: es, h, k => by rw [f x d e h.1 k.1, pr_eq f h.2 k.2]
theorem pr_sz {α : Type} {S : α → PyData → Prop} {n : Nat} : ∀ {xs : List α} {ds : List PyData}, (∀ x ∈ xs, ∀ d, S x d → Sz d n) → Pr S xs ds → SzL ds (xs.length * (n + 2))
  | [], [], _, _ => by
    rw [List.length_nil, Nat.zero_mul]
    exact SzL.nil
  | x :: t, d :: ds, f, h => by
    have h1 := SzL.cons (f x (.head _) d h.1) (pr_sz (fun x m => f x (.tail _ m)) h.2)
    rw [List.length_cons, Nat.add_mul]
    have e : n + t.length * (n + 2) + 2 = t.length * (n + 2) + 1 * (n + 2) := by omega
    rw [e] at h1
    exact h1
def RowD (r : List Str) (d : PyData) : Prop := ∃ zs : List Str, d = .tuple (zs.map PyData.str) ∧ zs.Perm r ∧ sortedS zs = true
def FactD (x : Fact) (d : PyData) : Prop := d = factD x
def PsD : Ps → PyData → Prop
  | .length, d => d = .tuple [.str "length", .none, .none]
  | .known w xs, d => ∃ ds, Pr FactD xs ds ∧ d = .tuple [.str w, .none, .tuple ds]
  | .cls w rows, d => ∃ ds, Pr RowD rows ds ∧ d = .tuple [.str w, .tuple ds, .none]
theorem psD_eq : ∀ (p : Ps) (d e : PyData), PsD p d → PsD p e → d = e
  | .length, _, _, h, k => h.trans k.symm
  | .known w xs, _, _, ⟨d1, h1, e1⟩, ⟨d2, h2, e2⟩ => by rw [e1, e2, pr_eq (fun x d e h k => h.trans k.symm) h1 h2]
  | .cls w rows, _, _, ⟨d1, h1, e1⟩, ⟨d2, h2, e2⟩ => by
    rw [e1, e2, pr_eq (fun x d e ⟨z1, a1, b1, c1⟩ ⟨z2, a2, b2, c2⟩ => by rw [a1, a2, sorted_unique (b1.trans b2.symm) c1 c2]) h1 h2]
theorem psD_of {K : PySem.W.Frag} {H : Hp} : ∀ (p : Ps) (y : V), isPass K H p y → ∃ d, Dq K H y d ∧ PsD p d
  | .length, y, h => by
    obtain ⟨t, rfl, q⟩ := h
    exact ⟨_, .tup q (.cons (.str _) (.cons .non (.cons .non .nil))), rfl⟩
  | .known w xs, y, h => by
    obtain ⟨t, tf, ys, rfl, q, q2, fa⟩ := h
    obtain ⟨ds, h1, h2⟩ := pr_pick (K := K) (H := H) (R := isFact K H) (S := FactD) (fun x y h => by
      obtain ⟨u, rfl, qu⟩ := h
      exact ⟨factD x, .tup qu (.cons (.str _) (.cons (.str _) (.cons (.str _) .nil))), rfl⟩) fa
    exact ⟨_, .tup q (.cons (.str _) (.cons .non (.cons (.tup q2 h1) .nil))), ds, h2, rfl⟩
  | .cls w rows, y, h => by
    obtain ⟨t, tf, ys, rfl, q, q2, fa⟩ := h
    obtain ⟨ds, h1, h2⟩ := pr_pick (K := K) (H := H) (R := isRow K H) (S := RowD) (fun x y h => by
      obtain ⟨u, zs, rfl, qu, p1, p2⟩ := h
      exact ⟨_, .tup qu (dq_strs zs), zs, rfl, p1, p2⟩) fa
    exact ⟨_, .tup q (.cons (.str _) (.cons (.tup q2 h1) (.cons .non .nil))), ds, h2, rfl⟩
theorem rw3_le : ∀ s ∈ RW3, PyData.strOk s = true ∧ s.length ≤ 7 := by decide +kernel
theorem fc_le : ∀ s ∈ FC, PyData.strOk s = true ∧ s.length ≤ 2 := by decide +kernel
theorem psD_sz {sg : List Str} (hs : SgOk sg) : ∀ (p : Ps) (d : PyData), p.ok sg → PsD p d → Sz d 5000
  | .length, d, _, h => by
    rw [show d = _ from h]
    exact (sz_dec (by decide +kernel)).mono (by omega)
  | .known w xs, d, ok, ⟨ds, h1, e⟩ => by
    subst e
    have w1 := (sz_str (rw3_le _ ok.1).1).mono (show _ ≤ 100 by have := (rw3_le _ ok.1).2; omega)
    have f1 := pr_sz (n := 100) (fun x m d h => by
      rw [show d = _ from h]
      obtain ⟨a1, a2, _, a4⟩ := ok.2.1 x m
      have b1 := (sz_str (sg_ok _ (hs.2.2.2 _ a1))).mono (show _ ≤ 12 by rw [sg_len _ (hs.2.2.2 _ a1)]; omega)
      have b2 := (sz_str (sg_ok _ (hs.2.2.2 _ a2))).mono (show _ ≤ 12 by rw [sg_len _ (hs.2.2.2 _ a2)]; omega)
      have b3 := (sz_str (fc_le _ a4).1).mono (show _ ≤ 22 by have := (fc_le _ a4).2; omega)
      exact (Sz.tup (SzL.cons b1 (SzL.cons b3 (SzL.cons b2 SzL.nil)))).mono (by omega)) h1
    have n1 : Sz .none 60 := sz_dec (by decide +kernel)
    exact (Sz.tup (SzL.cons w1 (SzL.cons n1 (SzL.cons (Sz.tup f1) SzL.nil)))).mono (by have := ok.2.2.1; omega)
  | .cls w rows, d, ok, ⟨ds, h1, e⟩ => by
    subst e
    have w1 := (sz_str (rw3_le _ ok.1).1).mono (show _ ≤ 100 by have := (rw3_le _ ok.1).2; omega)
    have hfl : rows.flatten.length ≤ 8 := by
      rw [ok.2.1.2.length_eq]
      exact hs.2.1
    have rl8 : rows.length ≤ 8 := Nat.le_trans (len_flat ok.2.1.1) hfl
    have f1 := pr_sz (n := 200) (fun r m d h => by
      obtain ⟨zs, rfl, pz, _⟩ := h
      have zl : zs.length ≤ 8 := by
        rw [pz.length_eq]
        obtain ⟨A, Z, e⟩ := List.append_of_mem m
        rw [e, List.flatten_append, List.length_append, List.flatten_cons, List.length_append] at hfl
        omega
      have insg : ∀ s ∈ zs, s ∈ SG := fun s ms => hs.2.2.2 s (ok.2.1.2.mem_iff.mp (List.mem_flatten.mpr ⟨r, m, pz.mem_iff.mp ms⟩))
      exact (Sz.tup (sz_strs (b := 1) fun s ms => ⟨sg_ok s (insg s ms), by rw [sg_len s (insg s ms)]; exact Nat.le_refl _⟩)).mono (by omega)) h1
    have n1 : Sz .none 60 := sz_dec (by decide +kernel)
    exact (Sz.tup (SzL.cons w1 (SzL.cons (Sz.tup f1) (SzL.cons n1 SzL.nil)))).mono (by omega)
theorem pr_depth {α : Type} {S : α → PyData → Prop} {n : Nat} (f : ∀ x d, S x d → d.depth ≤ n) : ∀ {xs : List α} {ds : List PyData}, Pr S xs ds → PyData.depthAll ds ≤ n
  | [], [], _ => by simp [PyData.depthAll]
  | x :: t, d :: ds, h => by
    have h1 := f x d h.1
    have h2 := pr_depth f h.2
    simp only [PyData.depthAll]
    omega
theorem psD_depth : ∀ (p : Ps) (d : PyData), PsD p d → d.depth ≤ 3
  | .length, d, h => by
    rw [show d = _ from h]
    decide +kernel
  | .known w xs, d, ⟨ds, h1, e⟩ => by
    subst e
    have := pr_depth (n := 1) (fun x d h => by
      rw [show d = _ from h]
      simp [factD, PyData.depth, PyData.depthAll]) h1
    simp [PyData.depth, PyData.depthAll]
    omega
  | .cls w rows, d, ⟨ds, h1, e⟩ => by
    subst e
    have := pr_depth (n := 1) (fun x d h => by
      obtain ⟨zs, rfl, _⟩ := h
      simp [PyData.depth, dep_strs]) h1
    simp [PyData.depth, PyData.depthAll]
    omega
/-- all passes of a rule, told as a tuple: one text for all of them -/
theorem passes_shown {K : PySem.W.Frag} {H : Hp} {sg : List Str} {t : Addr} {ys : List V} {ps : List Ps} (hs : SgOk sg) (ok : ∀ p ∈ ps, p.ok sg) (l3 : ps.length ≤ 3) (q : SqT K H t ys) (h : All2 (isPass K H) ps ys) :
    ∃ ds, Pr PsD ps ds ∧ Dq K H (.ref t) (.tuple ds) ∧ (.tuple ds : PyData).showable = true ∧ (.tuple ds : PyData).depth ≤ 290 ∧ (.tuple ds : PyData).shown.length ≤ sizeLine := by
  obtain ⟨ds, h1, h2⟩ := pr_pick (fun p y h => psD_of p y h) h
  have sz : Sz (.tuple ds) 16000 := (Sz.tup (pr_sz (n := 5000) (fun p m d h => psD_sz hs p d (ok p m) h) h2)).mono (by omega)
  have dp := pr_depth (n := 3) psD_depth h2
  exact ⟨ds, h2, .tup q h1, sz.1, by simp only [PyData.depth]; omega, Nat.le_trans sz.2.2 (by decide)⟩
end K1
set_option Elab.async false
set_option linter.all false
set_option maxRecDepth 100000
set_option maxHeartbeats 4000000
namespace K1
open PySem PySem.Spec PyProof.Rows L2 Kb Kc Kn
/-- a def by its body, where nothing is being shown; the code object is known -/
theorem fnQ_ofC {P : Program} {w : World} {K : PySem.W.Frag} {mg : Str → Option Value} {base : Heap} {x qual : Str} {st : Stmt} {f : Addr}
    {fd : FuncData} {N ps : List Str} {k : Nat} {sp : Sp} {code : Value} (F : Fun K x qual st f fd) (S : FnScope N ps (defScope st)) (hc : fd.code = code)
    (len : ∀ vs H Q E, sp vs H Q E → vs.length = ps.length)
    (hbody : ∀ (A : Around) (outer : List Env) (s : Shared) (H : Hp) (vs : List V) (Q : VK) (E : XK),
      Qt (A.deeper (envOfC qual (defScope st) s.heap.objs.size f code)) → Room k (A.deeper (envOfC qual (defScope st) s.heap.objs.size f code)) →
      sp vs H Q E → ∃ t, PSs (cxOf CX0 P w K mg base N qual (defScope st) f code A outer s H E).nox (defBody st) t ∧
        t { nx := fun _ H' => Q .non H', rt := Q } (L2.start N vs) H) : FnQ P w K mg base CX0 (k + 1) f fd ps sp := by
  obtain ⟨oc, od, kV, doc, pm, an, cdv, ct, osl, rfl, lk, hcd⟩ := F.ex
  obtain rfl : cdv = code := hc
  refine ⟨len, fun A outer s H args us vs Q E hG hr e0 hb r hsp => ?_⟩
  have hlen := len _ _ _ _ hsp
  have KX : K.In s.heap := e0.mod.kin.keeps fun b o e => (e0.bs b o e).1
  have noLim : s.heap.NoLimit := e0.mod.nolimit.keeps fun b o e => (e0.bs b o e).1
  refine codeAny_call_function hr.depth (KX _ _ lk) rfl S.co S.gen rfl (PySem.W.codeRec_of KX hcd) (hb _ _ _ _ ?_)
  refine wpAny_newFunctionEnv_cells S.kind (fun y hy => ?_) fun env he s1 x => ?_
  · rcases S.par y.1 (List.of_mem_zip (a := y.1) (b := y.2) hy).1 with z | z
    · exact .inl z
    · exact .inr ⟨z, PySem.W.cellsFrom_some _ _ _ (.inl z)⟩
  subst he
  refine ⟨noLim.keeps x.toInCall.keep, codeAny_func ?_⟩
  obtain ⟨t, ht0, hq⟩ := hbody A outer s H vs Q E hG (hr.deeper _) hsp
  have ht := ht0.nox
  have I : Inv (cxOf CX0 P w K mg base N qual (defScope st) f cdv A outer s H E) [] (start N vs) H s1 := inv_start S hr.hd e0 hlen r x
  refine wpAny_mono (ht.run [] s1 (start N vs) H _ I hq) (fun fl s' hs => ?_) fun e s' hs => hs
  cases fl with
  | ret u =>
    obtain ⟨v, σ', H', J, rv, q⟩ := hs
    exact ⟨v, H', J.os, J.bare, J.base, J.hok, rv, q⟩
  | next =>
    obtain ⟨σ', H', J, q⟩ := hs
    exact ⟨.non, H', J.os, J.bare, J.base, J.hok, rfl, q⟩
  | brk =>
    obtain ⟨_, _, _, q⟩ := hs
    exact False.elim q
  | cont =>
    obtain ⟨_, _, _, q⟩ := hs
    exact False.elim q
end K1
set_option Elab.async false
set_option linter.all false
set_option maxRecDepth 100000
set_option maxHeartbeats 4000000
namespace K1
open PySem PySem.Spec PyProof.Rows L2 Kb Kc Kn LamX
/-! ### what stands where all but tables is kept -/
/-- all but the tables of code objects -/
def NT (H : Hp) : Hp := fun b => match H b with
  | some (.tbl _) => none
  | o => o
section
variable {K : PySem.W.Frag} {H H' : Hp}
theorem xrd (e : ExtN H H') {a : Addr} {u : HO} (n : ∀ ps, u ≠ .tbl ps) (h : Rd H a u) : Rd H' a u := by
  rcases h with h | ⟨o, h⟩
  · exact .inl (e _ _ h n)
  · exact .inr ⟨o, e _ _ h fun ps z => nomatch z⟩
theorem xrdK (e : ExtN H H') {a : Addr} {kvs : List (Key × V)} (h : Rd H a (.dK kvs)) : Rd H' a (.dK kvs) := xrd e (fun ps z => nomatch z) h
theorem xseq (e : ExtN H H') {a : Addr} {xs : List V} (h : SqL K H a xs) : SqL K H' a xs := by
  rcases h with h | h
  · exact .inl (xrd e (fun ps z => nomatch z) h)
  · exact .inr h
theorem xseqT (e : ExtN H H') {a : Addr} {xs : List V} (h : SqT K H a xs) : SqT K H' a xs := by
  rcases h with h | h
  · exact .inl (xrd e (fun ps z => nomatch z) h)
  · exact .inr h
end
mutual
theorem Dq.xn {K : PySem.W.Frag} {H H' : Hp} (e : ExtN H H') : ∀ (d : PyData) (v : V), Dq K H v d → Dq K H' v d
  | _, _, .non => .non
  | _, _, .bl b => .bl b
  | _, _, .int i => .int i
  | _, _, .str x => .str x
  | .list ds, _, .lst hs hn ha => .lst (xseq e hs) hn (DqAll.xn e ds _ ha)
  | .tuple ds, _, .tup hs ha => .tup (xseqT e hs) (DqAll.xn e ds _ ha)
  | .dict es, _, .dic hs ha => .dic (xrdK e hs) (DqKv.xn e es _ ha)
theorem DqAll.xn {K : PySem.W.Frag} {H H' : Hp} (e : ExtN H H') : ∀ (ds : List PyData) (vs : List V), DqAll K H vs ds → DqAll K H' vs ds
  | _, _, .nil => .nil
  | d :: ds, _, .cons h1 h2 => .cons (Dq.xn e d _ h1) (DqAll.xn e ds _ h2)
theorem DqKv.xn {K : PySem.W.Frag} {H H' : Hp} (e : ExtN H H') : ∀ (es : List (PyData × PyData)) (kvs : List (Key × V)), DqKv K H kvs es → DqKv K H' kvs es
  | _, _, .nil => .nil
  | (_, d) :: es, _, .cons h1 h2 => .cons (Dq.xn e d _ h1) (DqKv.xn e es _ h2)
end
section
variable {K : PySem.W.Frag} {H H' : Hp}
theorem SgT.xn {a : Addr} {sg : List Str} (s : ExtN H H') (h : SgT H a sg) : SgT H' a sg := by
  obtain ⟨o, h1, h2, e⟩ := h
  exact ⟨o, h1, h2, s _ _ e fun ps z => nomatch z⟩
theorem isFact_xn {x : Fact} {y : V} (s : ExtN H H') (h : isFact K H x y) : isFact K H' x y := by
  obtain ⟨t, e, q⟩ := h
  exact ⟨t, e, xseqT s q⟩
theorem FactsAt.xn {xs : List Fact} {ys : List V} (s : ExtN H H') (h : FactsAt K H xs ys) : FactsAt K H' xs ys := ⟨h.1, fun i y x e1 e2 => isFact_xn s (h.2 i y x e1 e2)⟩
theorem isRow.xn {r : List Str} {y : V} (s : ExtN H H') (h : isRow K H r y) : isRow K H' r y := by
  obtain ⟨t, z, e, q, a, b⟩ := h
  exact ⟨t, z, e, xseqT s q, a, b⟩
theorem RowsAt.xn {rows : List (List Str)} {ys : List V} (s : ExtN H H') (h : RowsAt K H rows ys) : RowsAt K H' rows ys := ⟨h.1, fun i y x e1 e2 => (h.2 i y x e1 e2).xn s⟩
theorem isPass.xn (s : ExtN H H') : ∀ {p : Ps} {y : V}, isPass K H p y → isPass K H' p y
  | .length, _, ⟨t, e, q⟩ => ⟨t, e, xseqT s q⟩
  | .known _ _, _, ⟨t, tf, ys, e, q, r, f⟩ => ⟨t, tf, ys, e, xseqT s q, xseqT s r, f.xn s⟩
  | .cls _ _, _, ⟨t, tf, ys, e, q, r, f⟩ => ⟨t, tf, ys, e, xseqT s q, xseqT s r, f.xn s⟩
theorem PassesAt.xn {ps : List Ps} {ys : List V} (s : ExtN H H') (h : PassesAt K H ps ys) : PassesAt K H' ps ys := ⟨h.1, fun i y x e1 e2 => (h.2 i y x e1 e2).xn s⟩
theorem RulesAt.xn {rs : List Rule} {kvs : List (Key × V)} (s : ExtN H H') (h : RulesAt K H rs kvs) : RulesAt K H' rs kvs := ⟨h.1, fun j kv r e1 e2 => by
  obtain ⟨a, t, ys, e, q, p⟩ := h.2 j kv r e1 e2
  exact ⟨a, t, ys, e, xseqT s q, p.xn s⟩⟩
theorem HouseIn.xn {L : Lore} {a tr d : Addr} (s : ExtN H H') (h : HouseIn K H L a tr d) : HouseIn K H' L a tr d := by
  obtain ⟨h1, h2, kvs, h3, h4⟩ := h
  exact ⟨h1.xn s, xseqT s h2, kvs, s _ _ h3 (fun ps z => nomatch z), h4.xn s⟩
theorem HouseObj.xn {C : Addr} {L : Lore} {a : Addr} (s : ExtN H H') (h : HouseObj K C H L a) : HouseObj K C H' L a := by
  obtain ⟨dx, sa, tr, d, m, h1, h2⟩ := h
  exact ⟨dx, sa, tr, d, m, s _ _ h1 (fun ps z => nomatch z), h2.xn s⟩
theorem LRow.xn {r : List Str} {y : V} (s : ExtN H H') (h : LRow K H r y) : LRow K H' r y := by
  obtain ⟨t, e, q⟩ := h
  exact ⟨t, e, xseq s q⟩
theorem LRows.xn {rows : List (List Str)} {y : V} (s : ExtN H H') (h : LRows K H rows y) : LRows K H' rows y := by
  obtain ⟨t, ys, e, q, a⟩ := h
  exact ⟨t, ys, e, xseq s q, a.imp fun _ _ h => h.xn s⟩
theorem LFacts.xn {xs : List Fact} {y : V} (s : ExtN H H') (h : LFacts K H xs y) : LFacts K H' xs y := by
  obtain ⟨t, ys, e, q, a⟩ := h
  exact ⟨t, ys, e, xseq s q, a.imp fun _ _ h => isFact_xn s h⟩
theorem LPass.xn (s : ExtN H H') : ∀ {p : Ps} {y : V}, LPass K H p y → LPass K H' p y
  | .length, _, ⟨t, e, q⟩ => ⟨t, e, xseqT s q⟩
  | .known _ _, _, ⟨t, z, e, q, r⟩ => ⟨t, z, e, xseqT s q, r.xn s⟩
  | .cls _ _, _, ⟨t, z, e, q, r⟩ => ⟨t, z, e, xseqT s q, r.xn s⟩
theorem LItem.xn {i : Item} {y : V} (s : ExtN H H') (h : LItem K H i y) : LItem K H' i y := by
  obtain ⟨t, e, q⟩ := h
  exact ⟨t, e, xseqT s q⟩
theorem LForm.xn {i : List Item} {y : V} (s : ExtN H H') (h : LForm K H i y) : LForm K H' i y := by
  obtain ⟨t, ys, e, q, a⟩ := h
  exact ⟨t, ys, e, xseq s q, a.imp fun _ _ h => h.xn s⟩
theorem LRule.xn {r : Rule} {y : V} (s : ExtN H H') (h : LRule K H r y) : LRule K H' r y := by
  obtain ⟨t, b, ys, e, q, q2, a⟩ := h
  exact ⟨t, b, ys, e, xseqT s q, xseq s q2, a.imp fun _ _ h => h.xn s⟩
theorem HLore.xn {L : Lore} {y : V} (s : ExtN H H') (h : HLore K H L y) : HLore K H' L y := by
  obtain ⟨d, ls, lf, lr, fs, rts, e, h1, h2, h3, h4, h5, h6⟩ := h
  exact ⟨d, ls, lf, lr, fs, rts, e, s _ _ h1 (fun ps z => nomatch z), xseq s h2, xseq s h3, h4.imp fun _ _ h => h.xn s, xseq s h5, h6.imp fun _ _ h => h.xn s⟩
theorem PotAt.xn {p : Addr} {n : Nat} (s : ExtN H H') (x : PotAt H p n) : PotAt H' p n := by
  obtain ⟨a, b, c, e, h⟩ := x.ex
  exact ⟨a, b, c, s _ _ e (fun ps z => nomatch z), h⟩
theorem xn_same (s : Same H H') : ExtN H H' := fun b o e _ => s b o e
/-- a heap without its tables, and what is seen of it behind -/
theorem nt_xn (s : ExtN H H') : Same (NT H) (NT H') := fun b o e => by
  unfold NT at e ⊢
  cases h : H b with
  | none => rw [h] at e; cases e
  | some u =>
    rw [h] at e
    cases u with
    | tbl ps => cases e
    | _ =>
      simp only at e
      cases e
      rw [s b _ h (fun ps z => nomatch z)]
end
end K1
set_option Elab.async false
set_option linter.all false
set_option maxRecDepth 100000
set_option maxHeartbeats 4000000
namespace K1
open PySem PySem.Spec PyProof.Rows L2 Kb Kc Kn LamX
def TY7 : List String := ["NoneType", "bool", "int", "str", "list", "tuple", "dict"]
/-- all that is asked of the class House -/
structure HOps (P : Program) (w : World) (K : PySem.W.Frag) (mg : Str → Option Value) (base : Heap) (C CN CO fInit fLen fIn fEq fPasses fOE : Addr) (fdInit fdLen fdIn fdEq fdPasses fdOE : FuncData) : Prop where
  T : HouseT K C
  M : Mk K C fInit
  gHouse : mg "House" = some (.ref C)
  GInit : FnOk P w K mg base CX0 10 fInit fdInit ["self", "text"] (spHouseInit K C)
  bInit : Binds K fdInit ["self", "text"] []
  GLen : FnOk P w K mg base CX0 1 fLen fdLen ["self"] (spHLen K C)
  hLen : PySem.W.findIn K (.ref C) "__len__" = some (some (.ref fLen))
  isLen : PySem.W.isFn K (.ref fLen) = true
  bLen : Binds K fdLen ["self"] []
  GIn : FnOk P w K mg base CX0 1 fIn fdIn ["self", "value"] (spHIn K C)
  hIn : PySem.W.findIn K (.ref C) "__contains__" = some (some (.ref fIn))
  isIn : PySem.W.isFn K (.ref fIn) = true
  bIn : Binds K fdIn ["self", "value"] []
  GEq : FnOk P w K mg base CX0 1 fEq fdEq ["self", "other"] (spHEq K C)
  hEq : PySem.W.findIn K (.ref C) "__eq__" = some (some (.ref fEq))
  isEq : PySem.W.isFn K (.ref fEq) = true
  bEq : Binds K fdEq ["self", "other"] []
  FB : CmpFacts "object" [.type "object"]
  hC : ∀ {h : Heap} {x : Addr} {o : Obj}, K.In h → h.get? x = some o → o.cls = .ref C → h.OwnEqNoNe x C fEq "object" [.type "object"]
  GPasses : FnOk P w K mg base (CX P w) 3 fPasses fdPasses ["self", "rule"] (spHPasses K C CN)
  mPasses : Meth K C "passes" fPasses
  bPasses : Binds K fdPasses ["self", "rule"] []
  gNoRule : mg "NoRule" = some (.ref CN)
  gOrderError : mg "OrderError" = some (.ref CO)
  EN : ErrB K CN CO fOE
  exm : PySem.W.exmOne K (.ref CN) (.ref CO) = some true
  hty : ∀ {H : Hp} {a dx : Addr} {fs : List (Str × V)}, H a = some (.ins C dx fs) → TyX K H (.ref a) (.ref C)
  nf : ∀ t : String, t ∈ TY7 → PySem.W.notFirst K C (.type t) = true ∧ PySem.W.kitOne K (.type t) (.ref C) = some false
/-- what can't be raised passes -/
theorem passF {X : Cx} : Passes (CX X.prog X.w) X (fun _ _ _ => False) := fun _ _ _ _ _ _ _ c => by
  obtain ⟨_, _, _, _, _, _, _, _, _, _, _, _, z⟩ := c
  exact z.elim
/-- all but the pot and tables stays -/
def XN (p : Addr) (H H' : Hp) : Prop := ∀ b o, b ≠ p → H b = some o → (∀ ps, o ≠ .tbl ps) → H' b = some o
theorem XN.trans {p : Addr} {H H1 H2 : Hp} (x : XN p H H1) (y : XN p H1 H2) : XN p H H2 := fun b o n e t => y b o n (x b o n e t) t
theorem XN.ext {p : Addr} {H H' : Hp} (x : Ext p H H') : XN p H H' := fun b o n e _ => x.at n e
theorem XN.of {p : Addr} {H H' : Hp} (x : ExtN H H') : XN p H H' := fun b o _ e t => x b o e t
theorem tabs_pot {TS : List (Addr × Str)} {p : Addr} {n : Nat} {H H' : Hp} (hP : PotAt H p n) (x : Ext p H H') (h : Tabs TS H) : Tabs TS H' := fun q hq => by
  obtain ⟨a, b, c, ep, _⟩ := hP.ex
  obtain ⟨ps, h1, h2, h3⟩ := h q hq
  have np : ∀ {y : Addr} {o : HO}, H y = some o → (∀ xs, o ≠ .lst xs) → H' y = some o := fun {y o} e n => x.at (fun z => by
    rw [z, ep] at e
    exact n _ (Option.some.inj e).symm) e
  refine ⟨ps, np h1 (fun xs z => nomatch z), h2, fun pos cv hc => ?_⟩
  obtain ⟨c, e1, e2⟩ := h3 pos cv hc
  exact ⟨c, e1, np e2 (fun xs z => by unfold CodeO at z; cases z)⟩
def spRight (TS : List (Addr × Str)) : Sp := fun vs H Q _ => ∃ (p : Addr), vs = [.ref p] ∧ PotAt H p 0 ∧ Tabs TS H ∧ ∀ H', XN p H H' → Tabs TS H' → Q (.bl true) H'
theorem up_ok : ∀ m ∈ WD, PyData.strOk (Txt.upper m) = true ∧ (Txt.upper m).length ≤ 8 := by decide +kernel
/-- a value that can be shown, by one text -/
def Shown (K : PySem.W.Frag) (H : Hp) (v : V) : Prop := ∃ d, Dq K H v d ∧ Sz d 4000 ∧ d.depth ≤ 290
theorem Shown.xn {K : PySem.W.Frag} {H H' : Hp} {v : V} (x : ExtN H H') (h : Shown K H v) : Shown K H' v := by
  obtain ⟨d, h1, h2⟩ := h
  exact ⟨d, Dq.xn x _ _ h1, h2⟩
theorem ty_case {K : PySem.W.Frag} {H : Hp} {v : V} {d : PyData} (h : Dq K H v d) : (∃ s, v = .str s) ∨ NoStr K H v := by
  have t := h.ty
  cases h with
  | str s => exact .inl ⟨s, rfl⟩
  | _ => exact .inr ⟨_, t, kit_ty (r := false) (by first | decide +kernel | rfl)⟩
theorem sqT_put {K : PySem.W.Frag} {H : Hp} {D a : Addr} {zs xs : List V} {o : HO} (hD : H D = some (.lst zs)) (h : SqT K H a xs) : SqT K (upd H D o) a xs := by
  rcases h with (h1 | ⟨o1, h1⟩) | h1
  · exact .inl (.inl (by rw [upd_ne (fun z => by rw [z, hD] at h1; cases h1)]; exact h1))
  · exact .inl (.inr ⟨o1, by rw [upd_ne (fun z => by rw [z, hD] at h1; cases h1)]; exact h1⟩)
  · exact .inr h1
theorem isPass_put {K : PySem.W.Frag} {H : Hp} {D : Addr} {zs : List V} {o : HO} (hD : H D = some (.lst zs)) {p : Ps} {y : V} (h : isPass K H p y) : isPass K (upd H D o) p y := by
  cases p with
  | length =>
    obtain ⟨t, e, q⟩ := h
    exact ⟨t, e, sqT_put hD q⟩
  | known w xs =>
    obtain ⟨t, tf, ys, e, q, q2, fa⟩ := h
    exact ⟨t, tf, ys, e, sqT_put hD q, sqT_put hD q2, fa.1, fun i y x e1 e2 => by
      obtain ⟨u, e, q⟩ := fa.2 i y x e1 e2
      exact ⟨u, e, sqT_put hD q⟩⟩
  | cls w rows =>
    obtain ⟨t, tf, ys, e, q, q2, fa⟩ := h
    exact ⟨t, tf, ys, e, sqT_put hD q, sqT_put hD q2, fa.1, fun i y x e1 e2 => by
      obtain ⟨u, z, e, q, a, b⟩ := fa.2 i y x e1 e2
      exact ⟨u, z, e, sqT_put hD q, a, b⟩⟩
theorem ty7 (d : PyData) : tyName d ∈ TY7 := by
  cases d <;> simp [tyName, TY7]
/-- a value that is no name of a rule -/
def NoName (K : PySem.W.Frag) (H : Hp) (L : Lore) (y : V) : Prop := (∃ s, y = .str s ∧ s ∉ L.names) ∨ NoStr K H y
section
variable {P : Program} {w : World} {K : PySem.W.Frag} {mg : Str → Option Value} {base : Heap} {H : Hp} {σ : L2.St} {Q : VK} {i j : Nat} {y : V} {s : Str} {L : Lore} {tn x : Addr}
theorem known_yes (hi : σ[i]? = some (some (.str s))) (hj : σ[j]? = some (some (.ref tn))) (hq : SqT K H tn (L.names.map V.str)) (m : s ∈ L.names) (q : Q (.bl true) H) :
    tAndV (tCB (rIsi K) (tCons (tVar i) (tCons (tC (.ty "str")) tNil))) (tOp (rIn K false) (tVar i) (tVar j)) σ H Q := by
  refine ⟨_, hi, .str s, .ty "str", _, _, true, rfl, .ty _, .base (.str s), kit_ty (a := "str") (b := "str") (r := true) (by decide +kernel), _, rfl, iteT ?_⟩
  refine ⟨_, hi, _, hj, tn, _, rfl, .inr hq, rfl, all_flat _, ?_⟩
  show Q (V.bl (inV (V.str s) (L.names.map V.str))) H
  rw [inV_str, decide_eq_true m]
  exact q
theorem known_no (hi : σ[i]? = some (some y)) (hj : σ[j]? = some (some (.ref tn))) (hq : SqT K H tn (L.names.map V.str)) (hx : NoName K H L y) (q : Q (.bl false) H) :
    tAndV (tCB (rIsi K) (tCons (tVar i) (tCons (tC (.ty "str")) tNil))) (tOp (rIn K false) (tVar i) (tVar j)) σ H Q := by
  rcases hx with ⟨s, rfl, m⟩ | ⟨T, hT, hk⟩
  · refine ⟨_, hi, .str s, .ty "str", _, _, true, rfl, .ty _, .base (.str s), kit_ty (a := "str") (b := "str") (r := true) (by decide +kernel), _, rfl, iteT ?_⟩
    refine ⟨_, hi, _, hj, tn, _, rfl, .inr hq, rfl, all_flat _, ?_⟩
    show Q (V.bl (inV (V.str s) (L.names.map V.str))) H
    rw [inV_str, decide_eq_false m]
    exact q
  · exact ⟨_, hi, y, .ty "str", _, _, false, rfl, .ty _, hT, hk, _, rfl, iteF q⟩
theorem inH_yes {C : Addr} (hi : σ[i]? = some (some (.str s))) (hj : σ[j]? = some (some (.ref x))) (ho : HouseObj K C H L x) (m : s ∈ L.names) (q : Q (.bl true) H) : tOp (rInM false C (spHIn K C) E0) (tVar i) (tVar j) σ H Q := by
  obtain ⟨dx, sa, tr, d, mm, h1, h2⟩ := id ho
  refine ⟨_, hi, _, hj, x, dx, _, rfl, h1, x, _, L, rfl, ho, .inl ⟨s, rfl, _, rfl, ?_⟩⟩
  show Q (V.bl (decide (s ∈ L.names))) H
  rw [decide_eq_true m]
  exact q
theorem inH_no {C : Addr} (hi : σ[i]? = some (some y)) (hj : σ[j]? = some (some (.ref x))) (ho : HouseObj K C H L x) (hx : NoName K H L y) (q : Q (.bl false) H) : tOp (rInM false C (spHIn K C) E0) (tVar i) (tVar j) σ H Q := by
  obtain ⟨dx, sa, tr, d, mm, h1, h2⟩ := id ho
  rcases hx with ⟨s, rfl, m⟩ | hn
  · refine ⟨_, hi, _, hj, x, dx, _, rfl, h1, x, _, L, rfl, ho, .inl ⟨s, rfl, _, rfl, ?_⟩⟩
    show Q (V.bl (decide (s ∈ L.names))) H
    rw [decide_eq_false m]
    exact q
  · exact ⟨_, hi, _, hj, x, dx, _, rfl, h1, x, _, L, rfl, ho, .inr ⟨hn, _, rfl, q⟩⟩
theorem lk_passes {t s r b m d : V} : (hf6 t s r b m d).lookup ("passes" : Str) = none := by
  unfold hf6
  rw [look_ne (by decide +kernel), look_ne (by decide +kernel), look_ne (by decide +kernel), look_ne (by decide +kernel), look_ne (by decide +kernel), look_ne (by decide +kernel)]
  rfl
theorem told_yes {C CN CO : Addr} {TS : List (Addr × Str)} (hi : σ[i]? = some (some (.str s))) (hj : σ[j]? = some (some (.ref x))) (t0 : Tabs TS H) (ok : L.Ok) (ho : HouseObj K C H L x) (m : s ∈ L.names)
    (q : ∀ H', ExtN H H' → Tabs TS H' → Q .non H') :
    tOp (rIxT K) (tLam TS (TTk K CO) fun E => tMeth C ("passes") (spHPasses K C CN) [] E (tVar j) (tCons (tVar i) tNil)) (tC (.int 0)) σ H Q := by
  refine ⟨t0, fun H2 x12 t2 H3 s23 => ?_⟩
  have x13 := ExtN.trans x12 (xn_same s23)
  have t3 : Tabs TS H3 := t2.ext s23
  obtain ⟨r, rm, rfl⟩ := List.mem_map.mp m
  have ho3 := ho.xn x13
  obtain ⟨dx, sa, tr, d, mm, h1, h2⟩ := id ho3
  refine ⟨_, hj, x, dx, _, rfl, h1, lk_passes, _, hi, x, _, L, rfl, ok, ho3, .inl ⟨r, rm, rfl, fun t ys _ _ u hu => ?_⟩⟩
  have s34 := Kb.same_upd (o := .tup [.non, .ref t]) hu
  exact ⟨u, _, 0, _, rfl, rfl, .of upd_same, atI_nat' (by decide) rfl, q _ (x13.trans (xn_same s34)) (t3.ext s34)⟩
theorem told_no {C CN CO : Addr} {TS : List (Addr × Str)} (hi : σ[i]? = some (some y)) (hj : σ[j]? = some (some (.ref x))) (t0 : Tabs TS H) (ok : L.Ok) (ho : HouseObj K C H L x)
    (hx : ∀ H', ExtN H H' → NoName K H' L y) (exm : PySem.W.exmOne K (.ref CN) (.ref CO) = some true)
    (q : ∀ H' a d, ExtN H H' → Tabs TS H' → HeldAt H' a CN d [("value", y)] → Q (.ref a) H') :
    tOp (rIxT K) (tLam TS (TTk K CO) fun E => tMeth C ("passes") (spHPasses K C CN) [] E (tVar j) (tCons (tVar i) tNil)) (tC (.int 0)) σ H Q := by
  refine ⟨t0, fun H2 x12 t2 H3 s23 => ?_⟩
  have x13 := ExtN.trans x12 (xn_same s23)
  have t3 : Tabs TS H3 := t2.ext s23
  have ho3 := ho.xn x13
  obtain ⟨dx, sa, tr, d, mm, h1, h2⟩ := id ho3
  refine ⟨_, hj, x, dx, _, rfl, h1, lk_passes, _, hi, x, _, L, rfl, ok, ho3, .inr ⟨hx H3 x13, fun H4 dd s34 hd0 hd => ⟨exm, fun a ha t ht => ?_⟩⟩⟩
  have s45 := Kb.same_upd (o := exq a (.ref CN) (some dd)) ha
  have s56 := Kb.same_upd (o := .tup [.ref a, .non]) ht
  have s36 := Same.trans s34 (Same.trans s45 s56)
  exact ⟨t, _, 0, _, rfl, rfl, .of upd_same, atI_nat' (by decide) rfl, q _ a dd (x13.trans (xn_same s36)) (t3.ext s36) ⟨s56 _ _ upd_same, s56 _ _ (s45 _ _ hd)⟩⟩
theorem eq_house {C : Addr} {L' : Lore} (hi : σ[i]? = some (some (.ref x))) (hj : σ[j]? = some (some (.str L'.text))) (ho : HouseObj K C H L x) (ok : L'.Ok) (hty : ∀ {H : Hp} {a dx : Addr} {fs : List (Str × V)}, H a = some (.ins C dx fs) → TyX K H (.ref a) (.ref C))
    (q : ∀ H', Same H H' → Q (.bl (decide (L.text = L'.text))) H') : tOp (rEqM K C (spHEq K C) E0) (tVar i) (tMake C (spHouseInit K C) [] E0 (tCons (tVar j) tNil)) σ H Q := by
  refine ⟨_, hi, _, hj, fun x2 dx2 nx ndx nex => ⟨x2, dx2, L', rfl, ok, upd_same, fun G2 a tr d m fr hx hin => ⟨rfl, ?_⟩⟩⟩
  have s2 : Same H G2 := fun b o e => fr b o (made_same nx ndx _ _ e) (ne_of_none e nx)
  have ho2 := ho.same s2
  have ho' : HouseObj K C G2 L' x2 := ⟨dx2, a, tr, d, m, hx, hin.same (nw_sub)⟩
  obtain ⟨dx, sa, tr', d', mm, h1, h2⟩ := id ho2
  exact ⟨x, dx, _, .ref C, rfl, h1, hty hx, by unfold PySem.W.notFirst; simp, x, .ref x2, L, rfl, ho2, .inl ⟨x2, L', rfl, ho', _, rfl, q _ s2⟩⟩
theorem ne_house {C : Addr} {L' : Lore} (hi : σ[i]? = some (some (.ref x))) (hj : σ[j]? = some (some (.str L'.text))) (ho : HouseObj K C H L x) (ok : L'.Ok)
    (q : ∀ H', Same H H' → Q (.bl (!decide (L.text = L'.text))) H') : tOp (rNeM C (spHEq K C) E0) (tVar i) (tMake C (spHouseInit K C) [] E0 (tCons (tVar j) tNil)) σ H Q := by
  refine ⟨_, hi, _, hj, fun x2 dx2 nx ndx nex => ⟨x2, dx2, L', rfl, ok, upd_same, fun G2 a tr d m fr hx hin => ⟨rfl, ?_⟩⟩⟩
  have s2 : Same H G2 := fun b o e => fr b o (made_same nx ndx _ _ e) (ne_of_none e nx)
  have ho2 := ho.same s2
  have ho' : HouseObj K C G2 L' x2 := ⟨dx2, a, tr, d, m, hx, hin.same (nw_sub)⟩
  obtain ⟨dx, sa, tr', d', mm, h1, h2⟩ := id ho2
  exact ⟨x, dx, x2, dx2, _, _, rfl, rfl, h1, hx, x, .ref x2, L, rfl, ho2, .inl ⟨x2, L', rfl, ho', _, rfl, q _ s2⟩⟩
theorem eq_no {C : Addr} {d : PyData} (ho : HouseObj K C H L x) (hd : Dq K H y d) (nf : ∀ t : String, t ∈ TY7 → PySem.W.notFirst K C (.type t) = true ∧ PySem.W.kitOne K (.type t) (.ref C) = some false) (q : Q (.bl false) H) : rEqM K C (spHEq K C) E0 (.ref x) y H Q := by
  obtain ⟨dx, sa, tr', d', mm, h1, h2⟩ := id ho
  obtain ⟨n1, n2⟩ := nf _ (ty7 d)
  exact ⟨x, dx, _, _, rfl, h1, hd.ty, n1, x, y, L, rfl, ho, .inr ⟨⟨_, hd.ty, n2⟩, _, rfl, q⟩⟩
end
theorem xn_rest {p : Addr} {H H' : Hp} (s : ExtN H H') : ExtN (Rest p H) (Rest p H') := fun b o e n => by
  by_cases hb : b = p
  · rw [hb, rest_p] at e
    cases e
  · exact rest_at hb (s _ _ (rest_same p H _ _ e) n)
theorem shown_str {K : PySem.W.Frag} {H : Hp} {s : Str} (ok : PyData.strOk s = true) (l : s.length ≤ 300) : Shown K H (.str s) := ⟨.str s, .str s, (sz_str ok).mono (by omega), by simp [PyData.depth]⟩
end K1
set_option Elab.async false
set_option linter.all false
set_option maxRecDepth 100000
set_option maxHeartbeats 4000000
namespace K1
open PySem PySem.Spec PyProof.Rows L2 Kb Kc Kn LamX
abbrev s__law_right : Stmt := top 74
theorem sc__law_right : FnScope ["_law_pot_here", "_law_lore_here", "_law_other", "_law_text_here", "_law_name", "_law_passes", "_law_names", "_law_told_here", "_law_due", "_law_some_here", "_law_known", "_law_caught", "_law_further", "_law_house_here", "_law_value", "_law_row"] ["_law_pot_here"] (defScope s__law_right) := ⟨rfl, rfl, rfl, by decide +kernel, rfl, by decide +kernel, by decide +kernel⟩
section
variable {P : Program} {w : World} {K : PySem.W.Frag} {mg : Str → Option Value} {base : Heap}
theorem ok_right {f f_law_house f_law_text f_law_is_full f_law_told_pass f_law_odd f_law_told : Addr} {fd fd_law_house fd_law_text fd_law_is_full fd_law_told_pass fd_law_odd fd_law_told : FuncData} (F : Fun K "_law_right" "_law_right" s__law_right f fd) (B : Bl mg)
    (c_law_house : Cal P w K mg base 7 "_law_house" s__law_house ["_law_pot_here"] (spHouse K) f_law_house fd_law_house)
    (c_law_text : Cal P w K mg base 2 "_law_text" s__law_text ["_law_lore_here"] (spText K) f_law_text fd_law_text)
    (c_law_is_full : Cal P w K mg base 1 "_law_is_full" s__law_is_full ["_law_lore_here"] (spIsFull K) f_law_is_full fd_law_is_full)
    (c_law_told_pass : Cal P w K mg base 1 "_law_told_pass" s__law_told_pass ["_law_row"] (spToldPass K) f_law_told_pass fd_law_told_pass)
    (c_law_odd : Cal P w K mg base 3 "_law_odd" s__law_odd ["_law_pot_here"] (spOdd K) f_law_odd fd_law_odd)
    (F_told : Fun K "_law_told" "_law_told" s__law_told f_law_told fd_law_told) (b_told : Binds K fd_law_told ["_law_look"] []) (g_told : mg "_law_told" = some (.ref f_law_told))
    {C CN CO fInit fLen fIn fEq fPasses fOE : Addr} {fdInit fdLen fdIn fdEq fdPasses fdOE : FuncData} (O : HOps P w K mg base C CN CO fInit fLen fIn fEq fPasses fOE fdInit fdLen fdIn fdEq fdPasses fdOE)
    {c Pt_ : Addr} {TS : List (Addr × Str)} (TB : TabB base mg c Pt_) (hmT : (Pt_, (("_law_right" : Str) ++ ".<locals>.") ++ "<lambda>") ∈ TS) (hu : ∀ p ∈ TS, p.1 = Pt_ → p.2 = (("_law_right" : Str) ++ ".<locals>.") ++ "<lambda>") (hcode : fd.code = .ref c) :
    FnQ P w K mg base CX0 12 f fd ["_law_pot_here"] (spRight TS) := by
  obtain ⟨oc, od, kV, doc, pm, an, cdt, ct, osl, rfl, lk, hcd⟩ := F_told.ex
  refine fnQ_ofC F sc__law_right hcode (fun vs H Q E h => ?_) (fun A outer s H vs Q E hG hr h => ?_)
  · obtain ⟨p, rfl, _⟩ := h
    rfl
  · obtain ⟨p, rfl, hP, hTS, k⟩ := h
    have GHouse := O.GInit
    have bHouse := O.bInit
    have MHouse := O.M
    have gHouse := O.gHouse
    refine ⟨_, (pss_cons (ps_par (i := 1) (j := 2) (by rfl) sc__law_right.nd rfl rfl (by decide) rfl rfl (pa_cons (pe_call c_law_house.G (hr.mono (by decide)) (by rfl) c_law_house.g c_law_house.F.kp c_law_house.b .nil pass0 (pa_cons (pv 0) pa_nil)) (pa_cons (pe_call c_law_house.G (hr.mono (by decide)) (by rfl) c_law_house.g c_law_house.F.kp c_law_house.b .nil pass0 (pa_cons (pv 0) pa_nil)) pa_nil)) (by rfl))
      (pss_cons (ps_set (i := 3) sc__law_right.nd rfl (Or.inl rfl) (pe_call c_law_text.G (hr.mono (by decide)) (by rfl) c_law_text.g c_law_text.F.kp c_law_text.b .nil pass0 (pa_cons (pv 1) pa_nil)))
      (pss_cons (ps_set (i := 13) sc__law_right.nd rfl (Or.inr rfl) (pe_make MHouse GHouse hr (by rfl) gHouse bHouse .nil pass0 (pa_cons (pv 3) pa_nil)))
      (pss_cons (ps_set (i := 6) sc__law_right.nd rfl (Or.inl rfl) (pe_tupleOf (by rfl) B.tuple (pe_lc (own := [("_law_name", 4), ("_law_passes", 5)]) (tt := tYes) rfl sc__law_right.nd (pi_list (pe_dget (hu_of hr) (pv 1) pe_str (fun _ _ => rfl))) (blkOk_by (own := [("_law_name", 4), ("_law_passes", 5)]) (N := ["_law_pot_here", "_law_lore_here", "_law_other", "_law_text_here", "_law_name", "_law_passes", "_law_names", "_law_told_here", "_law_due", "_law_some_here", "_law_known", "_law_caught", "_law_further", "_law_house_here", "_law_value", "_law_row"]) (sc := defScope s__law_right) (by decide +kernel)) (fun _ _ _ _ _ => (pg_tupK (K := K) (n := 2) rfl rfl (pgs_cons (pg_name (i := 4) sc__law_right.nd rfl (Or.inl rfl)) (pgs_cons (pg_name (i := 5) sc__law_right.nd rfl (Or.inl rfl)) pgs_nil)))) (fun _ _ _ _ _ => pts_nil) (fun _ _ _ _ _ => (pv 4)))))
      (pss_cons (ps_set (i := 7) sc__law_right.nd rfl (Or.inl rfl) (pe_tup (pa_cons (pe_fld (pv 13) rfl) (pa_cons (pe_fld (pv 13) rfl) (pa_cons (pe_fld (pv 13) rfl) (pa_cons (pe_fld (pv 13) rfl) (pa_cons (pe_callB (call_lenM O.GLen (hr.mono (by decide)) O.hLen O.isLen O.bLen pass0) (by rfl) B.len (by decide +kernel) (pa_cons (pv 13) pa_nil)) pa_nil)))))))
      (pss_cons (ps_if (pt_cmpR op_ne (pe_callB (call_repr 290 hG (room_wide hr (by decide))) (by rfl) B.repr (by decide +kernel) (pa_cons (pv 7) pa_nil)) (pe_callB (call_repr 290 hG (room_wide hr (by decide))) (by rfl) B.repr (by decide +kernel) (pa_cons (pe_tup (pa_cons (pv 3) (pa_cons (pe_tupleOf (by rfl) B.tuple (pe_dget (hu_of hr) (pv 1) pe_str (fun _ _ => rfl))) (pa_cons (pv 6) (pa_cons (pe_call c_law_is_full.G (hr.mono (by decide)) (by rfl) c_law_is_full.g c_law_is_full.F.kp c_law_is_full.b .nil pass0 (pa_cons (pv 1) pa_nil)) (pa_cons (pe_callB call_len_seq (by rfl) B.len (by decide +kernel) (pa_cons (pv 6) pa_nil)) pa_nil)))))) pa_nil)) (nomark _))
        (pss_one (ps_ret pe_bl))
        pss_nil)
      (pss_cons (ps_for PassesOwn.never rfl (pi_list (pe_dget (hu_of hr) (pv 1) pe_str (fun _ _ => rfl))) (pg_tup rfl (pgs_cons (pg_name (i := 4) sc__law_right.nd rfl (Or.inl rfl)) (pgs_cons (pg_name (i := 5) sc__law_right.nd rfl (Or.inl rfl)) pgs_nil)))
        (pss_cons (ps_set (i := 8) sc__law_right.nd rfl (Or.inl rfl) (pe_tupleOf (by rfl) B.tuple (pe_lc (own := [("_law_row", 15)]) (g := gName 15) (tt := tYes) rfl sc__law_right.nd (pi_list (pv 5)) (blkOk_by (own := [("_law_row", 15)]) (N := ["_law_pot_here", "_law_lore_here", "_law_other", "_law_text_here", "_law_name", "_law_passes", "_law_names", "_law_told_here", "_law_due", "_law_some_here", "_law_known", "_law_caught", "_law_further", "_law_house_here", "_law_value", "_law_row"]) (sc := defScope s__law_right) (by decide +kernel)) (fun _ _ _ _ _ => (pg_name (i := 15) sc__law_right.nd rfl (Or.inl rfl))) (fun _ _ _ _ _ => pts_nil) (fun _ _ _ _ _ => (pe_call c_law_told_pass.G (hr.mono (by decide)) (by rfl) c_law_told_pass.g c_law_told_pass.F.kp c_law_told_pass.b .nil pass0 (pa_cons (pv 15) pa_nil))))))
      (pss_one (ps_if (PW.pt (pw_or (pt_cmpR (op_notInM O.GIn (hr.mono (by decide)) O.hIn O.isIn O.bIn pass0) (pv 4) (pv 13) rfl) (pw_or1 (pt_cmpR op_ne (pe_callB (call_repr 290 hG (room_wide hr (by decide))) (by rfl) B.repr (by decide +kernel) (pa_cons (pe_meth (pv 13) O.T.cl O.mPasses O.GPasses (hr.mono (by decide)) O.bPasses .nil passF (pa_cons (pv 4) pa_nil)) pa_nil)) (pe_callB (call_repr 290 hG (room_wide hr (by decide))) (by rfl) B.repr (by decide +kernel) (pa_cons (pv 8) pa_nil)) (nomark _)))))
        (pss_one (ps_ret pe_bl))
        pss_nil))))
      (pss_cons (ps_set (i := 9) sc__law_right.nd rfl (Or.inl rfl) (pe_lstB (pa_cons pe_str (pa_cons pe_str (pa_cons (pe_op op_add_str (pe_ix ix_tup (pv 6) pe_int (fun _ _ => rfl)) pe_str) (pa_cons (pe_upper (pe_ix ix_tup (pv 6) pe_int (fun _ _ => rfl))) (pa_cons pe_non (pa_cons pe_int (pa_cons (pe_tup (pa_cons (pe_ix ix_tup (pv 6) pe_int (fun _ _ => rfl)) pa_nil)) (pa_cons (pe_lstB (pa_cons (pe_ix ix_tup (pv 6) pe_int (fun _ _ => rfl)) pa_nil)) pa_nil))))))))))
      (pss_cons (ps_for PassesOwn.never rfl (pi_list (pe_op op_cat (pv 9) (pe_lstB (pa_cons pe_dnewK (pa_cons (pe_call c_law_odd.G (hr.mono (by decide)) (by rfl) c_law_odd.g c_law_odd.F.kp c_law_odd.b .nil pass0 (pa_cons (pv 0) pa_nil)) pa_nil))))) (pg_name (i := 14) sc__law_right.nd rfl (Or.inr rfl))
        (pss_cons (ps_set (i := 10) sc__law_right.nd rfl (Or.inl rfl) (pe_and (pe_callB call_isi (by rfl) B.isinstance (by decide +kernel) (pa_cons (pv 14) (pa_cons (pe_bltn (v := .ty "str") (u := .type "str") (by rfl) B.str (by decide +kernel) rfl) pa_nil))) (pe_one (pe_cmpR op_in_seq (pv 14) (pv 6) rfl))))
      (pss_cons (ps_set (i := 11) sc__law_right.nd rfl (Or.inl rfl) (pe_ix ix_tup (pe_lam3 (k := 3) (qv := ("_law_right" : Str) ++ ".<locals>.") rfl (by rfl) g_told F_told.kp lk hcd b_told sc__law_told rfl (.inl rfl) (told_gives2 O.gOrderError) TB rfl hmT hu (hr.mono (by decide)) (lamS_by (sc := defScope s__law_right) (by decide +kernel)) rfl (fun _ _ _ _ _ => rfl) (fun A outer s H E f c2 hr2 => pe_meth (pv 13) O.T.cl O.mPasses O.GPasses (hr2.mono (by decide)) O.bPasses .nil (passes_call (takes_of rfl rfl rfl rfl) (fun _ _ _ _ h => h)) (pa_cons (pv 14) pa_nil))) pe_int (fun _ _ => rfl)))
      (pss_cons (ps_if (PW.pt (pw_or (pt_cmpR op_ne (pe_cmpR (op_inM O.GIn (hr.mono (by decide)) O.hIn O.isIn O.bIn pass0) (pv 14) (pv 13) rfl) (pv 10) (nomark _)) (pw_or1 (pt_cmpR op_ne (pe_cmp (pc_isN (pv 11)) rfl) (pv 10) (nomark _)))))
        (pss_one (ps_ret pe_bl))
        pss_nil)
      (pss_one (ps_if (PW.pt (pw_and (pt_not (pt_val (pv 10))) (pw_and1 (pt_not (PW.pt (pw_and (pt_val (pe_callB call_isH (by rfl) B.isinstance (by decide +kernel) (pa_cons (pv 11) (pa_cons (pe_glob (v := .ref CN) (by rfl) O.gNoRule rfl) pa_nil)))) (pw_and1 (pt_cmpR op_eq (pe_callB (call_repr 290 hG (room_wide hr (by decide))) (by rfl) B.repr (by decide +kernel) (pa_cons (pe_heldF (pv 11)) pa_nil)) (pe_callB (call_repr 290 hG (room_wide hr (by decide))) (by rfl) B.repr (by decide +kernel) (pa_cons (pv 14) pa_nil)) (nomark _)))))))))
        (pss_one (ps_ret pe_bl))
        pss_nil))))))
      (pss_cons (ps_set (i := 12) sc__law_right.nd rfl (Or.inl rfl) (pe_call c_law_text.G (hr.mono (by decide)) (by rfl) c_law_text.g c_law_text.F.kp c_law_text.b .nil pass0 (pa_cons (pv 2) pa_nil)))
      (pss_cons (ps_if (PW.pt (pw_or (pt_not (pt_cmpR (op_eqM O.GEq (hr.mono (by decide)) O.hEq O.isEq O.bEq pass0) (pv 13) (pe_make MHouse GHouse hr (by rfl) gHouse bHouse .nil pass0 (pa_cons (pv 3) pa_nil)) (nomark _))) (pw_or1 (pt_cmpR (op_neM O.GEq (hr.mono (by decide)) O.FB O.hC O.bEq pass0) (pv 13) (pe_make MHouse GHouse hr (by rfl) gHouse bHouse .nil pass0 (pa_cons (pv 3) pa_nil)) (nomark _)))))
        (pss_one (ps_ret pe_bl))
        pss_nil)
      (pss_cons (ps_if (pt_cmpR op_ne (pe_cmpR (op_eqM O.GEq (hr.mono (by decide)) O.hEq O.isEq O.bEq pass0) (pv 13) (pe_make MHouse GHouse hr (by rfl) gHouse bHouse .nil pass0 (pa_cons (pv 12) pa_nil)) (nomark _)) (pe_cmpR op_eq (pv 3) (pv 12) (nomark _)) (nomark _))
        (pss_one (ps_ret pe_bl))
        pss_nil)
      (pss_cons (ps_if (PW.pt (pw_or (pt_cmpR (op_eqM O.GEq (hr.mono (by decide)) O.hEq O.isEq O.bEq pass0) (pv 13) (pv 3) (nomark _)) (pw_or1 (pt_cmpR (op_eqM O.GEq (hr.mono (by decide)) O.hEq O.isEq O.bEq pass0) (pv 13) (pv 6) (nomark _)))))
        (pss_one (ps_ret pe_bl))
        pss_nil)
      (pss_one (ps_ret (pe_not (pe_cmpR (op_eqM O.GEq (hr.mono (by decide)) O.hEq O.isEq O.bEq pass0) (pv 13) (pe_call c_law_odd.G (hr.mono (by decide)) (by rfl) c_law_odd.g c_law_odd.F.kp c_law_odd.b .nil pass0 (pa_cons (pv 0) pa_nil)) (nomark _)))))))))))))))))), ?_⟩
    refine ⟨_, rfl, p, 0, rfl, hP, by omega, fun H1 y1 L T1 hL1 ok1 => ⟨_, rfl, p, _, rfl, T1.1, by omega, fun H2 y2 L2 T2 hL2 ok2 => ⟨_, _, rfl, ?_⟩⟩⟩
    have T2' := T1.go T2
    have r1 : HLore K (Rest p H2) L y1 := (hL1.same new_rest).same T2.2
    have r2 : HLore K (Rest p H2) L2 y2 := hL2.same new_rest
    refine ⟨_, rfl, y1, L, rfl, r1.same (rest_same p H2), ok1, fun H3 s23 => ?_⟩
    have T3 : Took p 0 (1000 + 1000) H H3 := ⟨T2'.1.same s23, T2'.2.trans (.same s23)⟩
    have r1 := r1.same (show Same (Rest p H2) (Rest p H3) from Ext.same s23)
    have r2 := r2.same (show Same (Rest p H2) (Rest p H3) from Ext.same s23)
    refine ⟨_, rfl, fun x dx nx ndx nex => ⟨x, dx, L, rfl, ok1, upd_same, fun H5 a tr d m fr hx hin => ⟨rfl, ?_⟩⟩⟩
    have s35 : Same H3 H5 := fun b o e => fr b o (made_same nx ndx _ _ e) (ne_of_none e nx)
    have ho : HouseObj K C H5 L x := ⟨dx, a, tr, d, m, hx, hin.same (nw_sub)⟩
    have hoR : HouseObj K C (Rest p H5) L x := by
      obtain ⟨pa, pb, pc, ep, _⟩ := id T3.1.ex
      refine ⟨dx, a, tr, d, m, rest_at (fun z => ?_) hx, hin.same fun b o e => ?_⟩
      · rw [z, ep] at nx
        cases nx
      · refine rest_at (fun z => ?_) (nw_sub _ _ e)
        rw [z] at e
        have e' : (if (upd (upd H3 dx (HO.own x)) x (HO.ins C dx [])) p = none then H5 p else none) = some o := e
        rw [if_neg (by rw [made_same nx ndx _ _ ep]; exact fun z => nomatch z)] at e'
        cases e'
    have T5 : Took p 0 (1000 + 1000) H H5 := ⟨T3.1.same s35, T3.2.trans (.same s35)⟩
    have r1 := r1.same (show Same (Rest p H3) (Rest p H5) from Ext.same s35)
    have r2 := r2.same (show Same (Rest p H3) (Rest p H5) from Ext.same s35)
    -- names
    obtain ⟨dl, ls, lf, lr, fs, rts, rfl, hd, hls, hlf, hfs, hlr, hrs⟩ := id r1
    obtain ⟨hsg, f2, fok, rok, rne, r4, rnd⟩ := id ok1
    have hlr5 := seq_rest hlr
    refine ⟨_, rfl, dl, .ref lr, rfl, .inl ⟨_, Sum.inr "rules", .inl (rest_same p H5 _ _ hd), rfl, (kv3_rules ls lf lr).symm⟩, lr, rfl, ⟨_, hlr5⟩, fun D hD => lc_it walk_list (fun i H6 => Same H5 H6 ∧ H6 D = some (.lst (((L.rs.take i).map (·.1)).map V.str))) ⟨Kb.same_upd hD, upd_same⟩ (fun i H6 _ ⟨s, _⟩ => Same.seq s hlr5) (fun i y H6 H' hi ⟨s, eD⟩ yy => ?_) fun H6 ⟨s56, eD6⟩ => ?_⟩
    · obtain ⟨rfl, hy⟩ := yy
      obtain ⟨r, hri, t, b, ys, rfl, ht, hb, hps⟩ := all2_at hrs hy
      refine ⟨t, _, rfl, Kb.Same.seqT s (sqT_rest ht), rfl, _, _, rfl, _, _, rfl, rfl, rfl, _, rfl, _, eD, ?_, fun b o e => ?_, ?_⟩
      · rw [List.length_map, List.length_map, List.length_take]
        exact Nat.lt_of_le_of_lt (show _ ≤ 4 by omega) (by decide)
      · rw [upd_ne (ne_of_none e hD)]
        exact s b o e
      · rw [upd_same, List.take_succ, hri]
        simp
    · rw [hrs.1, List.take_length] at eD6
      refine .inl ⟨D, _, rfl, .of eD6, fun tn htn => ?_⟩
      have s67 := Kb.same_upd (o := .tup (L.names.map V.str)) htn
      have etn : (upd H6 tn (.tup (L.names.map V.str))) tn = some (.tup (L.names.map V.str)) := upd_same
      have s57 := Same.trans s56 s67
      show tSeq _ _ _ _ (upd H6 tn (.tup (L.names.map V.str)))
      obtain ⟨H7, q7⟩ : ∃ z, z = upd H6 tn (.tup (L.names.map V.str)) := ⟨_, rfl⟩
      rw [← q7] at etn s57 ⊢
      have ho7 := ho.same s57
      have r1 := r1.same (show Same (Rest p H5) (Rest p H7) from Ext.same s57)
      have r2 := r2.same (show Same (Rest p H5) (Rest p H7) from Ext.same s57)
      obtain ⟨dx7, sa, tr7, d7, m7, hx7, hin7⟩ := id ho7
      refine ⟨_, rfl, x, C, dx7, _, .str L.text, rfl, hx7, O.T.cl, O.T.n1, hf_text, _, rfl, x, C, dx7, _, .ref sa, rfl, hx7, O.T.cl, O.T.n2, hf_signs, _, rfl, x, C, dx7, _, .ref tr7, rfl, hx7, O.T.cl, O.T.n3, hf_rules, _, rfl, x, C, dx7, _, .bl L.full, rfl, hx7, O.T.cl, O.T.n4, hf_full, _, rfl, x, dx7, _, rfl, hx7, x, L, rfl, ho7, L.rs.length, rfl, by omega, (by show 5 ≤ sizeLine; decide), fun t8 ht8 => ?_⟩
      have s78 := Kb.same_upd (o := .tup [.str L.text, .ref sa, .ref tr7, .bl L.full, nv L.rs.length]) ht8
      have en : (L.rs.map fun r => V.str r.1) = L.names.map V.str := by
        unfold Lore.names
        rw [List.map_map]
        rfl
      have dq8 : Dq K (upd H7 t8 (.tup [.str L.text, .ref sa, .ref tr7, .bl L.full, nv L.rs.length])) (.ref t8) (toldD L) :=
        .tup (.of upd_same) (.cons (.str _) (.cons (.tup (hin7.sg.same s78).sq (dq_strs L.sg)) (.cons (.tup (by have := Kb.Same.seqT s78 hin7.rs; rw [en] at this; exact this) (dq_strs L.names)) (.cons (.bl _) (.cons (.int _) .nil)))))
      have sz := sz_told ok1
      have szl : (toldD L).shown.length ≤ sizeLine := Nat.le_trans sz.2.2 (by decide)
      have r1 := r1.same (show Same (Rest p H7) (Rest p _) from Ext.same s78)
      have r2 := r2.same (show Same (Rest p H7) (Rest p _) from Ext.same s78)
      have ho8 := ho7.same s78
      have etn := s78 _ _ etn
      have s58 := Same.trans s57 s78
      obtain ⟨H8, q8⟩ : ∃ z, z = upd H7 t8 (.tup [.str L.text, .ref sa, .ref tr7, .bl L.full, nv L.rs.length]) := ⟨_, rfl⟩
      rw [← q8] at dq8 r1 r2 ho8 etn s58 ⊢
      refine ⟨_, rfl, .ref t8, toldD L, rfl, dq8, sz.1, ?_, szl, ?_⟩
      · exact told_depth L
      have sR : Same (Rest p H5) (Rest p H8) := Ext.same s58
      have hd8 : H8 dl = some (.dK (kv3 ls lf lr)) := rest_same p H8 _ _ (sR _ _ hd)
      refine ⟨_, rfl, _, rfl, dl, .ref ls, rfl, .inl ⟨_, Sum.inr "signs", .inl hd8, rfl, (kv3_signs ls lf lr).symm⟩, .inl ⟨ls, _, rfl, Same.seq s58 (seq_rest hls), fun u hu => ?_⟩⟩
      have s89 := Kb.same_upd (o := .tup (L.sg.map V.str)) hu
      have eu : (upd H8 u (.tup (L.sg.map V.str))) u = some (.tup (L.sg.map V.str)) := upd_same
      refine ⟨_, rfl, _, rfl, .ref dl, L, rfl, r1.same (Same.trans (rest_same p H8) s89), ok1, fun H9 s9 => ?_⟩
      refine ⟨_, rfl, tn, _, rfl, .inr (.of (s9 _ _ (s89 _ _ etn))), (by show 5 ≤ sizeLine; decide), fun t9 ht9 => ?_⟩
      have s9u := Kb.same_upd (o := .tup [.str L.text, .ref u, .ref tn, .bl L.full, .int ((L.names.map V.str).length : Nat)]) ht9
      have nl : (L.names.map V.str).length = L.rs.length := by
        unfold Lore.names
        rw [List.length_map, List.length_map]
      have dq9 : Dq K (upd H9 t9 (.tup [.str L.text, .ref u, .ref tn, .bl L.full, .int ((L.names.map V.str).length : Nat)])) (.ref t9) (toldD L) := by
        refine .tup (.of upd_same) (.cons (.str _) (.cons (.tup (.of (s9u _ _ (s9 _ _ eu))) (dq_strs L.sg)) (.cons (.tup (.of (s9u _ _ (s9 _ _ (s89 _ _ etn)))) (dq_strs L.names)) (.cons (.bl _) (.cons ?_ .nil)))))
        rw [nl]
        exact .int _
      refine ⟨.ref t9, toldD L, rfl, dq9, sz.1, told_depth L, szl, ?_⟩
      generalize (toldD L).shown = sh
      refine ⟨rfl, _, rfl, ite2 (fun c => ?_) (fun _ => ?_)⟩
      · rw [decide_eq_true (rfl : V.str sh = V.str sh)] at c
        cases c
      have s8A := Same.trans s89 (Same.trans s9 s9u)
      have r1 := r1.same (show Same (Rest p H8) (Rest p _) from Ext.same s8A)
      have r2 := r2.same (show Same (Rest p H8) (Rest p _) from Ext.same s8A)
      have ho9 := ho8.same s8A
      have etn := s8A _ _ etn
      have s5A := Same.trans s58 s8A
      obtain ⟨HA, qA⟩ : ∃ z, z = (upd H9 t9 (.tup [.str L.text, .ref u, .ref tn, .bl L.full, .int ((L.names.map V.str).length : Nat)])) := ⟨_, rfl⟩
      rw [← qA] at r1 r2 ho9 etn s5A ⊢
      obtain ⟨dlA, lsA, lfA, lrA, fsA, rtsA, eA, hdA, hlsA, hlfA, hfsA, hlrA, hrsA⟩ := id r1
      cases eA
      have hdA' := rest_same p HA _ _ hdA
      have hlrA' := seq_rest hlrA
      refine ⟨_, rfl, dl, .ref lrA, rfl, .inl ⟨_, Sum.inr "rules", .inl hdA', rfl, (kv3_rules lsA lfA lrA).symm⟩, lrA, rfl, ⟨_, hlrA'⟩, for_it (walk_list (xs := rtsA)) (fun i σ H1 => ∃ (v4 v5 v8 : Option V), σ = [some (.ref p), some (.ref dl), some y2, some (.str L.text), v4, v5, some (.ref tn), some (.ref t8), v8, none, none, none, none, some (.ref x), none, none] ∧ Same HA H1) ⟨none, none, none, rfl, Same.refl _⟩ (fun i σ H1 _ ⟨_, _, _, _, s⟩ => Same.seq s hlrA') (fun i y σ H2 H1 hi ⟨v4, v5, v8, e, s1⟩ yy => ?_) fun σ H1 ⟨v4, v5, v8, e, s1⟩ => ?_⟩
      · subst e
        obtain ⟨rfl, hy⟩ := yy
        obtain ⟨r, hri, t, b, ys, rfl, ht, hb, hps⟩ := all2_at hrsA hy
        have rm := List.mem_of_getElem? hri
        obtain ⟨o1, o2, o3, o4, o5⟩ := rok r rm
        have sH : Same (Rest p HA) H1 := Same.trans (rest_same p HA) s1
        refine ⟨t, _, rfl, Kb.Same.seqT sH ht, rfl, _, _, rfl, _, _, rfl, rfl, ?_⟩
        refine ⟨_, rfl, b, rfl, ⟨_, Same.seq sH hb⟩, fun D hD => lc_it walk_list (fun i H3 => Same H1 H3 ∧ ∃ acc, H3 D = some (.lst acc) ∧ All2 (isPass K H3) (r.2.take i) acc) ⟨Kb.same_upd hD, [], upd_same, .nil⟩ (fun i H3 _ ⟨s, _⟩ => Same.seq (Same.trans sH s) hb) (fun i y H3 H' hi ⟨s, acc, eD, ha⟩ yy => ?_) fun H3 ⟨s3, acc, eD, ha⟩ => ?_⟩
        · obtain ⟨rfl, hy⟩ := yy
          obtain ⟨q, hq, hqq⟩ := all2_at hps hy
          refine ⟨rfl, _, rfl, y, q, L.sg, rfl, hqq.same (Same.trans sH s), hsg, o4 q (List.mem_of_getElem? hq), fun H5 y' s5 hy' => ⟨acc, s5 _ _ eD, ?_, fun b o e => ?_, acc ++ [y'], upd_same, ?_⟩⟩
          · rw [ha.1, List.length_take]
            exact Nat.lt_of_le_of_lt (show _ ≤ 3 by omega) (by decide)
          · rw [upd_ne (ne_of_none e hD)]
            exact s5 _ _ (s _ _ e)
          · rw [List.take_succ, hq]
            exact All2.snoc (ha.imp fun _ _ h => isPass_put (s5 _ _ eD) (h.same s5)) (isPass_put (s5 _ _ eD) hy')
        · rw [hps.1, List.take_length] at ha
          refine .inl ⟨D, acc, rfl, .of eD, fun u hu => ?_⟩
          have s4 := Kb.same_upd (o := .tup acc) hu
          have eu : (upd H3 u (.tup acc)) u = some (.tup acc) := upd_same
          have ha4 : All2 (isPass K (upd H3 u (.tup acc))) r.2 acc := ha.imp fun _ _ h => h.same s4
          have s14 := Same.trans s1 (Same.trans s3 s4)
          show gName 8 (.ref u) _ (upd H3 u (.tup acc)) _
          obtain ⟨H4, q4⟩ : ∃ z, z = upd H3 u (.tup acc) := ⟨_, rfl⟩
          rw [← q4] at eu ha4 s14 ⊢
          have hoA := ho9.same s14
          obtain ⟨dxA, saA, trA, dA, mA, hxA, hinA⟩ := id hoA
          have mem : r.1 ∈ L.names := List.mem_map.mpr ⟨r, rm, rfl⟩
          refine ⟨_, rfl, _, rfl, x, dxA, _, rfl, hxA, x, _, L, rfl, hoA, .inl ⟨r.1, rfl, _, rfl, _, rfl, ?_⟩⟩
          rw [decide_eq_true mem]
          refine iteF ?_
          have lk0 : (hf6 (.str L.text) (.ref saA) (.ref trA) (.bl L.full) mA (.ref dA)).lookup ("passes" : Str) = none := by
            unfold hf6
            rw [look_ne (by decide +kernel), look_ne (by decide +kernel), look_ne (by decide +kernel), look_ne (by decide +kernel), look_ne (by decide +kernel), look_ne (by decide +kernel)]
            rfl
          refine ⟨_, rfl, x, dxA, _, rfl, hxA, lk0, _, rfl, x, _, L, rfl, ok1, hoA, .inl ⟨r, rm, rfl, fun t5 ys5 q5 pa5 => ?_⟩⟩
          obtain ⟨d1, p1, a1, b1, c1, e1⟩ := passes_shown hsg o4 o3 q5 pa5
          refine ⟨.ref t5, .tuple d1, rfl, a1, b1, c1, e1, ?_⟩
          obtain ⟨d2, p2, a2, b2, c2, e2⟩ := passes_shown hsg o4 o3 (.of eu) ha4
          refine ⟨_, rfl, .ref u, .tuple d2, rfl, a2, b2, c2, e2, ?_⟩
          have ed : d1 = d2 := pr_eq psD_eq p1 p2
          subst ed
          generalize (PyData.tuple d1).shown = sh
          refine ⟨rfl, _, rfl, ite2 (fun c => ?_) (fun _ => ?_)⟩
          · rw [decide_eq_true (rfl : V.str sh = V.str sh)] at c
            cases c
          · exact ⟨_, _, _, rfl, s14⟩
      · subst e
        obtain ⟨r0, rr, er⟩ : ∃ a b, L.rs = a :: b := by
          cases e : L.rs with
          | nil => exact absurd e rne
          | cons a b => exact ⟨a, b, rfl⟩
        have en0 : L.names.map V.str = V.str r0.1 :: (rr.map fun r => V.str r.1) := by
          unfold Lore.names
          rw [er, List.map_cons, List.map_cons, List.map_map]
          rfl
        have n08 : r0.1.length ≤ 8 := wd_le8 _ (rok r0 (by rw [er]; exact .head _)).1
        have tn1 : ∀ {G : Hp}, Same H1 G → SqT K G tn (V.str r0.1 :: (rr.map fun r => V.str r.1)) := fun s => by
          rw [← en0]
          exact .of (s _ _ (s1 _ _ etn))
        have le1 : r0.1.length + 1 ≤ sizeLine := Nat.le_trans (show _ ≤ 9 by omega) (by decide)
        have le2 : r0.1.length ≤ sizeLine := Nat.le_trans n08 (by decide)
        have ix0 : atI (V.str r0.1 :: (rr.map fun r => V.str r.1)) 0 = some (V.str r0.1) := atI_nat' (by decide) rfl
        refine ⟨_, rfl, tn, _, 0, _, rfl, rfl, tn1 (Same.refl _), ix0, _, _, rfl, rfl, le1, ?_⟩
        refine ⟨_, rfl, tn, _, 0, _, rfl, rfl, tn1 (Same.refl _), ix0, ⟨_, rfl⟩, _, rfl, rfl, Nat.le_trans n08 (by decide), ?_⟩
        refine ⟨_, rfl, tn, _, 0, _, rfl, rfl, tn1 (Same.refl _), ix0, (by show 1 ≤ sizeLine; decide), fun ta hta => ?_⟩
        have sa := Kb.same_upd (o := .tup [.str r0.1]) hta
        refine ⟨_, rfl, tn, _, 0, _, rfl, rfl, tn1 sa, ix0, (by show 1 ≤ sizeLine; decide), fun tb htb gtb => ⟨(by show 8 ≤ sizeLine; decide), fun lw hlw _ => ?_⟩⟩
        have sb := Kb.same_upd (o := .lst [.str r0.1]) htb
        have sw := Kb.same_upd (o := .lst [.str "", .str "zq", .str (r0.1 ++ "x"), .str (Txt.upper r0.1), .non, .int 0, .ref ta, .ref tb]) hlw
        have sab := Same.trans sa (Same.trans sb sw)
        have elw : (upd (upd (upd H1 ta (.tup [.str r0.1])) tb (.lst [.str r0.1])) lw (.lst [.str "", .str "zq", .str (r0.1 ++ "x"), .str (Txt.upper r0.1), .non, .int 0, .ref ta, .ref tb])) lw = some (.lst [.str "", .str "zq", .str (r0.1 ++ "x"), .str (Txt.upper r0.1), .non, .int 0, .ref ta, .ref tb]) := upd_same
        have eta : (upd (upd (upd H1 ta (.tup [.str r0.1])) tb (.lst [.str r0.1])) lw (.lst [.str "", .str "zq", .str (r0.1 ++ "x"), .str (Txt.upper r0.1), .non, .int 0, .ref ta, .ref tb])) ta = some (.tup [.str r0.1]) := sw _ _ (sb _ _ upd_same)
        have etb : (upd (upd (upd H1 ta (.tup [.str r0.1])) tb (.lst [.str r0.1])) lw (.lst [.str "", .str "zq", .str (r0.1 ++ "x"), .str (Txt.upper r0.1), .non, .int 0, .ref ta, .ref tb])) tb = some (.lst [.str r0.1]) := sw _ _ upd_same
        show gName 9 (.ref lw) _ (upd (upd (upd H1 ta (.tup [.str r0.1])) tb (.lst [.str r0.1])) lw (.lst [.str "", .str "zq", .str (r0.1 ++ "x"), .str (Txt.upper r0.1), .non, .int 0, .ref ta, .ref tb])) _
        have s5B := Same.trans s5A (Same.trans s1 sab)
        obtain ⟨HB, qB⟩ : ∃ z, z = (upd (upd (upd H1 ta (.tup [.str r0.1])) tb (.lst [.str r0.1])) lw (.lst [.str "", .str "zq", .str (r0.1 ++ "x"), .str (Txt.upper r0.1), .non, .int 0, .ref ta, .ref tb])) := ⟨_, rfl⟩
        have sAB := Same.trans s1 sab
        rw [← qB] at elw eta etb s5B sAB ⊢
        have potB : PotAt HB p 2000 := (T5.1.same s5B).mono (by omega)
        refine ⟨_, rfl, fun e1 he1 => ⟨_, rfl, p, 2000, rfl, potB.new he1, by omega, fun HC xo d hd dqo TC => ⟨(by show 2 ≤ sizeLine; decide), fun lq hlq _ => ?_⟩⟩⟩
        have lwp : lw ≠ p := fun z => by
          obtain ⟨a, b, c, e, _⟩ := potB.ex
          rw [← z, elw] at e
          cases e
        have elwC : HC lw = some (.lst [.str "", .str "zq", .str (r0.1 ++ "x"), .str (Txt.upper r0.1), .non, .int 0, .ref ta, .ref tb]) := TC.2.at lwp (Kb.same_upd he1 _ _ elw)
        have sq := Kb.same_upd (o := .lst [.ref e1, xo]) hlq
        refine ⟨lw, lq, _, _, rfl, rfl, sq _ _ elwC, upd_same, (by show 10 ≤ sizeLine; decide), fun lz hlz => ?_⟩
        have f1 : Same HC (upd (upd HC lq (.lst [.ref e1, xo])) lz (.lst ([.str "", .str "zq", .str (r0.1 ++ "x"), .str (Txt.upper r0.1), .non, .int 0, .ref ta, .ref tb] ++ [.ref e1, xo]))) := Same.trans sq (Kb.same_upd hlz)
        have f2 : (upd (upd HC lq (.lst [.ref e1, xo])) lz (.lst ([.str "", .str "zq", .str (r0.1 ++ "x"), .str (Txt.upper r0.1), .non, .int 0, .ref ta, .ref tb] ++ [.ref e1, xo]))) lz = some (.lst ([.str "", .str "zq", .str (r0.1 ++ "x"), .str (Txt.upper r0.1), .non, .int 0, .ref ta, .ref tb] ++ [.ref e1, xo])) := upd_same
        generalize (upd (upd HC lq (.lst [.ref e1, xo])) lz (.lst ([.str "", .str "zq", .str (r0.1 ++ "x"), .str (Txt.upper r0.1), .non, .int 0, .ref ta, .ref tb] ++ [.ref e1, xo]))) = HZ at f1 f2 ⊢
        have XB : Ext p HB HC := Kb.Ext.trans (Ext.same (Kb.same_upd he1)) TC.2
        have X5 : Ext p H5 HZ := Kb.Ext.trans (Ext.same s5B) (Kb.Ext.trans XB (Ext.same f1))
        have TZ : Tabs TS HZ := tabs_pot hP (Kb.Ext.trans T5.2 X5) hTS
        have XZ : XN p H HZ := XN.ext (Kb.Ext.trans T5.2 X5)
        have potZ : PotAt HZ p 3000 := (TC.1.same f1).mono (by omega)
        have np : ∀ {b : Addr} {o : HO}, HB b = some o → (∀ xs, o ≠ .lst xs) → HZ b = some o := fun {b o} e n => f1 _ _ (XB.at (fun z => by
          obtain ⟨pa, pb, pc, ep, _⟩ := potB.ex
          rw [z, ep] at e
          exact n _ (Option.some.inj e).symm) e)
        have etnZ := np (sAB _ _ etn) (fun xs z => nomatch z)
        have hoZ : HouseObj K C HZ L x := (hoR.same X5).same (rest_same p HZ)
        have rZ : HLore K HZ L2 y2 := (r2.same (show Same (Rest p HA) (Rest p HZ) from Kb.Ext.trans (Ext.same sAB) (Kb.Ext.trans XB (Ext.same f1)))).same (rest_same p HZ)
        have vals : ∀ v ∈ ([.str "", .str "zq", .str (r0.1 ++ "x"), .str (Txt.upper r0.1), .non, .int 0, .ref ta, .ref tb] ++ [.ref e1, xo] : List V), Shown K HZ v := by
          have ep : e1 ≠ p := fun z => by
            obtain ⟨pa, pb, pc, q, _⟩ := potB.ex
            rw [← z, he1] at q
            cases q
          have tbp : tb ≠ p := fun z => by
            obtain ⟨pa, pb, pc, q, _⟩ := potB.ex
            rw [← z, etb] at q
            cases q
          have w0 : PyData.strOk r0.1 = true := wd_ok _ (rok r0 (by rw [er]; exact .head _)).1
          have w1 := up_ok _ (rok r0 (by rw [er]; exact .head _)).1
          have z0 := (sz_str w0).mono (show _ ≤ 90 by omega)
          intro v hv
          simp only [List.cons_append, List.nil_append, List.mem_cons, List.not_mem_nil, or_false] at hv
          rcases hv with rfl | rfl | rfl | rfl | rfl | rfl | rfl | rfl | rfl | rfl
          · exact shown_str (by decide +kernel) (by decide +kernel)
          · exact shown_str (by decide +kernel) (by decide +kernel)
          · exact shown_str (ok_app w0 (by decide +kernel)) (by
            have e : (r0.1 ++ ("x" : Str)).length = r0.1.length + ("x" : Str).length := Array.size_append ..
            have e2 : ("x" : Str).length = 1 := by decide +kernel
            omega)
          · exact shown_str w1.1 (Nat.le_trans w1.2 (by decide))
          · exact ⟨.none, .non, (sz_dec (by decide +kernel)).mono (by omega), by decide +kernel⟩
          · exact ⟨.int 0, .int 0, (sz_dec (by decide +kernel)).mono (by omega), by decide +kernel⟩
          · exact ⟨.tuple [.str r0.1], .tup (.of (np eta (fun xs z => nomatch z))) (.cons (.str _) .nil), (Sz.tup (SzL.cons z0 SzL.nil)).mono (by omega), by simp [PyData.depth, PyData.depthAll]⟩
          · exact ⟨.list [.str r0.1], .lst (.of (f1 _ _ (XB.at tbp etb))) gtb (.cons (.str _) .nil), (Sz.lst (SzL.cons z0 SzL.nil)).mono (by omega), by simp [PyData.depth, PyData.depthAll]⟩
          · exact ⟨.dict [], .dic (.inl (f1 _ _ (TC.2.at ep upd_same))) .nil, (sz_dec (by decide +kernel)).mono (by omega), by decide +kernel⟩
          · exact ⟨d, Dq.same f1 _ _ (Dq.same (rest_same p HC) _ _ (Dq.same new_rest _ _ dqo)), (odd_sz _ hd).mono (by omega), by have := (odd_sz _ hd).2.1; omega⟩
        refine ⟨lz, rfl, ⟨_, .of f2⟩, for_it (walk_list (xs := [.str "", .str "zq", .str (r0.1 ++ "x"), .str (Txt.upper r0.1), .non, .int 0, .ref ta, .ref tb] ++ [.ref e1, xo])) (fun i σ H1 => ∃ (v4 v5 v8 v10 v11 v14 : Option V), σ = [some (.ref p), some (.ref dl), some y2, some (.str L.text), v4, v5, some (.ref tn), some (.ref t8), v8, some (.ref lw), v10, v11, none, some (.ref x), v14, none] ∧ ExtN HZ H1 ∧ Tabs TS H1) ⟨_, _, _, _, _, _, rfl, ExtN.refl _, TZ⟩ (fun i σ H1 _ ⟨_, _, _, _, _, _, _, s, _⟩ => xseq s (.of f2)) (fun i y σ H2 H1 hi ⟨v4, v5, v8, v10, v11, v14, e, s1, t1⟩ yy => ?_) fun σ H1 ⟨v4, v5, v8, v10, v11, v14, e, s1, t1⟩ => ?_⟩
        · subst e
          obtain ⟨rfl, hy⟩ := yy
          have vs := vals y (List.mem_of_getElem? hy)
          have lkh : ∀ {G : Hp}, ExtN H1 G → HouseObj K C G L x := fun z => hoZ.xn (s1.trans z)
          have lkn : ∀ {G : Hp}, ExtN H1 G → SqT K G tn (L.names.map V.str) := fun z => xseqT (s1.trans z) (.of etnZ)
          have cs : (∃ s, y = .str s ∧ s ∈ L.names) ∨ ∀ G, ExtN HZ G → NoName K G L y := by
            obtain ⟨d, dq, _⟩ := vs
            rcases ty_case dq with ⟨s, rfl⟩ | _
            · by_cases m : s ∈ L.names
              · exact .inl ⟨s, rfl, m⟩
              · exact .inr fun G _ => .inl ⟨s, rfl, m⟩
            · by_cases q : ∃ s, y = .str s
              · obtain ⟨s, rfl⟩ := q
                by_cases m : s ∈ L.names
                · exact .inl ⟨s, rfl, m⟩
                · exact .inr fun G _ => .inl ⟨s, rfl, m⟩
              · exact .inr fun G z => .inr ((ty_case (Dq.xn z _ _ dq)).resolve_left q)
          rcases cs with ⟨s, rfl, m⟩ | hn
          · refine known_yes (L := L) rfl rfl (lkn (ExtN.refl _)) m ?_
            refine told_yes (L := L) rfl rfl t1 ok1 (lkh (ExtN.refl _)) m fun G xG tG => ?_
            refine inH_yes (L := L) rfl rfl (lkh xG) m ?_
            refine ⟨_, rfl, rfl, _, rfl, iteF ?_⟩
            refine ⟨_, rfl, _, rfl, rfl, _, rfl, iteF ?_⟩
            refine ⟨_, rfl, _, rfl, iteF (iteF ?_)⟩
            exact ⟨_, _, _, _, _, _, rfl, s1.trans xG, tG⟩
          · refine known_no (L := L) rfl rfl (lkn (ExtN.refl _)) (hn _ s1) ?_
            refine told_no (L := L) rfl rfl t1 ok1 (lkh (ExtN.refl _)) (fun G z => hn _ (s1.trans z)) O.exm fun G ae dE xG tG he => ?_
            refine inH_no (L := L) rfl rfl (lkh xG) (hn _ (s1.trans xG)) ?_
            refine ⟨_, rfl, rfl, _, rfl, iteF ?_⟩
            refine ⟨_, rfl, _, rfl, rfl, _, rfl, iteF ?_⟩
            obtain ⟨d, dq, sz, dep⟩ := vs.xn (s1.trans xG)
            have szl := Nat.le_trans sz.2.2 (show 4000 ≤ sizeLine by decide)
            refine ⟨_, rfl, _, rfl, iteT ?_⟩
            refine ⟨_, rfl, ae, CN, dE, _, _, _, true, rfl, he, O.EN.ec, .own _, (O.EN.kit O.EN).trans (by simp), _, rfl, iteT ?_⟩
            refine ⟨_, rfl, ae, CN, dE, _, y, rfl, he, O.EN.ec, O.EN.no, rfl, y, d, rfl, dq, sz.1, dep, szl, ?_⟩
            refine ⟨_, rfl, y, d, rfl, dq, sz.1, dep, szl, ?_⟩
            generalize d.shown = sh
            refine ⟨rfl, _, rfl, ?_⟩
            rw [decide_eq_true (rfl : V.str sh = V.str sh)]
            refine iteF ?_
            exact ⟨_, _, _, _, _, _, rfl, s1.trans xG, tG⟩
        · subst e
          have hR : ∀ {G : Hp}, Ext p H1 G → HouseObj K C (Rest p G) L x := fun z => ((hoR.same X5).xn (xn_rest s1)).same z
          have hG : ∀ {G : Hp}, Same H1 G → HouseObj K C G L x := fun z => (hoZ.xn s1).same z
          refine ⟨_, rfl, y2, L2, rfl, rZ.xn s1, ok2, fun G1 g1 => ?_⟩
          refine eq_house (L' := L) rfl rfl (hG g1) ok1 O.hty fun G2 g2 => ?_
          rw [decide_eq_true (rfl : L.text = L.text)]
          refine ⟨_, rfl, iteF ?_⟩
          refine ne_house (L' := L) rfl rfl (hG (g1.trans g2)) ok1 fun G3 g3 => ?_
          rw [decide_eq_true (rfl : L.text = L.text)]
          refine ⟨_, rfl, iteF ?_⟩
          have g13 := (g1.trans g2).trans g3
          refine eq_house (L' := L2) rfl rfl (hG g13) ok2 O.hty fun G4 g4 => ?_
          have e34 : decide (V.str L.text = V.str L2.text) = decide (L.text = L2.text) := by
            by_cases c : L.text = L2.text
            · rw [c]; simp
            · rw [decide_eq_false c, decide_eq_false (fun z => c (V.str.inj z))]
          refine ⟨_, rfl, _, rfl, rfl, rfl, _, rfl, ?_⟩
          rw [e34]
          generalize decide (L.text = L2.text) = bt
          rw [decide_eq_true (rfl : V.bl bt = V.bl bt)]
          refine iteF ?_
          have g14 := g13.trans g4
          refine ⟨_, rfl, _, rfl, eq_no (L := L) (hG g14) (.str _) O.nf ⟨_, rfl, iteF ?_⟩⟩
          refine ⟨_, rfl, _, rfl, eq_no (L := L) (hG g14) (.tup (xseqT (s1.trans (xn_same g14)) (.of etnZ)) (dq_strs L.names)) O.nf ⟨_, rfl, iteF ?_⟩⟩
          have p4 : PotAt G4 p 3000 := (PotAt.xn s1 potZ).same g14
          refine ⟨_, rfl, _, rfl, p, 3000, rfl, p4, by omega, fun G5 xo' d' hd' dq' T' => ?_⟩
          have x15 : Ext p H1 G5 := Kb.Ext.trans (Ext.same g14) T'.2
          refine eq_no (L := L) ((hR x15).same (rest_same p G5)) (Dq.same (rest_same p G5) _ _ (Dq.same new_rest _ _ dq')) O.nf ⟨_, rfl, ?_⟩
          exact k G5 (XZ.trans ((XN.of s1).trans (XN.ext x15))) (tabs_pot (PotAt.xn s1 potZ) x15 t1)
end
end K1
set_option Elab.async false
set_option linter.all false
set_option maxRecDepth 100000
set_option maxHeartbeats 4000000
namespace K1
open PySem PySem.Spec PyProof.Rows L2 Kb Kc Kn LamX
abbrev s_law : Stmt := top 75
theorem sc_law : FnScope ["_law_script", "_law_place"] ["_law_script"] (defScope s_law) := ⟨rfl, rfl, rfl, by decide +kernel, rfl, by decide +kernel, by decide +kernel⟩
def spLaw (K : PySem.W.Frag) (TS : List (Addr × Str)) : Sp := fun vs H Q _ => ∃ (a : Addr) (ns : List Int), vs = [.ref a] ∧ SqL K H a (ns.map V.int) ∧ ns.length ≤ 63 ∧ Tabs TS H ∧ ∀ H', Q (.bl true) H'
theorem small1000 {n : Nat} (h : n ≤ 1000) : n < sizeLine := Nat.lt_of_le_of_lt h (by decide)
section
variable {P : Program} {w : World} {K : PySem.W.Frag} {mg : Str → Option Value} {base : Heap}
theorem ok_law {f fR f_law_pot f_law_cells : Addr} {fd fdR fd_law_pot fd_law_cells : FuncData} {TS : List (Addr × Str)} (F : Fun K "law" "law" s_law f fd) (B : Bl mg)
    (FR : Fun K "_law_right" "_law_right" s__law_right fR fdR) (bR : Binds K fdR ["_law_pot_here"] []) (gR : mg "_law_right" = some (.ref fR)) (GR : FnQ P w K mg base CX0 12 fR fdR ["_law_pot_here"] (spRight TS))
    (c_law_pot : Cal P w K mg base 1 "_law_pot" s__law_pot ["_law_script", "_law_place"] (spPot K) f_law_pot fd_law_pot)
    (c_law_cells : Cal P w K mg base 1 "_law_cells" s__law_cells ["_law_script", "_law_most"] (spCells K) f_law_cells fd_law_cells) :
    FnQ P w K mg base CX0 13 f fd ["_law_script"] (spLaw K TS) := by
  refine fnQ_of F sc_law (fun vs H Q E h => ?_) (fun cdv A outer s H vs Q E hG hr h => ?_)
  · obtain ⟨a, ns, rfl, _⟩ := h
    rfl
  · obtain ⟨a, ns, rfl, hS, hl, hT, k⟩ := h
    refine ⟨_, pss_one (ps_ret (pe_callB (cr_all rfl) (by rfl) B.all (by decide +kernel) (pa_cons (pe_lc (own := [("_law_place", 1)]) (g := gName 1) (tt := tYes) rfl sc_law.nd (pi_list (pe_call c_law_cells.G (hr.mono (by decide)) (by rfl) c_law_cells.g c_law_cells.F.kp c_law_cells.b .nil pass0 (pa_cons (pv 0) (pa_cons pe_int pa_nil)))) (blkOk_by (own := [("_law_place", 1)]) (N := ["_law_script", "_law_place"]) (sc := defScope s_law) (by decide +kernel)) (fun _ _ _ _ _ => pg_name (i := 1) sc_law.nd rfl (Or.inl rfl)) (fun _ _ _ _ _ => pts_nil)
      (fun _ _ _ _ _ => pe_callQ GR hG hr (by rfl) gR FR.kp bR .nil pass0 (pa_cons (pe_call c_law_pot.G (hr.mono (by decide)) (by rfl) c_law_pot.g c_law_pot.F.kp c_law_pot.b .nil pass0 (pa_cons (pv 0) (pa_cons (pv 1) pa_nil))) pa_nil))) pa_nil))), ?_⟩
    refine ⟨_, rfl, a, ns.map V.int, 6, rfl, hS, (by rw [List.length_map]; omega), (by decide), fun H1 l n hn S1 nl e1 => ?_⟩
    refine ⟨l, rfl, ⟨_, .of e1⟩, fun D hD => ?_⟩
    have s1D := Kb.same_upd (o := .lst []) hD
    refine lc_list (K := K) (a := l) (xs := upto n) (fun j H2 => ExtN H1 H2 ∧ Tabs TS H2 ∧ H2 D = some (.lst ((List.replicate j true).map V.bl))) ⟨xn_same s1D, (hT.ext S1).ext s1D, upd_same⟩ (fun j H2 _ ⟨S2, _⟩ => xseq S2 (.of e1)) ?_ ?_
    · rintro j y H2 hj ⟨S2, T2, eD⟩
      have hjn : j < n := by
        have z := (List.getElem?_eq_some_iff.mp hj).1
        unfold upto at z
        rw [List.length_map, List.length_range] at z
        exact z
      obtain rfl : y = .int (j : Nat) := by
        unfold upto at hj
        rw [List.getElem?_map, List.getElem?_range hjn] at hj
        exact (Option.some.inj hj).symm
      refine ⟨rfl, _, rfl, _, rfl, a, ns, _, rfl, xseq S2 (S1.seq hS), by omega, by omega, fun H3 p S3 np hP => ⟨p, rfl, hP, T2.ext S3, fun H4 X4 T4 => ?_⟩⟩
      have nD : D ≠ p := ne_of_none eD np
      have eD4 : H4 D = some (.lst ((List.replicate j true).map V.bl)) := X4 _ _ nD (S3 _ _ eD) (fun ps z => nomatch z)
      have keep : ∀ b o, H2 b = some o → (∀ ps, o ≠ .tbl ps) → H4 b = some o := fun b o e n => X4 b o (ne_of_none e np) (S3 b o e) n
      refine ⟨_, eD4, ?_, fun b o e n => ?_, fun q hq => ?_, ?_⟩
      · rw [List.length_map, List.length_replicate]
        exact small1000 (by omega)
      · rw [upd_ne (ne_of_none e hD)]
        exact keep _ _ (S2 _ _ e n) n
      · obtain ⟨ps, h1, h2, h3⟩ := T4 q hq
        have ne : ∀ {b : Addr} {o : HO}, H4 b = some o → (∀ xs, o ≠ .lst xs) → b ≠ D := fun {b o} e n z => by
          rw [z, eD4] at e
          exact n _ (Option.some.inj e).symm
        refine ⟨ps, by rw [upd_ne (ne h1 (fun xs z => nomatch z))]; exact h1, h2, fun pos cv hc => ?_⟩
        obtain ⟨c, z1, z2⟩ := h3 pos cv hc
        exact ⟨c, z1, by rw [upd_ne (ne z2 (fun xs z => by unfold CodeO at z; cases z))]; exact z2⟩
      · rw [upd_same, List.replicate_succ', List.map_append]
        rfl
    · rintro H2 ⟨S2, _, eD⟩
      refine ⟨D, List.replicate (upto n).length true, rfl, .of eD, ?_⟩
      have ha : (List.replicate (upto n).length true).all id = true := by simp
      rw [ha]
      exact k H2
end
end K1
set_option Elab.async false
set_option linter.all false
set_option maxRecDepth 100000
set_option maxHeartbeats 4000000
namespace Kb
open PySem PySem.Spec PyProof.Rows L2 LamX
/-! ### a law's call where nothing is being shown, with tables of code objects that are empty at first -/
/-- an object that is neither a sequence nor an empty table -/
def Quiet (o : Obj) : Prop := (∀ xs n, o.data ≠ .seq xs n) ∧ o.data ≠ .fields #[]
theorem quiet_dict {o : Obj} {es : Array DictEntry} {n : Nat} (h : o.data = .dict es n) : Quiet o := ⟨fun xs m z => (by rw [h] at z; cases z), fun z => (by rw [h] at z; cases z)⟩
theorem quiet_plain {o : Obj} (h : o.data = .plain) : Quiet o := ⟨fun xs m z => (by rw [h] at z; cases z), fun z => (by rw [h] at z; cases z)⟩
/-- the heap at first: the script, if it is tracked, and the tables -/
def first (ts : List Addr) (u : Addr → Option HO) : Hp := fun b => if b ∈ ts then some (.tbl #[]) else u b
def OnlyT (ts : List Addr) (H : Hp) : Prop := ∀ b, H b = none ∨ b ∈ ts ∨ ∃ ob xs, H b = some (.frz ob (.lst xs))
theorem law_callQT {P : Program} {w : World} {K : PySem.W.Frag} {mg mb : Str → Option Value} {k : Nat} {fa a : Addr} {cs : List (Addr × Addr)} {fd : FuncData} {x : Str} {sp : Sp} {s1 : Shared} {us : List Value} {ns : List Int}
    (KX : K.In s1.heap) (hns : s1.heap.Ns mainGlobals mg) (hb : s1.heap.Ns builtinsNs mb) (hbb : ∀ x : Str, x ≠ "__name__" → mb x = bootBuiltins x) (hlim : s1.heap.NoLimit) (hg : s1.gens = #[])
    (tabs : ∀ q ∈ cs, s1.heap.get? q.2 = some { cls := .none, data := .fields #[] }) (noK : ∀ q ∈ cs, K.lookup q.2 = none) (codes : ∀ q ∈ cs, PySem.W.CodeHd s1.heap q.1 q.2)
    (hmod : ∃ (bm : Addr) (ob : Obj), mg "__builtins__" = some (.ref bm) ∧ bm ≠ builtinsNs ∧ s1.heap.get? bm = some ob ∧ ob.cls = .type "module" ∧ ob.dict = some builtinsNs ∧ ob.data = .plain)
    (ha : s1.heap.get? a = some { cls := .type "list", data := .seq us.toArray }) (hi : IntsAre us ns) (hz : ns.length ≤ sizeLine) (hr : Room k callerA)
    (F : ∀ base : Heap, K.In base → base.Ns mainGlobals mg → (∀ q ∈ cs, TabB base mg q.1 q.2) → FnQ P w K mg base CX0 k fa fd [x] sp) (hbind : ∀ (s : Shared) (u : Value), BindsTo s fd ⟨[u], []⟩ [(x, u)])
    (hsp : ∀ H : Hp, (∀ q ∈ cs, H q.2 = some (.tbl #[])) → SqL K H a (ns.map V.int) → sp [.ref a] H (fun v _ => v = .bl true) E0) :
    codeAny (model P w) callerA (.call (.ref fa) ⟨[.ref a], []⟩) (fun r s' => r = .ok (.ret (.bool true)) ∧ OldK s1.heap s'.heap ∧ s'.os = s1.os ∧ AllBare s'.gens) s1 := by
  have rv := vals_ints hi
  have hlen := hi.length
  obtain ⟨ts, ets⟩ : ∃ ts, ts = cs.map (·.2) := ⟨_, rfl⟩
  have inT : ∀ q ∈ cs, q.2 ∈ ts := fun q hq => by rw [ets]; exact List.mem_map_of_mem hq
  have ofT : ∀ {b : Addr}, b ∈ ts → ∃ q ∈ cs, q.2 = b := fun {b} h => by rw [ets] at h; exact List.mem_map.mp h
  have tab : ∀ {b : Addr}, b ∈ ts → s1.heap.get? b = some { cls := .none, data := .fields #[] } := fun h => by
    obtain ⟨q, hq, e⟩ := ofT h
    rw [← e]
    exact tabs q hq
  have notT : a ∉ ts := fun h => by
    have e := tab h
    rw [ha] at e
    cases congrArg Obj.data (Option.some.inj e)
  have main : ∀ H : Hp, OnlyT ts H → (∀ q ∈ cs, H q.2 = some (.tbl #[])) → SqL K H a (ns.map V.int) → HOk P w H s1.heap → (∀ b, H b ≠ none → b ∈ ts ∨ b = a) → (H a ≠ none → K.lookup a = none) →
      codeAny (model P w) callerA (.call (.ref fa) ⟨[.ref a], []⟩) (fun r s' => r = .ok (.ret (.bool true)) ∧ OldK s1.heap s'.heap ∧ s'.os = s1.os ∧ AllBare s'.gens) s1 := by
    intro H hO hH hS hok hA hK
    have quiet : ∀ {b : Addr} {o : Obj}, s1.heap.get? b = some o → Quiet o → (hidT s1.heap H).get? b = some o := fun {b o} e q => hidT_get e (by
      cases h : H b with
      | none => rfl
      | some u =>
        rcases hA b (by rw [h]; exact fun z => nomatch z) with m | rfl
        · rw [tab m] at e
          cases e
          exact (q.2 rfl).elim
        · rw [ha] at e
          cases e
          exact (q.1 _ _ rfl).elim)
    have nsk : ∀ {b : Addr} {m : Str → Option Value}, s1.heap.Ns b m → (hidT s1.heap H).Ns b m := fun {b m} ⟨o, es, ep, e, d, r⟩ => ⟨o, es, ep, quiet e (quiet_dict d), d, r⟩
    have kin : K.In (hidT s1.heap H) := fun b o e => hidT_get (KX b o e) (by
      cases h : H b with
      | none => rfl
      | some u =>
        rcases hA b (by rw [h]; exact fun z => nomatch z) with m | rfl
        · obtain ⟨q, hq, e2⟩ := ofT m
          rw [← e2, noK q hq] at e
          cases e
        · rw [hK (by rw [h]; exact fun z => nomatch z)] at e
          cases e)
    have md : Mod K mg (hidT s1.heap H) := ⟨kin, nsk hns, ⟨mb, nsk hb, hbb⟩, by obtain ⟨mc, h1, h2⟩ := hlim; exact ⟨mc, nsk h1, h2⟩⟩
    have ev : Env0 P w K mg (hidT s1.heap H) callerA [] s1 H := ⟨rfl, md, fun b o e => of_hidT e, Nat.le_of_eq (hidT_size _ _), trivial, fun b z => absurd (show b ∈ ([] : List Addr) from z) (by simp), hok, .of_eq hg⟩
    obtain ⟨gO, gE, gP, gA, gD, _⟩ := id hns
    have TB : ∀ q ∈ cs, TabB (hidT s1.heap H) mg q.1 q.2 := fun q hq => by
      have eT := tabs q hq
      refine ⟨?_, ?_, fun z => ?_⟩
      · obtain ⟨o, vs, fi, t1, fl, t2, bf, ft, t3, e, r1, r2, r3, r4⟩ := codes q hq
        exact ⟨o, vs, fi, t1, fl, t2, bf, ft, t3, quiet e ⟨fun xs n z => (by rw [r2] at z; cases z), fun z => (by rw [r2] at z; cases z; simp at r3)⟩, r1, r2, r3, r4⟩
      · obtain ⟨bm, ob, b1, b2, b3, b4, b5, b6⟩ := hmod
        refine ⟨bm, ob, b1, b2, fun z => ?_, fun z => ?_, quiet b3 (quiet_plain b6), b4, b5, b6⟩
        · rw [z, gA] at b3
          cases b3
          rw [gD] at b6
          cases b6
        · rw [z, eT] at b3
          cases b3
          cases b6
      · rw [← z, gA] at eT
        cases eT
        cases gD
    refine codeAny_mono ((F _ kin (nsk hns) TB).run callerA [] s1 H ⟨[.ref a], []⟩ [.ref a] [.ref a] _ _ rfl hr ev (hbind s1 (.ref a)) (.cons rfl .nil) (hsp H hH hS)) fun r s' h => ?_
    cases r with
    | error e => exact False.elim h
    | ok fl =>
      cases fl with
      | next => exact False.elim h
      | brk => exact False.elim h
      | cont => exact False.elim h
      | ret u =>
        obtain ⟨v, H', os, bare, un, hok', r', q⟩ := h
        obtain rfl : v = V.bl true := q
        obtain rfl : u = Value.bool true := r'
        have stays : ∀ b o, b ∉ ts → s1.heap.get? b = some o → s'.heap.get? b = some o := fun b o nb e => by
          cases h : H b with
          | none => exact un.keep b o e h (by intro z; exact absurd (show b ∈ ([] : List Addr) from z) (by simp)) (by simp)
          | some u =>
            rcases hO b with z | z | ⟨ob, xs, z⟩
            · rw [h] at z
              cases z
            · exact (nb z).elim
            · obtain ⟨e1, _⟩ := hok b _ z
              obtain ⟨e2, _⟩ := hok' b _ (un.frzs b ob _ z)
              rw [e] at e1
              cases e1
              exact e2
        have grows : ∀ q ∈ cs, ∃ more : Array Value, s'.heap.get? q.2 = some { cls := .none, data := .fields more } := fun q hq => by
          obtain ⟨more, z⟩ := un.tbls q.2 #[] (hH q hq)
          exact ⟨_, hok' q.2 _ z⟩
        refine ⟨rfl, ⟨fun b o e => ?_, fun b o e => ?_⟩, os, bare⟩
        · by_cases m : b ∈ ts
          · obtain ⟨q, hq, rfl⟩ := ofT m
            obtain ⟨more, em⟩ := grows q hq
            rw [tabs q hq] at e
            cases e
            exact .inr (.inl ⟨((codes q hq).tab (tabs q hq)).isCodeTable, rfl, #[], more, rfl, by rw [Array.empty_append]; exact em⟩)
          · exact .inl (stays b o m e)
        · by_cases m : b ∈ ts
          · obtain ⟨q, hq, rfl⟩ := ofT m
            obtain ⟨more, em⟩ := grows q hq
            exact ⟨_, em⟩
          · exact ⟨o, stays b o m e⟩
  have tblOk : ∀ {b : Addr}, b ∈ ts → ∀ H : Hp, ObjOk P w H s1.heap b (.tbl #[]) := fun m H => tab m
  cases hk : K.lookup a with
  | some o =>
    have e := KX a o hk
    rw [ha] at e
    cases e
    have at_ : ∀ {b : Addr}, b ∈ ts → first ts (fun _ => none) b = some (.tbl #[]) := fun m => if_pos m
    have off : ∀ {b : Addr}, b ∉ ts → first ts (fun _ => none) b = none := fun m => if_neg m
    refine main (first ts fun _ => none) (fun b => ?_) (fun q hq => at_ (inT q hq)) (.inr ⟨_, us.toArray, _, hk, rfl, rfl, rfl, by rw [List.size_toArray, hlen]; exact hz, by simpa using rv⟩) (fun b u z => ?_) (fun b z => ?_) fun z => (z (off notT)).elim
    · by_cases m : b ∈ ts
      · exact .inr (.inl m)
      · exact .inl (off m)
    · by_cases m : b ∈ ts
      · rw [at_ m] at z
        cases z
        exact tblOk m _
      · rw [off m] at z
        cases z
    · by_cases m : b ∈ ts
      · exact .inl m
      · exact (z (off m)).elim
  | none =>
    obtain ⟨fz, efz⟩ : ∃ fz : HO, fz = .frz { cls := .type "list", data := .seq us.toArray } (.lst (ns.map V.int)) := ⟨_, rfl⟩
    have at_ : ∀ {b : Addr}, b ∈ ts → first ts (fun b => if b = a then some fz else none) b = some (.tbl #[]) := fun m => if_pos m
    have off : ∀ {b : Addr}, b ∉ ts → b ≠ a → first ts (fun b => if b = a then some fz else none) b = none := fun m n => (if_neg m).trans (if_neg n)
    have own : first ts (fun b => if b = a then some fz else none) a = some fz := (if_neg notT).trans (if_pos rfl)
    refine main (first ts fun b => if b = a then some fz else none) (fun b => ?_) (fun q hq => at_ (inT q hq)) (.inl (.inr ⟨{ cls := .type "list", data := .seq us.toArray }, by rw [own, efz]⟩)) (fun b u z => ?_) (fun b z => ?_) fun _ => hk
    · by_cases m : b ∈ ts
      · exact .inr (.inl m)
      · by_cases n : b = a
        · rw [n, own, efz]
          exact .inr (.inr ⟨_, _, rfl⟩)
        · exact .inl (off m n)
    · by_cases m : b ∈ ts
      · rw [at_ m] at z
        cases z
        exact tblOk m _
      · by_cases n : b = a
        · rw [n, own, efz] at z
          cases z
          rw [n]
          exact ⟨ha, by rw [List.length_map]; exact hz, us, _, rv, ha⟩
        · rw [off m n] at z
          cases z
    · by_cases m : b ∈ ts
      · exact .inl m
      · by_cases n : b = a
        · exact .inr n
        · exact (z (off m n)).elim
/-- what is asked of the law's def, tables and all -/
def LawQ (l : PySem.W.OpenLaw) (w : World) (K : PySem.W.Frag) (k n : Nat) (x : Str) (mg : Str → Option Value) (fa : Addr) (h : Heap) : Prop :=
  ∃ (fd : FuncData) (cs : List (Addr × Addr)) (sp : Sp), (∀ q ∈ cs, h.get? q.2 = some { cls := .none, data := .fields #[] }) ∧ (∀ q ∈ cs, K.lookup q.2 = none) ∧ (∀ q ∈ cs, PySem.W.CodeHd h q.1 q.2) ∧ (∀ (s : Shared) (u : Value), BindsTo s fd ⟨[u], []⟩ [(x, u)]) ∧
    (∀ (H : Hp) (a : Addr) (ns : List Int), ns.length ≤ n → (∀ q ∈ cs, H q.2 = some (.tbl #[])) → SqL K H a (ns.map V.int) → sp [.ref a] H (fun v _ => v = .bl true) E0) ∧
    ∀ base : Heap, K.In base → base.Ns mainGlobals mg → (∀ q ∈ cs, TabB base mg q.1 q.2) → FnQ l.prog w K mg base CX0 k fa fd [x] sp
theorem walk_ofQT {l : PySem.W.OpenLaw} {n k : Nat} {q : Program} {loose : List Str} {XP : (Str → Option Value) → Heap → Prop} {YP : World → Heap → Prop} {d : DefRec} {K : Params → PySem.W.Frag} {x : Str}
    (hn : l.most = some n) (hn2 : n ≤ sizeLine) (hdf : d.params.defaults = []) (hr : Room k callerA) (hY : ∀ (w : World) (h : Heap), YP w h → (K w.params).In h)
    (F : ∀ (w : World) (mg : Str → Option Value) (fa : Addr) (h : Heap), YP w h → (K w.params).In h → h.Ns mainGlobals mg → mg d.name = some (.ref fa) → LawQ l w (K w.params) k n x mg fa h) :
    PySem.W.WalkO q loose XP YP l.row.toRowW d [] (fun f vs => PySem.call f vs) := by
  refine Att.attach_call hn hdf fun w s0 s1 mg mb fa o pm cd doc a us ns G Y ho hd hcd hmg hobj hints hlen hg => ?_
  have KX := hY w _ Y
  obtain ⟨fd, cs, sp, h1, h2, h3, h4, h5, h6⟩ := F w mg fa _ Y KX G.T.g hmg
  exact law_callQT KX G.T.g G.T.b G.T.builtins G.T.nolimit hg h1 h2 h3 G.T.bmain hobj hints (Nat.le_trans hlen hn2) hr h6 h4 fun H hH hS => h5 H a ns hlen hH hS
end Kb
set_option Elab.async false
set_option linter.all false
set_option maxRecDepth 100000
set_option maxHeartbeats 4000000
namespace Kb
open PySem PySem.Spec PyProof.Rows L2 LamX
/-- a namespace of the written part all of whose keys are texts -/
def keysIn (K : PySem.W.Frag) (N : Addr) : Bool := match K.lookup N with
  | some ⟨_, _, .dict es _, _⟩ => es.toList.all fun e => match e.key with
    | .str _ _ => true
    | _ => false
  | _ => false
theorem ns_in {K : PySem.W.Frag} {h : Heap} {N : Addr} (X : K.In h) (hk : keysIn K N = true) :
    ∃ m : Str → Option Value, h.Ns N m ∧ (∀ n v, PySem.W.nsIn K N n = some (some v) → m n = some v) ∧ ∀ n, PySem.W.nsIn K N n = some none → m n = none := by
  unfold keysIn at hk
  split at hk
  · rename_i c d es ep sl hl
    refine ⟨fun n => nsFind es n, ⟨_, es, ep, X _ _ hl, rfl, fun e he => ?_, fun _ => rfl⟩, fun n v hv => ?_, fun n hv => ?_⟩
    · have z := List.all_eq_true.mp hk e (by simpa using he)
      split at z
      · rename_i a t ek
        exact ⟨a, t, ek⟩
      · cases z
    all_goals
      unfold PySem.W.nsIn at hv
      rw [hl] at hv
      simp only at hv
      show nsFind es n = _
      unfold nsFind findBy
      rw [← Array.find?_toList]
      split at hv
    · rename_i en he
      cases hv
      rw [he]
      rfl
    · split at hv <;> cases hv
    · cases hv
    · rename_i he
      rw [he]
      rfl
  · cases hk
/-- an own __eq__ and no __ne__ -/
theorem ownEq_in {K : PySem.W.Frag} {C N f : Addr} {nm q : Str} {bs : List Value} {hdct : Bool} {sn : List Str} {sub : List Value} {ab : Bool} {col : Option Bool} {dd : Option Addr} {k0 k1 k2 k3 k5 : Option Value} {newId : String}
    (lC : K.lookup C = some (excClassObj nm q C N bs [.type "object"] hdct sn sub ab col dd k0 k1 k2 k3 k5 newId)) (hk : keysIn K N = true) (he : PySem.W.nsIn K N "__eq__" = some (some (.ref f))) (hn : PySem.W.nsIn K N "__ne__" = some none)
    (tf : PySem.W.typeIn K (.ref f) = some (.type "function")) {h : Heap} {x : Addr} {o : Obj} (X : K.In h) (hx : h.get? x = some o) (hc : o.cls = .ref C) : h.OwnEqNoNe x C f "object" [.type "object"] := by
  obtain ⟨m, h1, h2, h3⟩ := ns_in X hk
  have tf' : (K.lookup f).map (·.cls) = some (.type "function") := tf
  cases hf : K.lookup f with
  | none => rw [hf] at tf'; cases tf'
  | some of =>
    rw [hf] at tf'
    exact ⟨o, of, nm, q, N, bs, hdct, sn, sub, ab, col, dd, k0, k1, k2, k3, k5, newId, m, _, hx, hc, X _ _ lC, h1, h2 _ _ he, X _ _ hf, Option.some.inj tf', PySem.F.cmp_object.mro, PySem.F.cmp_object.eq.lookup, h3 _ hn⟩
/-- a def that stands at f, by its parameters -/
structure FunAt (K : PySem.W.Frag) (x qual : Str) (st : Stmt) (f : Addr) (ps : List Str) (c : Value) : Prop where
  ex : ∃ fd : FuncData, Fun K x qual st f fd ∧ Binds K fd ps [] ∧ fd.code = c
end Kb
set_option Elab.async false
set_option linter.all false
set_option maxRecDepth 100000
set_option maxHeartbeats 8000000
namespace K1
open PySem PySem.Spec PyProof.Rows L2 Kb Kc Kn LamX
section
variable {K : PySem.W.Frag}
theorem at_OrderError___init {f : Addr} {oc : Value} {od an : Option Addr} {osl : Array (Option Value)} {kV doc pm cdv ct : Value} (l : K.lookup f = some ⟨oc, od, .func (PySem.W.fnOf "__init__" "OrderError.__init__" (defArgs s_OrderError___init__) (defBody s_OrderError___init__) (defScope s_OrderError___init__) .none kV doc pm an cdv ct), osl⟩)
    (c : PySem.W.codeIn K cdv "OrderError.__init__" = true) (k : PySem.W.keepIn K (.ref f) = true) : FunAt K "__init__" "OrderError.__init__" s_OrderError___init__ f ["self", "value"] cdv := ⟨_, fun_mk l c k, (fun_mk (st := s_OrderError___init__) l c k).binds (ps := ["self", "value"]) (fun _ _ _ _ _ _ us hl => match us, hl with | [_, _], _ => rfl), rfl⟩
theorem at_Machine___init {f : Addr} {oc : Value} {od an : Option Addr} {osl : Array (Option Value)} {kV doc pm cdv ct : Value} (l : K.lookup f = some ⟨oc, od, .func (PySem.W.fnOf "__init__" "Machine.__init__" (defArgs s_Machine___init__) (defBody s_Machine___init__) (defScope s_Machine___init__) .none kV doc pm an cdv ct), osl⟩)
    (c : PySem.W.codeIn K cdv "Machine.__init__" = true) (k : PySem.W.keepIn K (.ref f) = true) : FunAt K "__init__" "Machine.__init__" s_Machine___init__ f ["self", "starts", "ends", "moves"] cdv := ⟨_, fun_mk l c k, (fun_mk (st := s_Machine___init__) l c k).binds (ps := ["self", "starts", "ends", "moves"]) (fun _ _ _ _ _ _ us hl => match us, hl with | [_, _, _, _], _ => rfl), rfl⟩
theorem at_read_item {f : Addr} {oc : Value} {od an : Option Addr} {osl : Array (Option Value)} {kV doc pm cdv ct : Value} (l : K.lookup f = some ⟨oc, od, .func (PySem.W.fnOf "read_item" "read_item" (defArgs s_read_item) (defBody s_read_item) (defScope s_read_item) .none kV doc pm an cdv ct), osl⟩)
    (c : PySem.W.codeIn K cdv "read_item" = true) (k : PySem.W.keepIn K (.ref f) = true) : FunAt K "read_item" "read_item" s_read_item f ["word", "signs"] cdv := ⟨_, fun_mk l c k, (fun_mk (st := s_read_item) l c k).binds (ps := ["word", "signs"]) (fun _ _ _ _ _ _ us hl => match us, hl with | [_, _], _ => rfl), rfl⟩
theorem at_read_items {f : Addr} {oc : Value} {od an : Option Addr} {osl : Array (Option Value)} {kV doc pm cdv ct : Value} (l : K.lookup f = some ⟨oc, od, .func (PySem.W.fnOf "read_items" "read_items" (defArgs s_read_items) (defBody s_read_items) (defScope s_read_items) .none kV doc pm an cdv ct), osl⟩)
    (c : PySem.W.codeIn K cdv "read_items" = true) (k : PySem.W.keepIn K (.ref f) = true) : FunAt K "read_items" "read_items" s_read_items f ["words", "signs"] cdv := ⟨_, fun_mk l c k, (fun_mk (st := s_read_items) l c k).binds (ps := ["words", "signs"]) (fun _ _ _ _ _ _ us hl => match us, hl with | [_, _], _ => rfl), rfl⟩
theorem at_spread {f : Addr} {oc : Value} {od an : Option Addr} {osl : Array (Option Value)} {kV doc pm cdv ct : Value} (l : K.lookup f = some ⟨oc, od, .func (PySem.W.fnOf "spread" "spread" (defArgs s_spread) (defBody s_spread) (defScope s_spread) .none kV doc pm an cdv ct), osl⟩)
    (c : PySem.W.codeIn K cdv "spread" = true) (k : PySem.W.keepIn K (.ref f) = true) : FunAt K "spread" "spread" s_spread f ["items"] cdv := ⟨_, fun_mk l c k, (fun_mk (st := s_spread) l c k).binds (ps := ["items"]) (fun _ _ _ _ _ _ us hl => match us, hl with | [_], _ => rfl), rfl⟩
theorem at_places_ahead {f : Addr} {oc : Value} {od an : Option Addr} {osl : Array (Option Value)} {kV doc pm cdv ct : Value} (l : K.lookup f = some ⟨oc, od, .func (PySem.W.fnOf "places_ahead" "places_ahead" (defArgs s_places_ahead) (defBody s_places_ahead) (defScope s_places_ahead) .none kV doc pm an cdv ct), osl⟩)
    (c : PySem.W.codeIn K cdv "places_ahead" = true) (k : PySem.W.keepIn K (.ref f) = true) : FunAt K "places_ahead" "places_ahead" s_places_ahead f ["places", "at"] cdv := ⟨_, fun_mk l c k, (fun_mk (st := s_places_ahead) l c k).binds (ps := ["places", "at"]) (fun _ _ _ _ _ _ us hl => match us, hl with | [_, _], _ => rfl), rfl⟩
theorem at_form_rows {f : Addr} {oc : Value} {od an : Option Addr} {osl : Array (Option Value)} {kV doc pm cdv ct : Value} (l : K.lookup f = some ⟨oc, od, .func (PySem.W.fnOf "form_rows" "form_rows" (defArgs s_form_rows) (defBody s_form_rows) (defScope s_form_rows) .none kV doc pm an cdv ct), osl⟩)
    (c : PySem.W.codeIn K cdv "form_rows" = true) (k : PySem.W.keepIn K (.ref f) = true) : FunAt K "form_rows" "form_rows" s_form_rows f ["signs", "items", "first"] cdv := ⟨_, fun_mk l c k, (fun_mk (st := s_form_rows) l c k).binds (ps := ["signs", "items", "first"]) (fun _ _ _ _ _ _ us hl => match us, hl with | [_, _, _], _ => rfl), rfl⟩
theorem at_machine_of {f : Addr} {oc : Value} {od an : Option Addr} {osl : Array (Option Value)} {kV doc pm cdv ct : Value} (l : K.lookup f = some ⟨oc, od, .func (PySem.W.fnOf "machine_of" "machine_of" (defArgs s_machine_of) (defBody s_machine_of) (defScope s_machine_of) .none kV doc pm an cdv ct), osl⟩)
    (c : PySem.W.codeIn K cdv "machine_of" = true) (k : PySem.W.keepIn K (.ref f) = true) : FunAt K "machine_of" "machine_of" s_machine_of f ["signs", "forms"] cdv := ⟨_, fun_mk l c k, (fun_mk (st := s_machine_of) l c k).binds (ps := ["signs", "forms"]) (fun _ _ _ _ _ _ us hl => match us, hl with | [_, _], _ => rfl), rfl⟩
theorem at_free_machine {f : Addr} {oc : Value} {od an : Option Addr} {osl : Array (Option Value)} {kV doc pm cdv ct : Value} (l : K.lookup f = some ⟨oc, od, .func (PySem.W.fnOf "free_machine" "free_machine" (defArgs s_free_machine) (defBody s_free_machine) (defScope s_free_machine) .none kV doc pm an cdv ct), osl⟩)
    (c : PySem.W.codeIn K cdv "free_machine" = true) (k : PySem.W.keepIn K (.ref f) = true) : FunAt K "free_machine" "free_machine" s_free_machine f ["signs"] cdv := ⟨_, fun_mk l c k, (fun_mk (st := s_free_machine) l c k).binds (ps := ["signs"]) (fun _ _ _ _ _ _ us hl => match us, hl with | [_], _ => rfl), rfl⟩
theorem at_is_sign {f : Addr} {oc : Value} {od an : Option Addr} {osl : Array (Option Value)} {kV doc pm cdv ct : Value} (l : K.lookup f = some ⟨oc, od, .func (PySem.W.fnOf "is_sign" "is_sign" (defArgs s_is_sign) (defBody s_is_sign) (defScope s_is_sign) .none kV doc pm an cdv ct), osl⟩)
    (c : PySem.W.codeIn K cdv "is_sign" = true) (k : PySem.W.keepIn K (.ref f) = true) : FunAt K "is_sign" "is_sign" s_is_sign f ["word"] cdv := ⟨_, fun_mk l c k, (fun_mk (st := s_is_sign) l c k).binds (ps := ["word"]) (fun _ _ _ _ _ _ us hl => match us, hl with | [_], _ => rfl), rfl⟩
theorem at_is_word {f : Addr} {oc : Value} {od an : Option Addr} {osl : Array (Option Value)} {kV doc pm cdv ct : Value} (l : K.lookup f = some ⟨oc, od, .func (PySem.W.fnOf "is_word" "is_word" (defArgs s_is_word) (defBody s_is_word) (defScope s_is_word) .none kV doc pm an cdv ct), osl⟩)
    (c : PySem.W.codeIn K cdv "is_word" = true) (k : PySem.W.keepIn K (.ref f) = true) : FunAt K "is_word" "is_word" s_is_word f ["word"] cdv := ⟨_, fun_mk l c k, (fun_mk (st := s_is_word) l c k).binds (ps := ["word"]) (fun _ _ _ _ _ _ us hl => match us, hl with | [_], _ => rfl), rfl⟩
theorem at_figure_bits {f : Addr} {oc : Value} {od an : Option Addr} {osl : Array (Option Value)} {kV doc pm cdv ct : Value} (l : K.lookup f = some ⟨oc, od, .func (PySem.W.fnOf "figure_bits" "figure_bits" (defArgs s_figure_bits) (defBody s_figure_bits) (defScope s_figure_bits) .none kV doc pm an cdv ct), osl⟩)
    (c : PySem.W.codeIn K cdv "figure_bits" = true) (k : PySem.W.keepIn K (.ref f) = true) : FunAt K "figure_bits" "figure_bits" s_figure_bits f ["signs"] cdv := ⟨_, fun_mk l c k, (fun_mk (st := s_figure_bits) l c k).binds (ps := ["signs"]) (fun _ _ _ _ _ _ us hl => match us, hl with | [_], _ => rfl), rfl⟩
theorem at_linked {f : Addr} {oc : Value} {od an : Option Addr} {osl : Array (Option Value)} {kV doc pm cdv ct : Value} (l : K.lookup f = some ⟨oc, od, .func (PySem.W.fnOf "linked" "linked" (defArgs s_linked) (defBody s_linked) (defScope s_linked) .none kV doc pm an cdv ct), osl⟩)
    (c : PySem.W.codeIn K cdv "linked" = true) (k : PySem.W.keepIn K (.ref f) = true) : FunAt K "linked" "linked" s_linked f ["lows", "belows"] cdv := ⟨_, fun_mk l c k, (fun_mk (st := s_linked) l c k).binds (ps := ["lows", "belows"]) (fun _ _ _ _ _ _ us hl => match us, hl with | [_, _], _ => rfl), rfl⟩
theorem at_parted {f : Addr} {oc : Value} {od an : Option Addr} {osl : Array (Option Value)} {kV doc pm cdv ct : Value} (l : K.lookup f = some ⟨oc, od, .func (PySem.W.fnOf "parted" "parted" (defArgs s_parted) (defBody s_parted) (defScope s_parted) .none kV doc pm an cdv ct), osl⟩)
    (c : PySem.W.codeIn K cdv "parted" = true) (k : PySem.W.keepIn K (.ref f) = true) : FunAt K "parted" "parted" s_parted f ["lows", "belows", "unlike"] cdv := ⟨_, fun_mk l c k, (fun_mk (st := s_parted) l c k).binds (ps := ["lows", "belows", "unlike"]) (fun _ _ _ _ _ _ us hl => match us, hl with | [_, _, _], _ => rfl), rfl⟩
theorem at_beside {f : Addr} {oc : Value} {od an : Option Addr} {osl : Array (Option Value)} {kV doc pm cdv ct : Value} (l : K.lookup f = some ⟨oc, od, .func (PySem.W.fnOf "beside" "beside" (defArgs s_beside) (defBody s_beside) (defScope s_beside) .none kV doc pm an cdv ct), osl⟩)
    (c : PySem.W.codeIn K cdv "beside" = true) (k : PySem.W.keepIn K (.ref f) = true) : FunAt K "beside" "beside" s_beside f ["lows", "belows", "figures"] cdv := ⟨_, fun_mk l c k, (fun_mk (st := s_beside) l c k).binds (ps := ["lows", "belows", "figures"]) (fun _ _ _ _ _ _ us hl => match us, hl with | [_, _, _], _ => rfl), rfl⟩
theorem at_closed {f : Addr} {oc : Value} {od an : Option Addr} {osl : Array (Option Value)} {kV doc pm cdv ct : Value} (l : K.lookup f = some ⟨oc, od, .func (PySem.W.fnOf "closed" "closed" (defArgs s_closed) (defBody s_closed) (defScope s_closed) .none kV doc pm an cdv ct), osl⟩)
    (c : PySem.W.codeIn K cdv "closed" = true) (k : PySem.W.keepIn K (.ref f) = true) : FunAt K "closed" "closed" s_closed f ["lows", "belows", "figures", "unlike"] cdv := ⟨_, fun_mk l c k, (fun_mk (st := s_closed) l c k).binds (ps := ["lows", "belows", "figures", "unlike"]) (fun _ _ _ _ _ _ us hl => match us, hl with | [_, _, _, _], _ => rfl), rfl⟩
theorem at_fact_rows {f : Addr} {oc : Value} {od an : Option Addr} {osl : Array (Option Value)} {kV doc pm cdv ct : Value} (l : K.lookup f = some ⟨oc, od, .func (PySem.W.fnOf "fact_rows" "fact_rows" (defArgs s_fact_rows) (defBody s_fact_rows) (defScope s_fact_rows) .none kV doc pm an cdv ct), osl⟩)
    (c : PySem.W.codeIn K cdv "fact_rows" = true) (k : PySem.W.keepIn K (.ref f) = true) : FunAt K "fact_rows" "fact_rows" s_fact_rows f ["signs", "facts"] cdv := ⟨_, fun_mk l c k, (fun_mk (st := s_fact_rows) l c k).binds (ps := ["signs", "facts"]) (fun _ _ _ _ _ _ us hl => match us, hl with | [_, _], _ => rfl), rfl⟩
theorem at_has_world {f : Addr} {oc : Value} {od an : Option Addr} {osl : Array (Option Value)} {kV doc pm cdv ct : Value} (l : K.lookup f = some ⟨oc, od, .func (PySem.W.fnOf "has_world" "has_world" (defArgs s_has_world) (defBody s_has_world) (defScope s_has_world) .none kV doc pm an cdv ct), osl⟩)
    (c : PySem.W.codeIn K cdv "has_world" = true) (k : PySem.W.keepIn K (.ref f) = true) : FunAt K "has_world" "has_world" s_has_world f ["signs", "word", "facts"] cdv := ⟨_, fun_mk l c k, (fun_mk (st := s_has_world) l c k).binds (ps := ["signs", "word", "facts"]) (fun _ _ _ _ _ _ us hl => match us, hl with | [_, _, _], _ => rfl), rfl⟩
theorem at_read_signs {f : Addr} {oc : Value} {od an : Option Addr} {osl : Array (Option Value)} {kV doc pm cdv ct : Value} (l : K.lookup f = some ⟨oc, od, .func (PySem.W.fnOf "read_signs" "read_signs" (defArgs s_read_signs) (defBody s_read_signs) (defScope s_read_signs) .none kV doc pm an cdv ct), osl⟩)
    (c : PySem.W.codeIn K cdv "read_signs" = true) (k : PySem.W.keepIn K (.ref f) = true) : FunAt K "read_signs" "read_signs" s_read_signs f ["line"] cdv := ⟨_, fun_mk l c k, (fun_mk (st := s_read_signs) l c k).binds (ps := ["line"]) (fun _ _ _ _ _ _ us hl => match us, hl with | [_], _ => rfl), rfl⟩
theorem at_read_form {f : Addr} {oc : Value} {od an : Option Addr} {osl : Array (Option Value)} {kV doc pm cdv ct : Value} (l : K.lookup f = some ⟨oc, od, .func (PySem.W.fnOf "read_form" "read_form" (defArgs s_read_form) (defBody s_read_form) (defScope s_read_form) .none kV doc pm an cdv ct), osl⟩)
    (c : PySem.W.codeIn K cdv "read_form" = true) (k : PySem.W.keepIn K (.ref f) = true) : FunAt K "read_form" "read_form" s_read_form f ["line", "signs"] cdv := ⟨_, fun_mk l c k, (fun_mk (st := s_read_form) l c k).binds (ps := ["line", "signs"]) (fun _ _ _ _ _ _ us hl => match us, hl with | [_, _], _ => rfl), rfl⟩
theorem at_read_rule {f : Addr} {oc : Value} {od an : Option Addr} {osl : Array (Option Value)} {kV doc pm cdv ct : Value} (l : K.lookup f = some ⟨oc, od, .func (PySem.W.fnOf "read_rule" "read_rule" (defArgs s_read_rule) (defBody s_read_rule) (defScope s_read_rule) .none kV doc pm an cdv ct), osl⟩)
    (c : PySem.W.codeIn K cdv "read_rule" = true) (k : PySem.W.keepIn K (.ref f) = true) : FunAt K "read_rule" "read_rule" s_read_rule f ["line", "earlier"] cdv := ⟨_, fun_mk l c k, (fun_mk (st := s_read_rule) l c k).binds (ps := ["line", "earlier"]) (fun _ _ _ _ _ _ us hl => match us, hl with | [_, _], _ => rfl), rfl⟩
theorem at_read_classes {f : Addr} {oc : Value} {od an : Option Addr} {osl : Array (Option Value)} {kV doc pm cdv ct : Value} (l : K.lookup f = some ⟨oc, od, .func (PySem.W.fnOf "read_classes" "read_classes" (defArgs s_read_classes) (defBody s_read_classes) (defScope s_read_classes) .none kV doc pm an cdv ct), osl⟩)
    (c : PySem.W.codeIn K cdv "read_classes" = true) (k : PySem.W.keepIn K (.ref f) = true) : FunAt K "read_classes" "read_classes" s_read_classes f ["words", "signs"] cdv := ⟨_, fun_mk l c k, (fun_mk (st := s_read_classes) l c k).binds (ps := ["words", "signs"]) (fun _ _ _ _ _ _ us hl => match us, hl with | [_, _], _ => rfl), rfl⟩
theorem at_has_figures_together {f : Addr} {oc : Value} {od an : Option Addr} {osl : Array (Option Value)} {kV doc pm cdv ct : Value} (l : K.lookup f = some ⟨oc, od, .func (PySem.W.fnOf "has_figures_together" "has_figures_together" (defArgs s_has_figures_together) (defBody s_has_figures_together) (defScope s_has_figures_together) .none kV doc pm an cdv ct), osl⟩)
    (c : PySem.W.codeIn K cdv "has_figures_together" = true) (k : PySem.W.keepIn K (.ref f) = true) : FunAt K "has_figures_together" "has_figures_together" s_has_figures_together f ["classes"] cdv := ⟨_, fun_mk l c k, (fun_mk (st := s_has_figures_together) l c k).binds (ps := ["classes"]) (fun _ _ _ _ _ _ us hl => match us, hl with | [_], _ => rfl), rfl⟩
theorem at_read_fact {f : Addr} {oc : Value} {od an : Option Addr} {osl : Array (Option Value)} {kV doc pm cdv ct : Value} (l : K.lookup f = some ⟨oc, od, .func (PySem.W.fnOf "read_fact" "read_fact" (defArgs s_read_fact) (defBody s_read_fact) (defScope s_read_fact) .none kV doc pm an cdv ct), osl⟩)
    (c : PySem.W.codeIn K cdv "read_fact" = true) (k : PySem.W.keepIn K (.ref f) = true) : FunAt K "read_fact" "read_fact" s_read_fact f ["word", "signs"] cdv := ⟨_, fun_mk l c k, (fun_mk (st := s_read_fact) l c k).binds (ps := ["word", "signs"]) (fun _ _ _ _ _ _ us hl => match us, hl with | [_, _], _ => rfl), rfl⟩
theorem at_read_facts {f : Addr} {oc : Value} {od an : Option Addr} {osl : Array (Option Value)} {kV doc pm cdv ct : Value} (l : K.lookup f = some ⟨oc, od, .func (PySem.W.fnOf "read_facts" "read_facts" (defArgs s_read_facts) (defBody s_read_facts) (defScope s_read_facts) .none kV doc pm an cdv ct), osl⟩)
    (c : PySem.W.codeIn K cdv "read_facts" = true) (k : PySem.W.keepIn K (.ref f) = true) : FunAt K "read_facts" "read_facts" s_read_facts f ["words", "signs", "word"] cdv := ⟨_, fun_mk l c k, (fun_mk (st := s_read_facts) l c k).binds (ps := ["words", "signs", "word"]) (fun _ _ _ _ _ _ us hl => match us, hl with | [_, _, _], _ => rfl), rfl⟩
theorem at_read_ranks {f : Addr} {oc : Value} {od an : Option Addr} {osl : Array (Option Value)} {kV doc pm cdv ct : Value} (l : K.lookup f = some ⟨oc, od, .func (PySem.W.fnOf "read_ranks" "read_ranks" (defArgs s_read_ranks) (defBody s_read_ranks) (defScope s_read_ranks) .none kV doc pm an cdv ct), osl⟩)
    (c : PySem.W.codeIn K cdv "read_ranks" = true) (k : PySem.W.keepIn K (.ref f) = true) : FunAt K "read_ranks" "read_ranks" s_read_ranks f ["words", "signs"] cdv := ⟨_, fun_mk l c k, (fun_mk (st := s_read_ranks) l c k).binds (ps := ["words", "signs"]) (fun _ _ _ _ _ _ us hl => match us, hl with | [_, _], _ => rfl), rfl⟩
theorem at_read_pass {f : Addr} {oc : Value} {od an : Option Addr} {osl : Array (Option Value)} {kV doc pm cdv ct : Value} (l : K.lookup f = some ⟨oc, od, .func (PySem.W.fnOf "read_pass" "read_pass" (defArgs s_read_pass) (defBody s_read_pass) (defScope s_read_pass) .none kV doc pm an cdv ct), osl⟩)
    (c : PySem.W.codeIn K cdv "read_pass" = true) (k : PySem.W.keepIn K (.ref f) = true) : FunAt K "read_pass" "read_pass" s_read_pass f ["line", "signs", "is_first"] cdv := ⟨_, fun_mk l c k, (fun_mk (st := s_read_pass) l c k).binds (ps := ["line", "signs", "is_first"]) (fun _ _ _ _ _ _ us hl => match us, hl with | [_, _, _], _ => rfl), rfl⟩
theorem at_read_passes {f : Addr} {oc : Value} {od an : Option Addr} {osl : Array (Option Value)} {kV doc pm cdv ct : Value} (l : K.lookup f = some ⟨oc, od, .func (PySem.W.fnOf "read_passes" "read_passes" (defArgs s_read_passes) (defBody s_read_passes) (defScope s_read_passes) .none kV doc pm an cdv ct), osl⟩)
    (c : PySem.W.codeIn K cdv "read_passes" = true) (k : PySem.W.keepIn K (.ref f) = true) : FunAt K "read_passes" "read_passes" s_read_passes f ["lines", "at", "signs"] cdv := ⟨_, fun_mk l c k, (fun_mk (st := s_read_passes) l c k).binds (ps := ["lines", "at", "signs"]) (fun _ _ _ _ _ _ us hl => match us, hl with | [_, _, _], _ => rfl), rfl⟩
theorem at_read_rules {f : Addr} {oc : Value} {od an : Option Addr} {osl : Array (Option Value)} {kV doc pm cdv ct : Value} (l : K.lookup f = some ⟨oc, od, .func (PySem.W.fnOf "read_rules" "read_rules" (defArgs s_read_rules) (defBody s_read_rules) (defScope s_read_rules) .none kV doc pm an cdv ct), osl⟩)
    (c : PySem.W.codeIn K cdv "read_rules" = true) (k : PySem.W.keepIn K (.ref f) = true) : FunAt K "read_rules" "read_rules" s_read_rules f ["lines", "at", "signs"] cdv := ⟨_, fun_mk l c k, (fun_mk (st := s_read_rules) l c k).binds (ps := ["lines", "at", "signs"]) (fun _ _ _ _ _ _ us hl => match us, hl with | [_, _, _], _ => rfl), rfl⟩
theorem at_read_house {f : Addr} {oc : Value} {od an : Option Addr} {osl : Array (Option Value)} {kV doc pm cdv ct : Value} (l : K.lookup f = some ⟨oc, od, .func (PySem.W.fnOf "read_house" "read_house" (defArgs s_read_house) (defBody s_read_house) (defScope s_read_house) .none kV doc pm an cdv ct), osl⟩)
    (c : PySem.W.codeIn K cdv "read_house" = true) (k : PySem.W.keepIn K (.ref f) = true) : FunAt K "read_house" "read_house" s_read_house f ["text"] cdv := ⟨_, fun_mk l c k, (fun_mk (st := s_read_house) l c k).binds (ps := ["text"]) (fun _ _ _ _ _ _ us hl => match us, hl with | [_], _ => rfl), rfl⟩
theorem at_House___init {f : Addr} {oc : Value} {od an : Option Addr} {osl : Array (Option Value)} {kV doc pm cdv ct : Value} (l : K.lookup f = some ⟨oc, od, .func (PySem.W.fnOf "__init__" "House.__init__" (defArgs s_House___init__) (defBody s_House___init__) (defScope s_House___init__) .none kV doc pm an cdv ct), osl⟩)
    (c : PySem.W.codeIn K cdv "House.__init__" = true) (k : PySem.W.keepIn K (.ref f) = true) : FunAt K "__init__" "House.__init__" s_House___init__ f ["self", "text"] cdv := ⟨_, fun_mk l c k, (fun_mk (st := s_House___init__) l c k).binds (ps := ["self", "text"]) (fun _ _ _ _ _ _ us hl => match us, hl with | [_, _], _ => rfl), rfl⟩
theorem at_House_passes {f : Addr} {oc : Value} {od an : Option Addr} {osl : Array (Option Value)} {kV doc pm cdv ct : Value} (l : K.lookup f = some ⟨oc, od, .func (PySem.W.fnOf "passes" "House.passes" (defArgs s_House_passes) (defBody s_House_passes) (defScope s_House_passes) .none kV doc pm an cdv ct), osl⟩)
    (c : PySem.W.codeIn K cdv "House.passes" = true) (k : PySem.W.keepIn K (.ref f) = true) : FunAt K "passes" "House.passes" s_House_passes f ["self", "rule"] cdv := ⟨_, fun_mk l c k, (fun_mk (st := s_House_passes) l c k).binds (ps := ["self", "rule"]) (fun _ _ _ _ _ _ us hl => match us, hl with | [_, _], _ => rfl), rfl⟩
theorem at_House___len {f : Addr} {oc : Value} {od an : Option Addr} {osl : Array (Option Value)} {kV doc pm cdv ct : Value} (l : K.lookup f = some ⟨oc, od, .func (PySem.W.fnOf "__len__" "House.__len__" (defArgs s_House___len__) (defBody s_House___len__) (defScope s_House___len__) .none kV doc pm an cdv ct), osl⟩)
    (c : PySem.W.codeIn K cdv "House.__len__" = true) (k : PySem.W.keepIn K (.ref f) = true) : FunAt K "__len__" "House.__len__" s_House___len__ f ["self"] cdv := ⟨_, fun_mk l c k, (fun_mk (st := s_House___len__) l c k).binds (ps := ["self"]) (fun _ _ _ _ _ _ us hl => match us, hl with | [_], _ => rfl), rfl⟩
theorem at_House___contains {f : Addr} {oc : Value} {od an : Option Addr} {osl : Array (Option Value)} {kV doc pm cdv ct : Value} (l : K.lookup f = some ⟨oc, od, .func (PySem.W.fnOf "__contains__" "House.__contains__" (defArgs s_House___contains__) (defBody s_House___contains__) (defScope s_House___contains__) .none kV doc pm an cdv ct), osl⟩)
    (c : PySem.W.codeIn K cdv "House.__contains__" = true) (k : PySem.W.keepIn K (.ref f) = true) : FunAt K "__contains__" "House.__contains__" s_House___contains__ f ["self", "value"] cdv := ⟨_, fun_mk l c k, (fun_mk (st := s_House___contains__) l c k).binds (ps := ["self", "value"]) (fun _ _ _ _ _ _ us hl => match us, hl with | [_, _], _ => rfl), rfl⟩
theorem at_House___eq {f : Addr} {oc : Value} {od an : Option Addr} {osl : Array (Option Value)} {kV doc pm cdv ct : Value} (l : K.lookup f = some ⟨oc, od, .func (PySem.W.fnOf "__eq__" "House.__eq__" (defArgs s_House___eq__) (defBody s_House___eq__) (defScope s_House___eq__) .none kV doc pm an cdv ct), osl⟩)
    (c : PySem.W.codeIn K cdv "House.__eq__" = true) (k : PySem.W.keepIn K (.ref f) = true) : FunAt K "__eq__" "House.__eq__" s_House___eq__ f ["self", "other"] cdv := ⟨_, fun_mk l c k, (fun_mk (st := s_House___eq__) l c k).binds (ps := ["self", "other"]) (fun _ _ _ _ _ _ us hl => match us, hl with | [_, _], _ => rfl), rfl⟩
theorem at_law_pot {f : Addr} {oc : Value} {od an : Option Addr} {osl : Array (Option Value)} {kV doc pm cdv ct : Value} (l : K.lookup f = some ⟨oc, od, .func (PySem.W.fnOf "_law_pot" "_law_pot" (defArgs s__law_pot) (defBody s__law_pot) (defScope s__law_pot) .none kV doc pm an cdv ct), osl⟩)
    (c : PySem.W.codeIn K cdv "_law_pot" = true) (k : PySem.W.keepIn K (.ref f) = true) : FunAt K "_law_pot" "_law_pot" s__law_pot f ["_law_script", "_law_place"] cdv := ⟨_, fun_mk l c k, (fun_mk (st := s__law_pot) l c k).binds (ps := ["_law_script", "_law_place"]) (fun _ _ _ _ _ _ us hl => match us, hl with | [_, _], _ => rfl), rfl⟩
theorem at_law_take {f : Addr} {oc : Value} {od an : Option Addr} {osl : Array (Option Value)} {kV doc pm cdv ct : Value} (l : K.lookup f = some ⟨oc, od, .func (PySem.W.fnOf "_law_take" "_law_take" (defArgs s__law_take) (defBody s__law_take) (defScope s__law_take) .none kV doc pm an cdv ct), osl⟩)
    (c : PySem.W.codeIn K cdv "_law_take" = true) (k : PySem.W.keepIn K (.ref f) = true) : FunAt K "_law_take" "_law_take" s__law_take f ["_law_pot_here", "_law_upto"] cdv := ⟨_, fun_mk l c k, (fun_mk (st := s__law_take) l c k).binds (ps := ["_law_pot_here", "_law_upto"]) (fun _ _ _ _ _ _ us hl => match us, hl with | [_, _], _ => rfl), rfl⟩
theorem at_law_of {f : Addr} {oc : Value} {od an : Option Addr} {osl : Array (Option Value)} {kV doc pm cdv ct : Value} (l : K.lookup f = some ⟨oc, od, .func (PySem.W.fnOf "_law_of" "_law_of" (defArgs s__law_of) (defBody s__law_of) (defScope s__law_of) .none kV doc pm an cdv ct), osl⟩)
    (c : PySem.W.codeIn K cdv "_law_of" = true) (k : PySem.W.keepIn K (.ref f) = true) : FunAt K "_law_of" "_law_of" s__law_of f ["_law_pot_here", "_law_some_here"] cdv := ⟨_, fun_mk l c k, (fun_mk (st := s__law_of) l c k).binds (ps := ["_law_pot_here", "_law_some_here"]) (fun _ _ _ _ _ _ us hl => match us, hl with | [_, _], _ => rfl), rfl⟩
theorem at_law_some {f : Addr} {oc : Value} {od an : Option Addr} {osl : Array (Option Value)} {kV doc pm cdv ct : Value} (l : K.lookup f = some ⟨oc, od, .func (PySem.W.fnOf "_law_some" "_law_some" (defArgs s__law_some) (defBody s__law_some) (defScope s__law_some) .none kV doc pm an cdv ct), osl⟩)
    (c : PySem.W.codeIn K cdv "_law_some" = true) (k : PySem.W.keepIn K (.ref f) = true) : FunAt K "_law_some" "_law_some" s__law_some f ["_law_pot_here", "_law_pool", "_law_many"] cdv := ⟨_, fun_mk l c k, (fun_mk (st := s__law_some) l c k).binds (ps := ["_law_pot_here", "_law_pool", "_law_many"]) (fun _ _ _ _ _ _ us hl => match us, hl with | [_, _, _], _ => rfl), rfl⟩
theorem at_law_cells {f : Addr} {oc : Value} {od an : Option Addr} {osl : Array (Option Value)} {kV doc pm cdv ct : Value} (l : K.lookup f = some ⟨oc, od, .func (PySem.W.fnOf "_law_cells" "_law_cells" (defArgs s__law_cells) (defBody s__law_cells) (defScope s__law_cells) .none kV doc pm an cdv ct), osl⟩)
    (c : PySem.W.codeIn K cdv "_law_cells" = true) (k : PySem.W.keepIn K (.ref f) = true) : FunAt K "_law_cells" "_law_cells" s__law_cells f ["_law_script", "_law_most"] cdv := ⟨_, fun_mk l c k, (fun_mk (st := s__law_cells) l c k).binds (ps := ["_law_script", "_law_most"]) (fun _ _ _ _ _ _ us hl => match us, hl with | [_, _], _ => rfl), rfl⟩
theorem at_law_told {f : Addr} {oc : Value} {od an : Option Addr} {osl : Array (Option Value)} {kV doc pm cdv ct : Value} (l : K.lookup f = some ⟨oc, od, .func (PySem.W.fnOf "_law_told" "_law_told" (defArgs s__law_told) (defBody s__law_told) (defScope s__law_told) .none kV doc pm an cdv ct), osl⟩)
    (c : PySem.W.codeIn K cdv "_law_told" = true) (k : PySem.W.keepIn K (.ref f) = true) : FunAt K "_law_told" "_law_told" s__law_told f ["_law_look"] cdv := ⟨_, fun_mk l c k, (fun_mk (st := s__law_told) l c k).binds (ps := ["_law_look"]) (fun _ _ _ _ _ _ us hl => match us, hl with | [_], _ => rfl), rfl⟩
theorem at_law_odd {f : Addr} {oc : Value} {od an : Option Addr} {osl : Array (Option Value)} {kV doc pm cdv ct : Value} (l : K.lookup f = some ⟨oc, od, .func (PySem.W.fnOf "_law_odd" "_law_odd" (defArgs s__law_odd) (defBody s__law_odd) (defScope s__law_odd) .none kV doc pm an cdv ct), osl⟩)
    (c : PySem.W.codeIn K cdv "_law_odd" = true) (k : PySem.W.keepIn K (.ref f) = true) : FunAt K "_law_odd" "_law_odd" s__law_odd f ["_law_pot_here"] cdv := ⟨_, fun_mk l c k, (fun_mk (st := s__law_odd) l c k).binds (ps := ["_law_pot_here"]) (fun _ _ _ _ _ _ us hl => match us, hl with | [_], _ => rfl), rfl⟩
theorem at_law_class_of {f : Addr} {oc : Value} {od an : Option Addr} {osl : Array (Option Value)} {kV doc pm cdv ct : Value} (l : K.lookup f = some ⟨oc, od, .func (PySem.W.fnOf "_law_class_of" "_law_class_of" (defArgs s__law_class_of) (defBody s__law_class_of) (defScope s__law_class_of) .none kV doc pm an cdv ct), osl⟩)
    (c : PySem.W.codeIn K cdv "_law_class_of" = true) (k : PySem.W.keepIn K (.ref f) = true) : FunAt K "_law_class_of" "_law_class_of" s__law_class_of f ["_law_classes_here", "_law_sign"] cdv := ⟨_, fun_mk l c k, (fun_mk (st := s__law_class_of) l c k).binds (ps := ["_law_classes_here", "_law_sign"]) (fun _ _ _ _ _ _ us hl => match us, hl with | [_, _], _ => rfl), rfl⟩
theorem at_law_is_figure {f : Addr} {oc : Value} {od an : Option Addr} {osl : Array (Option Value)} {kV doc pm cdv ct : Value} (l : K.lookup f = some ⟨oc, od, .func (PySem.W.fnOf "_law_is_figure" "_law_is_figure" (defArgs s__law_is_figure) (defBody s__law_is_figure) (defScope s__law_is_figure) .none kV doc pm an cdv ct), osl⟩)
    (c : PySem.W.codeIn K cdv "_law_is_figure" = true) (k : PySem.W.keepIn K (.ref f) = true) : FunAt K "_law_is_figure" "_law_is_figure" s__law_is_figure f ["_law_sign"] cdv := ⟨_, fun_mk l c k, (fun_mk (st := s__law_is_figure) l c k).binds (ps := ["_law_sign"]) (fun _ _ _ _ _ _ us hl => match us, hl with | [_], _ => rfl), rfl⟩
theorem at_law_are_beside {f : Addr} {oc : Value} {od an : Option Addr} {osl : Array (Option Value)} {kV doc pm cdv ct : Value} (l : K.lookup f = some ⟨oc, od, .func (PySem.W.fnOf "_law_are_beside" "_law_are_beside" (defArgs s__law_are_beside) (defBody s__law_are_beside) (defScope s__law_are_beside) .none kV doc pm an cdv ct), osl⟩)
    (c : PySem.W.codeIn K cdv "_law_are_beside" = true) (k : PySem.W.keepIn K (.ref f) = true) : FunAt K "_law_are_beside" "_law_are_beside" s__law_are_beside f ["_law_classes_here"] cdv := ⟨_, fun_mk l c k, (fun_mk (st := s__law_are_beside) l c k).binds (ps := ["_law_classes_here"]) (fun _ _ _ _ _ _ us hl => match us, hl with | [_], _ => rfl), rfl⟩
theorem at_law_keeps {f : Addr} {oc : Value} {od an : Option Addr} {osl : Array (Option Value)} {kV doc pm cdv ct : Value} (l : K.lookup f = some ⟨oc, od, .func (PySem.W.fnOf "_law_keeps" "_law_keeps" (defArgs s__law_keeps) (defBody s__law_keeps) (defScope s__law_keeps) .none kV doc pm an cdv ct), osl⟩)
    (c : PySem.W.codeIn K cdv "_law_keeps" = true) (k : PySem.W.keepIn K (.ref f) = true) : FunAt K "_law_keeps" "_law_keeps" s__law_keeps f ["_law_classes_here", "_law_fact"] cdv := ⟨_, fun_mk l c k, (fun_mk (st := s__law_keeps) l c k).binds (ps := ["_law_classes_here", "_law_fact"]) (fun _ _ _ _ _ _ us hl => match us, hl with | [_, _], _ => rfl), rfl⟩
theorem at_law_classes {f : Addr} {oc : Value} {od an : Option Addr} {osl : Array (Option Value)} {kV doc pm cdv ct : Value} (l : K.lookup f = some ⟨oc, od, .func (PySem.W.fnOf "_law_classes" "_law_classes" (defArgs s__law_classes) (defBody s__law_classes) (defScope s__law_classes) .none kV doc pm an cdv ct), osl⟩)
    (c : PySem.W.codeIn K cdv "_law_classes" = true) (k : PySem.W.keepIn K (.ref f) = true) : FunAt K "_law_classes" "_law_classes" s__law_classes f ["_law_pot_here", "_law_signs_here", "_law_word"] cdv := ⟨_, fun_mk l c k, (fun_mk (st := s__law_classes) l c k).binds (ps := ["_law_pot_here", "_law_signs_here", "_law_word"]) (fun _ _ _ _ _ _ us hl => match us, hl with | [_, _, _], _ => rfl), rfl⟩
theorem at_law_facts {f : Addr} {oc : Value} {od an : Option Addr} {osl : Array (Option Value)} {kV doc pm cdv ct : Value} (l : K.lookup f = some ⟨oc, od, .func (PySem.W.fnOf "_law_facts" "_law_facts" (defArgs s__law_facts) (defBody s__law_facts) (defScope s__law_facts) .none kV doc pm an cdv ct), osl⟩)
    (c : PySem.W.codeIn K cdv "_law_facts" = true) (k : PySem.W.keepIn K (.ref f) = true) : FunAt K "_law_facts" "_law_facts" s__law_facts f ["_law_pot_here", "_law_signs_here", "_law_word", "_law_most"] cdv := ⟨_, fun_mk l c k, (fun_mk (st := s__law_facts) l c k).binds (ps := ["_law_pot_here", "_law_signs_here", "_law_word", "_law_most"]) (fun _ _ _ _ _ _ us hl => match us, hl with | [_, _, _, _], _ => rfl), rfl⟩
theorem at_law_pass {f : Addr} {oc : Value} {od an : Option Addr} {osl : Array (Option Value)} {kV doc pm cdv ct : Value} (l : K.lookup f = some ⟨oc, od, .func (PySem.W.fnOf "_law_pass" "_law_pass" (defArgs s__law_pass) (defBody s__law_pass) (defScope s__law_pass) .none kV doc pm an cdv ct), osl⟩)
    (c : PySem.W.codeIn K cdv "_law_pass" = true) (k : PySem.W.keepIn K (.ref f) = true) : FunAt K "_law_pass" "_law_pass" s__law_pass f ["_law_pot_here", "_law_signs_here", "_law_is_first", "_law_odds"] cdv := ⟨_, fun_mk l c k, (fun_mk (st := s__law_pass) l c k).binds (ps := ["_law_pot_here", "_law_signs_here", "_law_is_first", "_law_odds"]) (fun _ _ _ _ _ _ us hl => match us, hl with | [_, _, _, _], _ => rfl), rfl⟩
theorem at_law_words {f : Addr} {oc : Value} {od an : Option Addr} {osl : Array (Option Value)} {kV doc pm cdv ct : Value} (l : K.lookup f = some ⟨oc, od, .func (PySem.W.fnOf "_law_words" "_law_words" (defArgs s__law_words) (defBody s__law_words) (defScope s__law_words) .none kV doc pm an cdv ct), osl⟩)
    (c : PySem.W.codeIn K cdv "_law_words" = true) (k : PySem.W.keepIn K (.ref f) = true) : FunAt K "_law_words" "_law_words" s__law_words f [] cdv := ⟨_, fun_mk l c k, (fun_mk (st := s__law_words) l c k).binds (ps := []) (fun _ _ _ _ _ _ us hl => match us, hl with | [], _ => rfl), rfl⟩
theorem at_law_signs {f : Addr} {oc : Value} {od an : Option Addr} {osl : Array (Option Value)} {kV doc pm cdv ct : Value} (l : K.lookup f = some ⟨oc, od, .func (PySem.W.fnOf "_law_signs" "_law_signs" (defArgs s__law_signs) (defBody s__law_signs) (defScope s__law_signs) .none kV doc pm an cdv ct), osl⟩)
    (c : PySem.W.codeIn K cdv "_law_signs" = true) (k : PySem.W.keepIn K (.ref f) = true) : FunAt K "_law_signs" "_law_signs" s__law_signs f ["_law_pot_here", "_law_many"] cdv := ⟨_, fun_mk l c k, (fun_mk (st := s__law_signs) l c k).binds (ps := ["_law_pot_here", "_law_many"]) (fun _ _ _ _ _ _ us hl => match us, hl with | [_, _], _ => rfl), rfl⟩
theorem at_law_form {f : Addr} {oc : Value} {od an : Option Addr} {osl : Array (Option Value)} {kV doc pm cdv ct : Value} (l : K.lookup f = some ⟨oc, od, .func (PySem.W.fnOf "_law_form" "_law_form" (defArgs s__law_form) (defBody s__law_form) (defScope s__law_form) .none kV doc pm an cdv ct), osl⟩)
    (c : PySem.W.codeIn K cdv "_law_form" = true) (k : PySem.W.keepIn K (.ref f) = true) : FunAt K "_law_form" "_law_form" s__law_form f ["_law_pot_here", "_law_signs_here"] cdv := ⟨_, fun_mk l c k, (fun_mk (st := s__law_form) l c k).binds (ps := ["_law_pot_here", "_law_signs_here"]) (fun _ _ _ _ _ _ us hl => match us, hl with | [_, _], _ => rfl), rfl⟩
theorem at_law_lore {f : Addr} {oc : Value} {od an : Option Addr} {osl : Array (Option Value)} {kV doc pm cdv ct : Value} (l : K.lookup f = some ⟨oc, od, .func (PySem.W.fnOf "_law_lore" "_law_lore" (defArgs s__law_lore) (defBody s__law_lore) (defScope s__law_lore) .none kV doc pm an cdv ct), osl⟩)
    (c : PySem.W.codeIn K cdv "_law_lore" = true) (k : PySem.W.keepIn K (.ref f) = true) : FunAt K "_law_lore" "_law_lore" s__law_lore f ["_law_pot_here", "_law_signs_here", "_law_rules", "_law_passes", "_law_odds"] cdv := ⟨_, fun_mk l c k, (fun_mk (st := s__law_lore) l c k).binds (ps := ["_law_pot_here", "_law_signs_here", "_law_rules", "_law_passes", "_law_odds"]) (fun _ _ _ _ _ _ us hl => match us, hl with | [_, _, _, _, _], _ => rfl), rfl⟩
theorem at_law_pass_line {f : Addr} {oc : Value} {od an : Option Addr} {osl : Array (Option Value)} {kV doc pm cdv ct : Value} (l : K.lookup f = some ⟨oc, od, .func (PySem.W.fnOf "_law_pass_line" "_law_pass_line" (defArgs s__law_pass_line) (defBody s__law_pass_line) (defScope s__law_pass_line) .none kV doc pm an cdv ct), osl⟩)
    (c : PySem.W.codeIn K cdv "_law_pass_line" = true) (k : PySem.W.keepIn K (.ref f) = true) : FunAt K "_law_pass_line" "_law_pass_line" s__law_pass_line f ["_law_row"] cdv := ⟨_, fun_mk l c k, (fun_mk (st := s__law_pass_line) l c k).binds (ps := ["_law_row"]) (fun _ _ _ _ _ _ us hl => match us, hl with | [_], _ => rfl), rfl⟩
theorem at_law_text {f : Addr} {oc : Value} {od an : Option Addr} {osl : Array (Option Value)} {kV doc pm cdv ct : Value} (l : K.lookup f = some ⟨oc, od, .func (PySem.W.fnOf "_law_text" "_law_text" (defArgs s__law_text) (defBody s__law_text) (defScope s__law_text) .none kV doc pm an cdv ct), osl⟩)
    (c : PySem.W.codeIn K cdv "_law_text" = true) (k : PySem.W.keepIn K (.ref f) = true) : FunAt K "_law_text" "_law_text" s__law_text f ["_law_lore_here"] cdv := ⟨_, fun_mk l c k, (fun_mk (st := s__law_text) l c k).binds (ps := ["_law_lore_here"]) (fun _ _ _ _ _ _ us hl => match us, hl with | [_], _ => rfl), rfl⟩
theorem at_law_is_full {f : Addr} {oc : Value} {od an : Option Addr} {osl : Array (Option Value)} {kV doc pm cdv ct : Value} (l : K.lookup f = some ⟨oc, od, .func (PySem.W.fnOf "_law_is_full" "_law_is_full" (defArgs s__law_is_full) (defBody s__law_is_full) (defScope s__law_is_full) .none kV doc pm an cdv ct), osl⟩)
    (c : PySem.W.codeIn K cdv "_law_is_full" = true) (k : PySem.W.keepIn K (.ref f) = true) : FunAt K "_law_is_full" "_law_is_full" s__law_is_full f ["_law_lore_here"] cdv := ⟨_, fun_mk l c k, (fun_mk (st := s__law_is_full) l c k).binds (ps := ["_law_lore_here"]) (fun _ _ _ _ _ _ us hl => match us, hl with | [_], _ => rfl), rfl⟩
theorem at_law_told_pass {f : Addr} {oc : Value} {od an : Option Addr} {osl : Array (Option Value)} {kV doc pm cdv ct : Value} (l : K.lookup f = some ⟨oc, od, .func (PySem.W.fnOf "_law_told_pass" "_law_told_pass" (defArgs s__law_told_pass) (defBody s__law_told_pass) (defScope s__law_told_pass) .none kV doc pm an cdv ct), osl⟩)
    (c : PySem.W.codeIn K cdv "_law_told_pass" = true) (k : PySem.W.keepIn K (.ref f) = true) : FunAt K "_law_told_pass" "_law_told_pass" s__law_told_pass f ["_law_row"] cdv := ⟨_, fun_mk l c k, (fun_mk (st := s__law_told_pass) l c k).binds (ps := ["_law_row"]) (fun _ _ _ _ _ _ us hl => match us, hl with | [_], _ => rfl), rfl⟩
theorem at_law_house {f : Addr} {oc : Value} {od an : Option Addr} {osl : Array (Option Value)} {kV doc pm cdv ct : Value} (l : K.lookup f = some ⟨oc, od, .func (PySem.W.fnOf "_law_house" "_law_house" (defArgs s__law_house) (defBody s__law_house) (defScope s__law_house) .none kV doc pm an cdv ct), osl⟩)
    (c : PySem.W.codeIn K cdv "_law_house" = true) (k : PySem.W.keepIn K (.ref f) = true) : FunAt K "_law_house" "_law_house" s__law_house f ["_law_pot_here"] cdv := ⟨_, fun_mk l c k, (fun_mk (st := s__law_house) l c k).binds (ps := ["_law_pot_here"]) (fun _ _ _ _ _ _ us hl => match us, hl with | [_], _ => rfl), rfl⟩
theorem at_law_right {f : Addr} {oc : Value} {od an : Option Addr} {osl : Array (Option Value)} {kV doc pm cdv ct : Value} (l : K.lookup f = some ⟨oc, od, .func (PySem.W.fnOf "_law_right" "_law_right" (defArgs s__law_right) (defBody s__law_right) (defScope s__law_right) .none kV doc pm an cdv ct), osl⟩)
    (c : PySem.W.codeIn K cdv "_law_right" = true) (k : PySem.W.keepIn K (.ref f) = true) : FunAt K "_law_right" "_law_right" s__law_right f ["_law_pot_here"] cdv := ⟨_, fun_mk l c k, (fun_mk (st := s__law_right) l c k).binds (ps := ["_law_pot_here"]) (fun _ _ _ _ _ _ us hl => match us, hl with | [_], _ => rfl), rfl⟩
theorem at_law {f : Addr} {oc : Value} {od an : Option Addr} {osl : Array (Option Value)} {kV doc pm cdv ct : Value} (l : K.lookup f = some ⟨oc, od, .func (PySem.W.fnOf "law" "law" (defArgs s_law) (defBody s_law) (defScope s_law) .none kV doc pm an cdv ct), osl⟩)
    (c : PySem.W.codeIn K cdv "law" = true) (k : PySem.W.keepIn K (.ref f) = true) : FunAt K "law" "law" s_law f ["_law_script"] cdv := ⟨_, fun_mk l c k, (fun_mk (st := s_law) l c k).binds (ps := ["_law_script"]) (fun _ _ _ _ _ _ us hl => match us, hl with | [_], _ => rfl), rfl⟩
theorem tup_OTHERS {a : Addr} {dd : Option Addr} {n : Nat} {sl : Array (Option Value)} {t0 t1 t2 : Tok} (l : K.lookup a = some ⟨.type "tuple", dd, .seq #[.str "-" t0, .str "_" t1, .str "." t2] n, sl⟩) : ∀ H, SqT K H a [.str "-", .str "_", .str "."] := fun H =>
  .inr ⟨_, _, _, l, rfl, rfl, (by show 3 ≤ sizeLine; decide), .cons ⟨t0, rfl⟩ (.cons ⟨t1, rfl⟩ (.cons ⟨t2, rfl⟩ (.nil)))⟩
theorem tup_FACTS {a : Addr} {dd : Option Addr} {n : Nat} {sl : Array (Option Value)} {t0 t1 t2 t3 : Tok} (l : K.lookup a = some ⟨.type "tuple", dd, .seq #[.str "<" t0, .str "<=" t1, .str "=" t2, .str "!=" t3] n, sl⟩) : ∀ H, SqT K H a [.str "<", .str "<=", .str "=", .str "!="] := fun H =>
  .inr ⟨_, _, _, l, rfl, rfl, (by show 4 ≤ sizeLine; decide), .cons ⟨t0, rfl⟩ (.cons ⟨t1, rfl⟩ (.cons ⟨t2, rfl⟩ (.cons ⟨t3, rfl⟩ (.nil))))⟩
end
theorem all_mk {P : Program} {w : World} {K : PySem.W.Frag} {h : Heap} {mg : Str → Option Value} {fa PR cR : Addr} (X : K.In h) (G : h.Ns mainGlobals mg) (hfa : mg "law" = some (.ref fa))
    {f_OrderError___init f_Machine___init f_read_item f_read_items f_spread f_places_ahead f_form_rows f_machine_of f_free_machine f_is_sign f_is_word f_figure_bits f_linked f_parted f_beside f_closed f_fact_rows f_has_world f_read_signs f_read_form f_read_rule f_read_classes f_has_figures_together f_read_fact f_read_facts f_read_ranks f_read_pass f_read_passes f_read_rules f_read_house f_House___init f_House_passes f_House___len f_House___contains f_House___eq f_law_pot f_law_take f_law_of f_law_some f_law_cells f_law_told f_law_odd f_law_class_of f_law_is_figure f_law_are_beside f_law_keeps f_law_classes f_law_facts f_law_pass f_law_words f_law_signs f_law_form f_law_lore f_law_pass_line f_law_text f_law_is_full f_law_told_pass f_law_house f_law_right f_law : Addr} {k_OrderError___init k_Machine___init k_read_item k_read_items k_spread k_places_ahead k_form_rows k_machine_of k_free_machine k_is_sign k_is_word k_figure_bits k_linked k_parted k_beside k_closed k_fact_rows k_has_world k_read_signs k_read_form k_read_rule k_read_classes k_has_figures_together k_read_fact k_read_facts k_read_ranks k_read_pass k_read_passes k_read_rules k_read_house k_House___init k_House_passes k_House___len k_House___contains k_House___eq k_law_pot k_law_take k_law_of k_law_some k_law_cells k_law_told k_law_odd k_law_class_of k_law_is_figure k_law_are_beside k_law_keeps k_law_classes k_law_facts k_law_pass k_law_words k_law_signs k_law_form k_law_lore k_law_pass_line k_law_text k_law_is_full k_law_told_pass k_law_house k_law : Value} {t_LETTERS t_CAPITALS t_FIGURES t_MOST_SIGNS t_MOST_FORMS t_MOST_ITEMS t_MOST_RULES t_MOST_PASSES t_MOST_FACTS : Tok} {a_OTHERS a_FACTS CHouse CMachine CNoRule COrderError NH : Addr}
    {nmH qH : Str} {bsH : List Value} {hdH : Bool} {snH : List Str} {subH : List Value} {abH : Bool} {colH : Option Bool} {ddH : Option Addr} {k0H k1H k2H k3H k5H : Option Value} {newH : String}
    (a_read_item : PySem.W.nsIn K mainGlobals "read_item" = some (some (.ref f_read_item)))
    (a_read_items : PySem.W.nsIn K mainGlobals "read_items" = some (some (.ref f_read_items)))
    (a_spread : PySem.W.nsIn K mainGlobals "spread" = some (some (.ref f_spread)))
    (a_places_ahead : PySem.W.nsIn K mainGlobals "places_ahead" = some (some (.ref f_places_ahead)))
    (a_form_rows : PySem.W.nsIn K mainGlobals "form_rows" = some (some (.ref f_form_rows)))
    (a_machine_of : PySem.W.nsIn K mainGlobals "machine_of" = some (some (.ref f_machine_of)))
    (a_free_machine : PySem.W.nsIn K mainGlobals "free_machine" = some (some (.ref f_free_machine)))
    (a_is_sign : PySem.W.nsIn K mainGlobals "is_sign" = some (some (.ref f_is_sign)))
    (a_is_word : PySem.W.nsIn K mainGlobals "is_word" = some (some (.ref f_is_word)))
    (a_figure_bits : PySem.W.nsIn K mainGlobals "figure_bits" = some (some (.ref f_figure_bits)))
    (a_linked : PySem.W.nsIn K mainGlobals "linked" = some (some (.ref f_linked)))
    (a_parted : PySem.W.nsIn K mainGlobals "parted" = some (some (.ref f_parted)))
    (a_beside : PySem.W.nsIn K mainGlobals "beside" = some (some (.ref f_beside)))
    (a_closed : PySem.W.nsIn K mainGlobals "closed" = some (some (.ref f_closed)))
    (a_fact_rows : PySem.W.nsIn K mainGlobals "fact_rows" = some (some (.ref f_fact_rows)))
    (a_has_world : PySem.W.nsIn K mainGlobals "has_world" = some (some (.ref f_has_world)))
    (a_read_signs : PySem.W.nsIn K mainGlobals "read_signs" = some (some (.ref f_read_signs)))
    (a_read_form : PySem.W.nsIn K mainGlobals "read_form" = some (some (.ref f_read_form)))
    (a_read_rule : PySem.W.nsIn K mainGlobals "read_rule" = some (some (.ref f_read_rule)))
    (a_read_classes : PySem.W.nsIn K mainGlobals "read_classes" = some (some (.ref f_read_classes)))
    (a_has_figures_together : PySem.W.nsIn K mainGlobals "has_figures_together" = some (some (.ref f_has_figures_together)))
    (a_read_fact : PySem.W.nsIn K mainGlobals "read_fact" = some (some (.ref f_read_fact)))
    (a_read_facts : PySem.W.nsIn K mainGlobals "read_facts" = some (some (.ref f_read_facts)))
    (a_read_ranks : PySem.W.nsIn K mainGlobals "read_ranks" = some (some (.ref f_read_ranks)))
    (a_read_pass : PySem.W.nsIn K mainGlobals "read_pass" = some (some (.ref f_read_pass)))
    (a_read_passes : PySem.W.nsIn K mainGlobals "read_passes" = some (some (.ref f_read_passes)))
    (a_read_rules : PySem.W.nsIn K mainGlobals "read_rules" = some (some (.ref f_read_rules)))
    (a_read_house : PySem.W.nsIn K mainGlobals "read_house" = some (some (.ref f_read_house)))
    (a_law_pot : PySem.W.nsIn K mainGlobals "_law_pot" = some (some (.ref f_law_pot)))
    (a_law_take : PySem.W.nsIn K mainGlobals "_law_take" = some (some (.ref f_law_take)))
    (a_law_of : PySem.W.nsIn K mainGlobals "_law_of" = some (some (.ref f_law_of)))
    (a_law_some : PySem.W.nsIn K mainGlobals "_law_some" = some (some (.ref f_law_some)))
    (a_law_cells : PySem.W.nsIn K mainGlobals "_law_cells" = some (some (.ref f_law_cells)))
    (a_law_told : PySem.W.nsIn K mainGlobals "_law_told" = some (some (.ref f_law_told)))
    (a_law_odd : PySem.W.nsIn K mainGlobals "_law_odd" = some (some (.ref f_law_odd)))
    (a_law_class_of : PySem.W.nsIn K mainGlobals "_law_class_of" = some (some (.ref f_law_class_of)))
    (a_law_is_figure : PySem.W.nsIn K mainGlobals "_law_is_figure" = some (some (.ref f_law_is_figure)))
    (a_law_are_beside : PySem.W.nsIn K mainGlobals "_law_are_beside" = some (some (.ref f_law_are_beside)))
    (a_law_keeps : PySem.W.nsIn K mainGlobals "_law_keeps" = some (some (.ref f_law_keeps)))
    (a_law_classes : PySem.W.nsIn K mainGlobals "_law_classes" = some (some (.ref f_law_classes)))
    (a_law_facts : PySem.W.nsIn K mainGlobals "_law_facts" = some (some (.ref f_law_facts)))
    (a_law_pass : PySem.W.nsIn K mainGlobals "_law_pass" = some (some (.ref f_law_pass)))
    (a_law_words : PySem.W.nsIn K mainGlobals "_law_words" = some (some (.ref f_law_words)))
    (a_law_signs : PySem.W.nsIn K mainGlobals "_law_signs" = some (some (.ref f_law_signs)))
    (a_law_form : PySem.W.nsIn K mainGlobals "_law_form" = some (some (.ref f_law_form)))
    (a_law_lore : PySem.W.nsIn K mainGlobals "_law_lore" = some (some (.ref f_law_lore)))
    (a_law_pass_line : PySem.W.nsIn K mainGlobals "_law_pass_line" = some (some (.ref f_law_pass_line)))
    (a_law_text : PySem.W.nsIn K mainGlobals "_law_text" = some (some (.ref f_law_text)))
    (a_law_is_full : PySem.W.nsIn K mainGlobals "_law_is_full" = some (some (.ref f_law_is_full)))
    (a_law_told_pass : PySem.W.nsIn K mainGlobals "_law_told_pass" = some (some (.ref f_law_told_pass)))
    (a_law_house : PySem.W.nsIn K mainGlobals "_law_house" = some (some (.ref f_law_house)))
    (a_law_right : PySem.W.nsIn K mainGlobals "_law_right" = some (some (.ref f_law_right)))
    (a_law : PySem.W.nsIn K mainGlobals "law" = some (some (.ref f_law)))
    (e_OrderError___init : FunAt K "__init__" "OrderError.__init__" s_OrderError___init__ f_OrderError___init ["self", "value"] k_OrderError___init)
    (e_Machine___init : FunAt K "__init__" "Machine.__init__" s_Machine___init__ f_Machine___init ["self", "starts", "ends", "moves"] k_Machine___init)
    (e_read_item : FunAt K "read_item" "read_item" s_read_item f_read_item ["word", "signs"] k_read_item)
    (e_read_items : FunAt K "read_items" "read_items" s_read_items f_read_items ["words", "signs"] k_read_items)
    (e_spread : FunAt K "spread" "spread" s_spread f_spread ["items"] k_spread)
    (e_places_ahead : FunAt K "places_ahead" "places_ahead" s_places_ahead f_places_ahead ["places", "at"] k_places_ahead)
    (e_form_rows : FunAt K "form_rows" "form_rows" s_form_rows f_form_rows ["signs", "items", "first"] k_form_rows)
    (e_machine_of : FunAt K "machine_of" "machine_of" s_machine_of f_machine_of ["signs", "forms"] k_machine_of)
    (e_free_machine : FunAt K "free_machine" "free_machine" s_free_machine f_free_machine ["signs"] k_free_machine)
    (e_is_sign : FunAt K "is_sign" "is_sign" s_is_sign f_is_sign ["word"] k_is_sign)
    (e_is_word : FunAt K "is_word" "is_word" s_is_word f_is_word ["word"] k_is_word)
    (e_figure_bits : FunAt K "figure_bits" "figure_bits" s_figure_bits f_figure_bits ["signs"] k_figure_bits)
    (e_linked : FunAt K "linked" "linked" s_linked f_linked ["lows", "belows"] k_linked)
    (e_parted : FunAt K "parted" "parted" s_parted f_parted ["lows", "belows", "unlike"] k_parted)
    (e_beside : FunAt K "beside" "beside" s_beside f_beside ["lows", "belows", "figures"] k_beside)
    (e_closed : FunAt K "closed" "closed" s_closed f_closed ["lows", "belows", "figures", "unlike"] k_closed)
    (e_fact_rows : FunAt K "fact_rows" "fact_rows" s_fact_rows f_fact_rows ["signs", "facts"] k_fact_rows)
    (e_has_world : FunAt K "has_world" "has_world" s_has_world f_has_world ["signs", "word", "facts"] k_has_world)
    (e_read_signs : FunAt K "read_signs" "read_signs" s_read_signs f_read_signs ["line"] k_read_signs)
    (e_read_form : FunAt K "read_form" "read_form" s_read_form f_read_form ["line", "signs"] k_read_form)
    (e_read_rule : FunAt K "read_rule" "read_rule" s_read_rule f_read_rule ["line", "earlier"] k_read_rule)
    (e_read_classes : FunAt K "read_classes" "read_classes" s_read_classes f_read_classes ["words", "signs"] k_read_classes)
    (e_has_figures_together : FunAt K "has_figures_together" "has_figures_together" s_has_figures_together f_has_figures_together ["classes"] k_has_figures_together)
    (e_read_fact : FunAt K "read_fact" "read_fact" s_read_fact f_read_fact ["word", "signs"] k_read_fact)
    (e_read_facts : FunAt K "read_facts" "read_facts" s_read_facts f_read_facts ["words", "signs", "word"] k_read_facts)
    (e_read_ranks : FunAt K "read_ranks" "read_ranks" s_read_ranks f_read_ranks ["words", "signs"] k_read_ranks)
    (e_read_pass : FunAt K "read_pass" "read_pass" s_read_pass f_read_pass ["line", "signs", "is_first"] k_read_pass)
    (e_read_passes : FunAt K "read_passes" "read_passes" s_read_passes f_read_passes ["lines", "at", "signs"] k_read_passes)
    (e_read_rules : FunAt K "read_rules" "read_rules" s_read_rules f_read_rules ["lines", "at", "signs"] k_read_rules)
    (e_read_house : FunAt K "read_house" "read_house" s_read_house f_read_house ["text"] k_read_house)
    (e_House___init : FunAt K "__init__" "House.__init__" s_House___init__ f_House___init ["self", "text"] k_House___init)
    (e_House_passes : FunAt K "passes" "House.passes" s_House_passes f_House_passes ["self", "rule"] k_House_passes)
    (e_House___len : FunAt K "__len__" "House.__len__" s_House___len__ f_House___len ["self"] k_House___len)
    (e_House___contains : FunAt K "__contains__" "House.__contains__" s_House___contains__ f_House___contains ["self", "value"] k_House___contains)
    (e_House___eq : FunAt K "__eq__" "House.__eq__" s_House___eq__ f_House___eq ["self", "other"] k_House___eq)
    (e_law_pot : FunAt K "_law_pot" "_law_pot" s__law_pot f_law_pot ["_law_script", "_law_place"] k_law_pot)
    (e_law_take : FunAt K "_law_take" "_law_take" s__law_take f_law_take ["_law_pot_here", "_law_upto"] k_law_take)
    (e_law_of : FunAt K "_law_of" "_law_of" s__law_of f_law_of ["_law_pot_here", "_law_some_here"] k_law_of)
    (e_law_some : FunAt K "_law_some" "_law_some" s__law_some f_law_some ["_law_pot_here", "_law_pool", "_law_many"] k_law_some)
    (e_law_cells : FunAt K "_law_cells" "_law_cells" s__law_cells f_law_cells ["_law_script", "_law_most"] k_law_cells)
    (e_law_told : FunAt K "_law_told" "_law_told" s__law_told f_law_told ["_law_look"] k_law_told)
    (e_law_odd : FunAt K "_law_odd" "_law_odd" s__law_odd f_law_odd ["_law_pot_here"] k_law_odd)
    (e_law_class_of : FunAt K "_law_class_of" "_law_class_of" s__law_class_of f_law_class_of ["_law_classes_here", "_law_sign"] k_law_class_of)
    (e_law_is_figure : FunAt K "_law_is_figure" "_law_is_figure" s__law_is_figure f_law_is_figure ["_law_sign"] k_law_is_figure)
    (e_law_are_beside : FunAt K "_law_are_beside" "_law_are_beside" s__law_are_beside f_law_are_beside ["_law_classes_here"] k_law_are_beside)
    (e_law_keeps : FunAt K "_law_keeps" "_law_keeps" s__law_keeps f_law_keeps ["_law_classes_here", "_law_fact"] k_law_keeps)
    (e_law_classes : FunAt K "_law_classes" "_law_classes" s__law_classes f_law_classes ["_law_pot_here", "_law_signs_here", "_law_word"] k_law_classes)
    (e_law_facts : FunAt K "_law_facts" "_law_facts" s__law_facts f_law_facts ["_law_pot_here", "_law_signs_here", "_law_word", "_law_most"] k_law_facts)
    (e_law_pass : FunAt K "_law_pass" "_law_pass" s__law_pass f_law_pass ["_law_pot_here", "_law_signs_here", "_law_is_first", "_law_odds"] k_law_pass)
    (e_law_words : FunAt K "_law_words" "_law_words" s__law_words f_law_words [] k_law_words)
    (e_law_signs : FunAt K "_law_signs" "_law_signs" s__law_signs f_law_signs ["_law_pot_here", "_law_many"] k_law_signs)
    (e_law_form : FunAt K "_law_form" "_law_form" s__law_form f_law_form ["_law_pot_here", "_law_signs_here"] k_law_form)
    (e_law_lore : FunAt K "_law_lore" "_law_lore" s__law_lore f_law_lore ["_law_pot_here", "_law_signs_here", "_law_rules", "_law_passes", "_law_odds"] k_law_lore)
    (e_law_pass_line : FunAt K "_law_pass_line" "_law_pass_line" s__law_pass_line f_law_pass_line ["_law_row"] k_law_pass_line)
    (e_law_text : FunAt K "_law_text" "_law_text" s__law_text f_law_text ["_law_lore_here"] k_law_text)
    (e_law_is_full : FunAt K "_law_is_full" "_law_is_full" s__law_is_full f_law_is_full ["_law_lore_here"] k_law_is_full)
    (e_law_told_pass : FunAt K "_law_told_pass" "_law_told_pass" s__law_told_pass f_law_told_pass ["_law_row"] k_law_told_pass)
    (e_law_house : FunAt K "_law_house" "_law_house" s__law_house f_law_house ["_law_pot_here"] k_law_house)
    (e_law_right : FunAt K "_law_right" "_law_right" s__law_right f_law_right ["_law_pot_here"] (.ref cR))
    (e_law : FunAt K "law" "law" s_law f_law ["_law_script"] k_law)
    (z_len : PySem.W.nsIn K mainGlobals "len" = some none)
    (z_int : PySem.W.nsIn K mainGlobals "int" = some none)
    (z_abs : PySem.W.nsIn K mainGlobals "abs" = some none)
    (z_list : PySem.W.nsIn K mainGlobals "list" = some none)
    (z_range : PySem.W.nsIn K mainGlobals "range" = some none)
    (z_max : PySem.W.nsIn K mainGlobals "max" = some none)
    (z_min : PySem.W.nsIn K mainGlobals "min" = some none)
    (z_isinstance : PySem.W.nsIn K mainGlobals "isinstance" = some none)
    (z_tuple : PySem.W.nsIn K mainGlobals "tuple" = some none)
    (z_bool : PySem.W.nsIn K mainGlobals "bool" = some none)
    (z_str : PySem.W.nsIn K mainGlobals "str" = some none)
    (z_any : PySem.W.nsIn K mainGlobals "any" = some none)
    (z_all : PySem.W.nsIn K mainGlobals "all" = some none)
    (z_enumerate : PySem.W.nsIn K mainGlobals "enumerate" = some none)
    (z_repr : PySem.W.nsIn K mainGlobals "repr" = some none)
    (z_set : PySem.W.nsIn K mainGlobals "set" = some none)
    (z_sorted : PySem.W.nsIn K mainGlobals "sorted" = some none)
    (z_sum : PySem.W.nsIn K mainGlobals "sum" = some none)
    (z_ValueError : PySem.W.nsIn K mainGlobals "ValueError" = some none)
    (g_LETTERS : PySem.W.nsIn K mainGlobals "LETTERS" = some (some (.str "abcdefghijklmnopqrstuvwxyz" t_LETTERS)))
    (g_CAPITALS : PySem.W.nsIn K mainGlobals "CAPITALS" = some (some (.str "ABCDEFGHIJKLMNOPQRSTUVWXYZ" t_CAPITALS)))
    (g_FIGURES : PySem.W.nsIn K mainGlobals "FIGURES" = some (some (.str "0123456789" t_FIGURES)))
    (g_MOST_SIGNS : PySem.W.nsIn K mainGlobals "MOST_SIGNS" = some (some (.int 8 t_MOST_SIGNS)))
    (g_MOST_FORMS : PySem.W.nsIn K mainGlobals "MOST_FORMS" = some (some (.int 2 t_MOST_FORMS)))
    (g_MOST_ITEMS : PySem.W.nsIn K mainGlobals "MOST_ITEMS" = some (some (.int 6 t_MOST_ITEMS)))
    (g_MOST_RULES : PySem.W.nsIn K mainGlobals "MOST_RULES" = some (some (.int 4 t_MOST_RULES)))
    (g_MOST_PASSES : PySem.W.nsIn K mainGlobals "MOST_PASSES" = some (some (.int 3 t_MOST_PASSES)))
    (g_MOST_FACTS : PySem.W.nsIn K mainGlobals "MOST_FACTS" = some (some (.int 12 t_MOST_FACTS)))
    (g_OTHERS : PySem.W.nsIn K mainGlobals "OTHERS" = some (some (.ref a_OTHERS)))
    (s_OTHERS : ∀ H, SqT K H a_OTHERS [.str "-", .str "_", .str "."])
    (g_FACTS : PySem.W.nsIn K mainGlobals "FACTS" = some (some (.ref a_FACTS)))
    (s_FACTS : ∀ H, SqT K H a_FACTS [.str "<", .str "<=", .str "=", .str "!="])
    (c_House : PySem.W.nsIn K mainGlobals "House" = some (some (.ref CHouse)))
    (c_Machine : PySem.W.nsIn K mainGlobals "Machine" = some (some (.ref CMachine)))
    (c_NoRule : PySem.W.nsIn K mainGlobals "NoRule" = some (some (.ref CNoRule)))
    (c_OrderError : PySem.W.nsIn K mainGlobals "OrderError" = some (some (.ref COrderError)))
    (pg_House : PySem.W.plainGet K CHouse Str.empty = true)
    (hd_House : PySem.W.hasDictIn K CHouse = true)
    (po_House : PySem.W.plainOver K CHouse = true)
    (sa_House : PySem.W.findIn K (.ref CHouse) "__setattr__" = some (some (.builtin "object.__setattr__")))
    (mk_House : PySem.W.makesIn K CHouse = true)
    (kp_House : PySem.W.keepIn K (.ref CHouse) = true)
    (in_House : PySem.W.findIn K (.ref CHouse) "__init__" = some (some (.ref f_House___init)))
    (fn_House : PySem.W.isFn K (.ref f_House___init) = true)
    (pg_Machine : PySem.W.plainGet K CMachine Str.empty = true)
    (hd_Machine : PySem.W.hasDictIn K CMachine = true)
    (po_Machine : PySem.W.plainOver K CMachine = true)
    (sa_Machine : PySem.W.findIn K (.ref CMachine) "__setattr__" = some (some (.builtin "object.__setattr__")))
    (mk_Machine : PySem.W.makesIn K CMachine = true)
    (kp_Machine : PySem.W.keepIn K (.ref CMachine) = true)
    (in_Machine : PySem.W.findIn K (.ref CMachine) "__init__" = some (some (.ref f_Machine___init)))
    (fn_Machine : PySem.W.isFn K (.ref f_Machine___init) = true)
    (n_House_text : PySem.W.findIn K (.ref CHouse) "text" = some none)
    (n_House_signs : PySem.W.findIn K (.ref CHouse) "signs" = some none)
    (n_House_rules : PySem.W.findIn K (.ref CHouse) "rules" = some none)
    (n_House_is_full : PySem.W.findIn K (.ref CHouse) "is_full" = some none)
    (n_House_machine : PySem.W.findIn K (.ref CHouse) "machine" = some none)
    (n_House__passes : PySem.W.findIn K (.ref CHouse) "_passes" = some none)
    (n_Machine_starts : PySem.W.findIn K (.ref CMachine) "starts" = some none)
    (n_Machine_ends : PySem.W.findIn K (.ref CMachine) "ends" = some none)
    (n_Machine_moves : PySem.W.findIn K (.ref CMachine) "moves" = some none)
    (m_len : PySem.W.findIn K (.ref CHouse) "__len__" = some (some (.ref f_House___len)))
    (i_len : PySem.W.isFn K (.ref f_House___len) = true)
    (m_contains : PySem.W.findIn K (.ref CHouse) "__contains__" = some (some (.ref f_House___contains)))
    (i_contains : PySem.W.isFn K (.ref f_House___contains) = true)
    (m_eq : PySem.W.findIn K (.ref CHouse) "__eq__" = some (some (.ref f_House___eq)))
    (i_eq : PySem.W.isFn K (.ref f_House___eq) = true)
    (m_passes : PySem.W.findIn K (.ref CHouse) "passes" = some (some (.ref f_House_passes)))
    (i_passes : PySem.W.isFn K (.ref f_House_passes) = true)
    (lk_House : K.lookup CHouse = some (excClassObj nmH qH CHouse NH bsH [.type "object"] hdH snH subH abH colH ddH k0H k1H k2H k3H k5H newH))
    (ks_House : keysIn K NH = true)
    (eq_House : PySem.W.nsIn K NH "__eq__" = some (some (.ref f_House___eq)))
    (ne_House : PySem.W.nsIn K NH "__ne__" = some none)
    (ty_eq : PySem.W.typeIn K (.ref f_House___eq) = some (.type "function"))
    (ci_House : PySem.W.findIn K (.ref CHouse) "__class__" = some (some (.builtin "object.__class__")))
    (sp_cls : PySem.W.specialIn K (.builtin "object.__class__") "__get__" = some (some (.builtin "getset_descriptor.__get__")))
    (tk_cls : PySem.W.takesIn K (.builtin "object.__class__") = some true)
    (mr_House : PySem.W.mroIn K CHouse (.type "object") = some true)
    (kt_House : PySem.W.kitOne K (.ref CHouse) (.ref CHouse) = some true)
    (nf_NoneType : PySem.W.notFirst K CHouse (.type "NoneType") = true)
    (ko_NoneType : PySem.W.kitOne K (.type "NoneType") (.ref CHouse) = some false)
    (nf_bool : PySem.W.notFirst K CHouse (.type "bool") = true)
    (ko_bool : PySem.W.kitOne K (.type "bool") (.ref CHouse) = some false)
    (nf_int : PySem.W.notFirst K CHouse (.type "int") = true)
    (ko_int : PySem.W.kitOne K (.type "int") (.ref CHouse) = some false)
    (nf_str : PySem.W.notFirst K CHouse (.type "str") = true)
    (ko_str : PySem.W.kitOne K (.type "str") (.ref CHouse) = some false)
    (nf_list : PySem.W.notFirst K CHouse (.type "list") = true)
    (ko_list : PySem.W.kitOne K (.type "list") (.ref CHouse) = some false)
    (nf_tuple : PySem.W.notFirst K CHouse (.type "tuple") = true)
    (ko_tuple : PySem.W.kitOne K (.type "tuple") (.ref CHouse) = some false)
    (nf_dict : PySem.W.notFirst K CHouse (.type "dict") = true)
    (ko_dict : PySem.W.kitOne K (.type "dict") (.ref CHouse) = some false)
    (exm : PySem.W.exmOne K (.ref CNoRule) (.ref COrderError) = some true)
    (EN : ErrB K CNoRule COrderError f_OrderError___init)
    (tI : PySem.W.typeIn K (.ref f_OrderError___init) = some (.type "function"))
    (vV : PySem.W.findCls K (.type "ValueError") (.type "type") "__init__" = some (.val (.builtin "ValueError.__init__"))) :
    ∃ fd : FuncData, (∀ (s : Shared) (v : Value), BindsTo s fd ⟨[v], []⟩ [("_law_script", v)]) ∧ ∀ base : Heap, K.In base → base.Ns mainGlobals mg → TabB base mg cR PR → FnQ P w K mg base CX0 13 fa fd ["_law_script"] (spLaw K [(PR, (("_law_right" : Str) ++ ".<locals>.") ++ "<lambda>")]) := by
  have e := hfa.symm.trans (PySem.W.mg_of X G a_law)
  cases e
  have B : Bl mg := ⟨PySem.W.mg_none_of X G z_len, PySem.W.mg_none_of X G z_int, PySem.W.mg_none_of X G z_abs, PySem.W.mg_none_of X G z_list, PySem.W.mg_none_of X G z_range, PySem.W.mg_none_of X G z_max, PySem.W.mg_none_of X G z_min, PySem.W.mg_none_of X G z_isinstance, PySem.W.mg_none_of X G z_tuple, PySem.W.mg_none_of X G z_bool, PySem.W.mg_none_of X G z_str, PySem.W.mg_none_of X G z_any, PySem.W.mg_none_of X G z_all, PySem.W.mg_none_of X G z_enumerate, PySem.W.mg_none_of X G z_repr, PySem.W.mg_none_of X G z_set, PySem.W.mg_none_of X G z_sorted, PySem.W.mg_none_of X G z_sum⟩
  have C : Gb K mg := ⟨⟨_, PySem.W.mg_of X G g_LETTERS⟩, ⟨_, PySem.W.mg_of X G g_CAPITALS⟩, ⟨_, PySem.W.mg_of X G g_FIGURES⟩, ⟨_, PySem.W.mg_of X G g_OTHERS, s_OTHERS⟩, ⟨_, PySem.W.mg_of X G g_FACTS, s_FACTS⟩, ⟨_, PySem.W.mg_of X G g_MOST_SIGNS⟩, ⟨_, PySem.W.mg_of X G g_MOST_FORMS⟩, ⟨_, PySem.W.mg_of X G g_MOST_ITEMS⟩, ⟨_, PySem.W.mg_of X G g_MOST_RULES⟩, ⟨_, PySem.W.mg_of X G g_MOST_PASSES⟩, ⟨_, PySem.W.mg_of X G g_MOST_FACTS⟩⟩
  obtain ⟨d_OrderError___init, F_OrderError___init, b_OrderError___init, q_OrderError___init⟩ := e_OrderError___init.ex
  obtain ⟨d_Machine___init, F_Machine___init, b_Machine___init, q_Machine___init⟩ := e_Machine___init.ex
  obtain ⟨d_read_item, F_read_item, b_read_item, q_read_item⟩ := e_read_item.ex
  have m_read_item := PySem.W.mg_of X G a_read_item
  obtain ⟨d_read_items, F_read_items, b_read_items, q_read_items⟩ := e_read_items.ex
  have m_read_items := PySem.W.mg_of X G a_read_items
  obtain ⟨d_spread, F_spread, b_spread, q_spread⟩ := e_spread.ex
  have m_spread := PySem.W.mg_of X G a_spread
  obtain ⟨d_places_ahead, F_places_ahead, b_places_ahead, q_places_ahead⟩ := e_places_ahead.ex
  have m_places_ahead := PySem.W.mg_of X G a_places_ahead
  obtain ⟨d_form_rows, F_form_rows, b_form_rows, q_form_rows⟩ := e_form_rows.ex
  have m_form_rows := PySem.W.mg_of X G a_form_rows
  obtain ⟨d_machine_of, F_machine_of, b_machine_of, q_machine_of⟩ := e_machine_of.ex
  have m_machine_of := PySem.W.mg_of X G a_machine_of
  obtain ⟨d_free_machine, F_free_machine, b_free_machine, q_free_machine⟩ := e_free_machine.ex
  have m_free_machine := PySem.W.mg_of X G a_free_machine
  obtain ⟨d_is_sign, F_is_sign, b_is_sign, q_is_sign⟩ := e_is_sign.ex
  have m_is_sign := PySem.W.mg_of X G a_is_sign
  obtain ⟨d_is_word, F_is_word, b_is_word, q_is_word⟩ := e_is_word.ex
  have m_is_word := PySem.W.mg_of X G a_is_word
  obtain ⟨d_figure_bits, F_figure_bits, b_figure_bits, q_figure_bits⟩ := e_figure_bits.ex
  have m_figure_bits := PySem.W.mg_of X G a_figure_bits
  obtain ⟨d_linked, F_linked, b_linked, q_linked⟩ := e_linked.ex
  have m_linked := PySem.W.mg_of X G a_linked
  obtain ⟨d_parted, F_parted, b_parted, q_parted⟩ := e_parted.ex
  have m_parted := PySem.W.mg_of X G a_parted
  obtain ⟨d_beside, F_beside, b_beside, q_beside⟩ := e_beside.ex
  have m_beside := PySem.W.mg_of X G a_beside
  obtain ⟨d_closed, F_closed, b_closed, q_closed⟩ := e_closed.ex
  have m_closed := PySem.W.mg_of X G a_closed
  obtain ⟨d_fact_rows, F_fact_rows, b_fact_rows, q_fact_rows⟩ := e_fact_rows.ex
  have m_fact_rows := PySem.W.mg_of X G a_fact_rows
  obtain ⟨d_has_world, F_has_world, b_has_world, q_has_world⟩ := e_has_world.ex
  have m_has_world := PySem.W.mg_of X G a_has_world
  obtain ⟨d_read_signs, F_read_signs, b_read_signs, q_read_signs⟩ := e_read_signs.ex
  have m_read_signs := PySem.W.mg_of X G a_read_signs
  obtain ⟨d_read_form, F_read_form, b_read_form, q_read_form⟩ := e_read_form.ex
  have m_read_form := PySem.W.mg_of X G a_read_form
  obtain ⟨d_read_rule, F_read_rule, b_read_rule, q_read_rule⟩ := e_read_rule.ex
  have m_read_rule := PySem.W.mg_of X G a_read_rule
  obtain ⟨d_read_classes, F_read_classes, b_read_classes, q_read_classes⟩ := e_read_classes.ex
  have m_read_classes := PySem.W.mg_of X G a_read_classes
  obtain ⟨d_has_figures_together, F_has_figures_together, b_has_figures_together, q_has_figures_together⟩ := e_has_figures_together.ex
  have m_has_figures_together := PySem.W.mg_of X G a_has_figures_together
  obtain ⟨d_read_fact, F_read_fact, b_read_fact, q_read_fact⟩ := e_read_fact.ex
  have m_read_fact := PySem.W.mg_of X G a_read_fact
  obtain ⟨d_read_facts, F_read_facts, b_read_facts, q_read_facts⟩ := e_read_facts.ex
  have m_read_facts := PySem.W.mg_of X G a_read_facts
  obtain ⟨d_read_ranks, F_read_ranks, b_read_ranks, q_read_ranks⟩ := e_read_ranks.ex
  have m_read_ranks := PySem.W.mg_of X G a_read_ranks
  obtain ⟨d_read_pass, F_read_pass, b_read_pass, q_read_pass⟩ := e_read_pass.ex
  have m_read_pass := PySem.W.mg_of X G a_read_pass
  obtain ⟨d_read_passes, F_read_passes, b_read_passes, q_read_passes⟩ := e_read_passes.ex
  have m_read_passes := PySem.W.mg_of X G a_read_passes
  obtain ⟨d_read_rules, F_read_rules, b_read_rules, q_read_rules⟩ := e_read_rules.ex
  have m_read_rules := PySem.W.mg_of X G a_read_rules
  obtain ⟨d_read_house, F_read_house, b_read_house, q_read_house⟩ := e_read_house.ex
  have m_read_house := PySem.W.mg_of X G a_read_house
  obtain ⟨d_House___init, F_House___init, b_House___init, q_House___init⟩ := e_House___init.ex
  obtain ⟨d_House_passes, F_House_passes, b_House_passes, q_House_passes⟩ := e_House_passes.ex
  obtain ⟨d_House___len, F_House___len, b_House___len, q_House___len⟩ := e_House___len.ex
  obtain ⟨d_House___contains, F_House___contains, b_House___contains, q_House___contains⟩ := e_House___contains.ex
  obtain ⟨d_House___eq, F_House___eq, b_House___eq, q_House___eq⟩ := e_House___eq.ex
  obtain ⟨d_law_pot, F_law_pot, b_law_pot, q_law_pot⟩ := e_law_pot.ex
  have m_law_pot := PySem.W.mg_of X G a_law_pot
  obtain ⟨d_law_take, F_law_take, b_law_take, q_law_take⟩ := e_law_take.ex
  have m_law_take := PySem.W.mg_of X G a_law_take
  obtain ⟨d_law_of, F_law_of, b_law_of, q_law_of⟩ := e_law_of.ex
  have m_law_of := PySem.W.mg_of X G a_law_of
  obtain ⟨d_law_some, F_law_some, b_law_some, q_law_some⟩ := e_law_some.ex
  have m_law_some := PySem.W.mg_of X G a_law_some
  obtain ⟨d_law_cells, F_law_cells, b_law_cells, q_law_cells⟩ := e_law_cells.ex
  have m_law_cells := PySem.W.mg_of X G a_law_cells
  obtain ⟨d_law_told, F_law_told, b_law_told, q_law_told⟩ := e_law_told.ex
  have m_law_told := PySem.W.mg_of X G a_law_told
  obtain ⟨d_law_odd, F_law_odd, b_law_odd, q_law_odd⟩ := e_law_odd.ex
  have m_law_odd := PySem.W.mg_of X G a_law_odd
  obtain ⟨d_law_class_of, F_law_class_of, b_law_class_of, q_law_class_of⟩ := e_law_class_of.ex
  have m_law_class_of := PySem.W.mg_of X G a_law_class_of
  obtain ⟨d_law_is_figure, F_law_is_figure, b_law_is_figure, q_law_is_figure⟩ := e_law_is_figure.ex
  have m_law_is_figure := PySem.W.mg_of X G a_law_is_figure
  obtain ⟨d_law_are_beside, F_law_are_beside, b_law_are_beside, q_law_are_beside⟩ := e_law_are_beside.ex
  have m_law_are_beside := PySem.W.mg_of X G a_law_are_beside
  obtain ⟨d_law_keeps, F_law_keeps, b_law_keeps, q_law_keeps⟩ := e_law_keeps.ex
  have m_law_keeps := PySem.W.mg_of X G a_law_keeps
  obtain ⟨d_law_classes, F_law_classes, b_law_classes, q_law_classes⟩ := e_law_classes.ex
  have m_law_classes := PySem.W.mg_of X G a_law_classes
  obtain ⟨d_law_facts, F_law_facts, b_law_facts, q_law_facts⟩ := e_law_facts.ex
  have m_law_facts := PySem.W.mg_of X G a_law_facts
  obtain ⟨d_law_pass, F_law_pass, b_law_pass, q_law_pass⟩ := e_law_pass.ex
  have m_law_pass := PySem.W.mg_of X G a_law_pass
  obtain ⟨d_law_words, F_law_words, b_law_words, q_law_words⟩ := e_law_words.ex
  have m_law_words := PySem.W.mg_of X G a_law_words
  obtain ⟨d_law_signs, F_law_signs, b_law_signs, q_law_signs⟩ := e_law_signs.ex
  have m_law_signs := PySem.W.mg_of X G a_law_signs
  obtain ⟨d_law_form, F_law_form, b_law_form, q_law_form⟩ := e_law_form.ex
  have m_law_form := PySem.W.mg_of X G a_law_form
  obtain ⟨d_law_lore, F_law_lore, b_law_lore, q_law_lore⟩ := e_law_lore.ex
  have m_law_lore := PySem.W.mg_of X G a_law_lore
  obtain ⟨d_law_pass_line, F_law_pass_line, b_law_pass_line, q_law_pass_line⟩ := e_law_pass_line.ex
  have m_law_pass_line := PySem.W.mg_of X G a_law_pass_line
  obtain ⟨d_law_text, F_law_text, b_law_text, q_law_text⟩ := e_law_text.ex
  have m_law_text := PySem.W.mg_of X G a_law_text
  obtain ⟨d_law_is_full, F_law_is_full, b_law_is_full, q_law_is_full⟩ := e_law_is_full.ex
  have m_law_is_full := PySem.W.mg_of X G a_law_is_full
  obtain ⟨d_law_told_pass, F_law_told_pass, b_law_told_pass, q_law_told_pass⟩ := e_law_told_pass.ex
  have m_law_told_pass := PySem.W.mg_of X G a_law_told_pass
  obtain ⟨d_law_house, F_law_house, b_law_house, q_law_house⟩ := e_law_house.ex
  have m_law_house := PySem.W.mg_of X G a_law_house
  obtain ⟨d_law_right, F_law_right, b_law_right, q_law_right⟩ := e_law_right.ex
  have m_law_right := PySem.W.mg_of X G a_law_right
  obtain ⟨d_law, F_law, b_law, q_law⟩ := e_law.ex
  have m_House := PySem.W.mg_of X G c_House
  have m_Machine := PySem.W.mg_of X G c_Machine
  have m_NoRule := PySem.W.mg_of X G c_NoRule
  have m_OrderError := PySem.W.mg_of X G c_OrderError
  have TM : MachT K CMachine := ⟨⟨pg_Machine, hd_Machine, po_Machine, sa_Machine⟩, n_Machine_starts, n_Machine_ends, n_Machine_moves⟩
  have TH : HouseT K CHouse := ⟨⟨pg_House, hd_House, po_House, sa_House⟩, n_House_text, n_House_signs, n_House_rules, n_House_is_full, n_House_machine, n_House__passes⟩
  have MM : Mk K CMachine f_Machine___init := ⟨mk_Machine, in_Machine, fn_Machine, kp_Machine⟩
  have MH : Mk K CHouse f_House___init := ⟨mk_House, in_House, fn_House, kp_House⟩
  have hty : ∀ {H : Hp} {a dx : Addr} {fs : List (Str × V)}, H a = some (.ins CHouse dx fs) → TyX K H (.ref a) (.ref CHouse) := fun e => .base (.ins e TH.cl ci_House sp_cls tk_cls mr_House)
  refine ⟨d_law, fun s v => ?_, fun base _ _ TB => ?_⟩
  · have z := F_law.ex
    obtain ⟨oc, od, kV, doc, pm, an, cdv, ct, osl, rfl, _, _⟩ := z
    exact .of_eq rfl
  have G_read_signs := ok_read_signs (P := P) (w := w) (base := base) F_read_signs B C F_is_sign b_is_sign m_is_sign
  have G_read_form := ok_read_form (P := P) (w := w) (base := base) F_read_form B C F_read_item b_read_item m_read_item F_read_items b_read_items m_read_items
  have G_read_rule := ok_read_rule (P := P) (w := w) (base := base) F_read_rule B C F_is_word b_is_word m_is_word
  have G_closed := ok_closed (P := P) (w := w) (base := base) F_closed B F_linked b_linked m_linked F_parted b_parted m_parted F_beside b_beside m_beside
  have G_has_world := ok_has_world (P := P) (w := w) (base := base) F_has_world B C F_fact_rows b_fact_rows m_fact_rows F_figure_bits b_figure_bits m_figure_bits F_closed b_closed m_closed G_closed
  have G_read_facts := ok_read_facts (P := P) (w := w) (base := base) F_read_facts B C F_read_fact b_read_fact m_read_fact F_has_world b_has_world m_has_world G_has_world
  have G_has_figures_together := ok_has_figures_together (P := P) (w := w) (base := base) F_has_figures_together B C
  have G_read_ranks := ok_read_ranks (P := P) (w := w) (base := base) F_read_ranks B F_read_facts b_read_facts m_read_facts G_read_facts F_read_classes b_read_classes m_read_classes F_has_figures_together b_has_figures_together m_has_figures_together G_has_figures_together
  have G_read_pass := ok_read_pass (P := P) (w := w) (base := base) F_read_pass B F_read_ranks b_read_ranks m_read_ranks G_read_ranks
  have G_read_passes := ok_read_passes (P := P) (w := w) (base := base) F_read_passes B C F_read_pass b_read_pass m_read_pass G_read_pass
  have G_read_rules := ok_read_rules (P := P) (w := w) (base := base) F_read_rules B F_read_rule b_read_rule m_read_rule G_read_rule F_read_passes b_read_passes m_read_passes G_read_passes
  have G_read_house := ok_read_house (P := P) (w := w) (base := base) F_read_house B C F_read_signs b_read_signs m_read_signs G_read_signs F_read_form b_read_form m_read_form G_read_form F_read_rules b_read_rules m_read_rules G_read_rules
  have G_form_rows := ok_form_rows (P := P) (w := w) (base := base) F_form_rows B F_spread b_spread m_spread F_places_ahead b_places_ahead m_places_ahead
  have G_free_machine := ok_free_machine (P := P) (w := w) (base := base) F_free_machine B TM MM m_Machine F_Machine___init b_Machine___init
  have G_machine_of := ok_machine_of (P := P) (w := w) (base := base) F_machine_of B TM MM m_Machine F_Machine___init b_Machine___init F_form_rows b_form_rows m_form_rows G_form_rows
  have G_House___init := ok_house_init (P := P) (w := w) (base := base) F_House___init B TH F_read_house b_read_house m_read_house G_read_house F_machine_of b_machine_of m_machine_of G_machine_of F_free_machine b_free_machine m_free_machine G_free_machine
  have G_law_pot := ok_pot (P := P) (w := w) (base := base) F_law_pot B
  have c_pot := Cal.mk (P := P) (w := w) (base := base) F_law_pot b_law_pot m_law_pot G_law_pot
  have G_law_take := ok_take (P := P) (w := w) (base := base) F_law_take B
  have c_take := Cal.mk (P := P) (w := w) (base := base) F_law_take b_law_take m_law_take G_law_take
  have G_law_cells := ok_cells (P := P) (w := w) (base := base) F_law_cells B
  have c_cells := Cal.mk (P := P) (w := w) (base := base) F_law_cells b_law_cells m_law_cells G_law_cells
  have G_law_of := ok_of (P := P) (w := w) (base := base) F_law_of B c_take
  have c_of := Cal.mk (P := P) (w := w) (base := base) F_law_of b_law_of m_law_of G_law_of
  have G_law_some := ok_some (P := P) (w := w) (base := base) F_law_some B c_take
  have c_some := Cal.mk (P := P) (w := w) (base := base) F_law_some b_law_some m_law_some G_law_some
  have G_law_is_figure := ok_is_figure (P := P) (w := w) (base := base) F_law_is_figure B
  have c_is_figure := Cal.mk (P := P) (w := w) (base := base) F_law_is_figure b_law_is_figure m_law_is_figure G_law_is_figure
  have G_law_class_of := ok_class_of (P := P) (w := w) (base := base) F_law_class_of B
  have c_class_of := Cal.mk (P := P) (w := w) (base := base) F_law_class_of b_law_class_of m_law_class_of G_law_class_of
  have G_law_are_beside := ok_are_beside (P := P) (w := w) (base := base) F_law_are_beside B c_is_figure
  have c_are_beside := Cal.mk (P := P) (w := w) (base := base) F_law_are_beside b_law_are_beside m_law_are_beside G_law_are_beside
  have G_law_keeps := ok_keeps (P := P) (w := w) (base := base) F_law_keeps B c_class_of
  have c_keeps := Cal.mk (P := P) (w := w) (base := base) F_law_keeps b_law_keeps m_law_keeps G_law_keeps
  have G_law_classes := ok_classes (P := P) (w := w) (base := base) F_law_classes B c_take c_some c_is_figure c_are_beside
  have c_classes := Cal.mk (P := P) (w := w) (base := base) F_law_classes b_law_classes m_law_classes G_law_classes
  have G_law_facts := ok_facts (P := P) (w := w) (base := base) F_law_facts B c_take c_some c_of c_classes c_keeps
  have c_facts := Cal.mk (P := P) (w := w) (base := base) F_law_facts b_law_facts m_law_facts G_law_facts
  have G_law_pass := ok_pass (P := P) (w := w) (base := base) F_law_pass B c_take c_of c_classes c_facts
  have c_pass := Cal.mk (P := P) (w := w) (base := base) F_law_pass b_law_pass m_law_pass G_law_pass
  have G_law_words := ok_words (P := P) (w := w) (base := base) F_law_words B
  have c_words := Cal.mk (P := P) (w := w) (base := base) F_law_words b_law_words m_law_words G_law_words
  have G_law_signs := ok_signs (P := P) (w := w) (base := base) F_law_signs B c_some c_of
  have c_signs := Cal.mk (P := P) (w := w) (base := base) F_law_signs b_law_signs m_law_signs G_law_signs
  have G_law_form := ok_form (P := P) (w := w) (base := base) F_law_form B c_take c_some c_of
  have c_form := Cal.mk (P := P) (w := w) (base := base) F_law_form b_law_form m_law_form G_law_form
  have G_law_lore := ok_lore (P := P) (w := w) (base := base) F_law_lore B c_take c_some c_signs c_words c_pass
  have c_lore := Cal.mk (P := P) (w := w) (base := base) F_law_lore b_law_lore m_law_lore G_law_lore
  have G_law_house := ok_house (P := P) (w := w) (base := base) F_law_house B c_take c_lore c_form
  have c_house := Cal.mk (P := P) (w := w) (base := base) F_law_house b_law_house m_law_house G_law_house
  have G_law_pass_line := ok_pass_line (P := P) (w := w) (base := base) F_law_pass_line B
  have c_pass_line := Cal.mk (P := P) (w := w) (base := base) F_law_pass_line b_law_pass_line m_law_pass_line G_law_pass_line
  have G_law_text := ok_text (P := P) (w := w) (base := base) F_law_text B c_pass_line
  have c_text := Cal.mk (P := P) (w := w) (base := base) F_law_text b_law_text m_law_text G_law_text
  have G_law_is_full := ok_is_full (P := P) (w := w) (base := base) F_law_is_full B
  have c_is_full := Cal.mk (P := P) (w := w) (base := base) F_law_is_full b_law_is_full m_law_is_full G_law_is_full
  have G_law_told_pass := ok_told_pass (P := P) (w := w) (base := base) F_law_told_pass B
  have c_told_pass := Cal.mk (P := P) (w := w) (base := base) F_law_told_pass b_law_told_pass m_law_told_pass G_law_told_pass
  have G_law_odd := ok_odd (P := P) (w := w) (base := base) F_law_odd c_of
  have c_odd := Cal.mk (P := P) (w := w) (base := base) F_law_odd b_law_odd m_law_odd G_law_odd
  have G_len := ok_h_len (P := P) (w := w) (base := base) F_House___len B TH
  have G_in := ok_h_in (P := P) (w := w) (base := base) F_House___contains B TH
  have G_eq := ok_h_eq (P := P) (w := w) (base := base) F_House___eq B TH CHouse m_House rfl hty (.own _) kt_House
  have G_oe := ok_oe_init (P := P) (w := w) (base := base) F_OrderError___init (PySem.W.mg_none_of X G z_ValueError) vV
  have G_passes := ok_h_passes (P := P) (w := w) (base := base) F_House_passes TH G_in b_House___contains m_contains i_contains EN G_oe b_OrderError___init tI m_NoRule
  have O : HOps P w K mg base CHouse CNoRule COrderError f_House___init f_House___len f_House___contains f_House___eq f_House_passes f_OrderError___init d_House___init d_House___len d_House___contains d_House___eq d_House_passes d_OrderError___init :=
    { T := TH, M := MH, gHouse := m_House, GInit := G_House___init, bInit := b_House___init, GLen := G_len, hLen := m_len, isLen := i_len, bLen := b_House___len, GIn := G_in, hIn := m_contains, isIn := i_contains, bIn := b_House___contains,
      GEq := G_eq, hEq := m_eq, isEq := i_eq, bEq := b_House___eq, FB := PySem.F.cmp_object, hC := fun hK hx hc => ownEq_in lk_House ks_House eq_House ne_House ty_eq hK hx hc, GPasses := G_passes,
      mPasses := ⟨m_passes, i_passes, F_House_passes.kp⟩, bPasses := b_House_passes, gNoRule := m_NoRule, gOrderError := m_OrderError, EN := EN, exm := exm, hty := hty,
      nf := fun t ht => by
        simp only [TY7, List.mem_cons, List.not_mem_nil, or_false] at ht
        rcases ht with rfl | rfl | rfl | rfl | rfl | rfl | rfl
        · exact ⟨nf_NoneType, ko_NoneType⟩
        · exact ⟨nf_bool, ko_bool⟩
        · exact ⟨nf_int, ko_int⟩
        · exact ⟨nf_str, ko_str⟩
        · exact ⟨nf_list, ko_list⟩
        · exact ⟨nf_tuple, ko_tuple⟩
        · exact ⟨nf_dict, ko_dict⟩ }
  have GR : FnQ P w K mg base CX0 12 f_law_right d_law_right ["_law_pot_here"] (spRight [(PR, (("_law_right" : Str) ++ ".<locals>.") ++ "<lambda>")]) := ok_right F_law_right B c_house c_text c_is_full c_told_pass c_odd F_law_told b_law_told m_law_told O TB (.head _) (fun p hp _ => by
    have z := List.mem_singleton.mp hp
    rw [z]) q_law_right
  exact ok_law F_law B F_law_right b_law_right m_law_right GR c_pot c_cells
theorem walk {l : PySem.W.OpenLaw} {q : Program} {loose : List Str} {XP : (Str → Option Value) → Heap → Prop} {YP : World → Heap → Prop} {d : DefRec} {K : Params → PySem.W.Frag} (hn : l.most = some 63) (hdf : d.params.defaults = [])
    (hY : ∀ (w : World) (h : Heap), YP w h → (K w.params).In h)
    (F : ∀ (w : World) (mg : Str → Option Value) (fa : Addr) (h : Heap), YP w h → (K w.params).In h → h.Ns mainGlobals mg → mg d.name = some (.ref fa) →
      ∃ PR cR : Addr, h.get? PR = some { cls := .none, data := .fields #[] } ∧ (K w.params).lookup PR = none ∧ PySem.W.codeHdIn (K w.params) cR PR = true ∧
        ∃ fd : FuncData, (∀ (s : Shared) (u : Value), BindsTo s fd ⟨[u], []⟩ [("_law_script", u)]) ∧ ∀ base : Heap, (K w.params).In base → base.Ns mainGlobals mg → TabB base mg cR PR → FnQ l.prog w (K w.params) mg base CX0 13 fa fd ["_law_script"] (spLaw (K w.params) [(PR, (("_law_right" : Str) ++ ".<locals>.") ++ "<lambda>")])) :
    PySem.W.WalkO q loose XP YP l.row.toRowW d [] (fun f vs => PySem.call f vs) :=
  Kb.walk_ofQT (n := 63) (k := 13) (x := "_law_script") hn (by decide) hdf ⟨rfl, by decide, by decide⟩ hY fun w mg fa h Y KX G hmg => by
    obtain ⟨PR, cR, h1, h2, h3, fd, hb, hF⟩ := F w mg fa h Y KX G hmg
    refine ⟨fd, [(cR, PR)], _, fun q hq => ?_, fun q hq => ?_, fun q hq => ?_, hb, fun H a ns hl hT hS => ⟨a, ns, rfl, hS, hl, fun p hp => ?_, fun _ => rfl⟩, fun base hK hN TB => hF base hK hN (TB _ (.head _))⟩
    · rw [List.mem_singleton.mp hq]
      exact h1
    · rw [List.mem_singleton.mp hq]
      exact h2
    · rw [List.mem_singleton.mp hq]
      exact PySem.W.codeHd_of_K KX h3
    · rw [List.mem_singleton.mp hp]
      exact .nil (hT _ (.head _))
end K1
set_option Elab.async false
set_option maxRecDepth 100000
open PySem PySem.W PyProof.Rows
set_option maxRecDepth 100000 in
set_option maxHeartbeats 0 in
theorem PySem.Challenge.cw_trustsorted_k01_houses_as_they_are_told_holds : PySem.Challenge.rw_trustsorted_k01_houses_as_they_are_told.Holds := by
  w_on; o_law; k_head; (case hw => w_witness2)
  k_fill
  refine K1.walk (l := PySem.Challenge.rw_trustsorted_k01_houses_as_they_are_told) rfl rfl (fun w h Y => PySem.W.km_in_of Y) ?F
  case F =>
    intro w mg fa h Y KX G hmg
    have hT := PySem.W.km_tabs_of Y
    refine' ⟨_, _, ?tab, ?noK, ?hd, K1.all_mk KX G hmg ?a_read_item ?a_read_items ?a_spread ?a_places_ahead ?a_form_rows ?a_machine_of ?a_free_machine ?a_is_sign ?a_is_word ?a_figure_bits ?a_linked ?a_parted ?a_beside ?a_closed ?a_fact_rows ?a_has_world ?a_read_signs ?a_read_form ?a_read_rule ?a_read_classes ?a_has_figures_together ?a_read_fact ?a_read_facts ?a_read_ranks ?a_read_pass ?a_read_passes ?a_read_rules ?a_read_house ?a_law_pot ?a_law_take ?a_law_of ?a_law_some ?a_law_cells ?a_law_told ?a_law_odd ?a_law_class_of ?a_law_is_figure ?a_law_are_beside ?a_law_keeps ?a_law_classes ?a_law_facts ?a_law_pass ?a_law_words ?a_law_signs ?a_law_form ?a_law_lore ?a_law_pass_line ?a_law_text ?a_law_is_full ?a_law_told_pass ?a_law_house ?a_law_right ?a_law ?e_OrderError___init ?e_Machine___init ?e_read_item ?e_read_items ?e_spread ?e_places_ahead ?e_form_rows ?e_machine_of ?e_free_machine ?e_is_sign ?e_is_word ?e_figure_bits ?e_linked ?e_parted ?e_beside ?e_closed ?e_fact_rows ?e_has_world ?e_read_signs ?e_read_form ?e_read_rule ?e_read_classes ?e_has_figures_together ?e_read_fact ?e_read_facts ?e_read_ranks ?e_read_pass ?e_read_passes ?e_read_rules ?e_read_house ?e_House___init ?e_House_passes ?e_House___len ?e_House___contains ?e_House___eq ?e_law_pot ?e_law_take ?e_law_of ?e_law_some ?e_law_cells ?e_law_told ?e_law_odd ?e_law_class_of ?e_law_is_figure ?e_law_are_beside ?e_law_keeps ?e_law_classes ?e_law_facts ?e_law_pass ?e_law_words ?e_law_signs ?e_law_form ?e_law_lore ?e_law_pass_line ?e_law_text ?e_law_is_full ?e_law_told_pass ?e_law_house ?e_law_right ?e_law ?z_len ?z_int ?z_abs ?z_list ?z_range ?z_max ?z_min ?z_isinstance ?z_tuple ?z_bool ?z_str ?z_any ?z_all ?z_enumerate ?z_repr ?z_set ?z_sorted ?z_sum ?z_ValueError ?g_LETTERS ?g_CAPITALS ?g_FIGURES ?g_MOST_SIGNS ?g_MOST_FORMS ?g_MOST_ITEMS ?g_MOST_RULES ?g_MOST_PASSES ?g_MOST_FACTS ?g_OTHERS ?s_OTHERS ?g_FACTS ?s_FACTS ?c_House ?c_Machine ?c_NoRule ?c_OrderError ?pg_House ?hd_House ?po_House ?sa_House ?mk_House ?kp_House ?in_House ?fn_House ?pg_Machine ?hd_Machine ?po_Machine ?sa_Machine ?mk_Machine ?kp_Machine ?in_Machine ?fn_Machine ?n_House_text ?n_House_signs ?n_House_rules ?n_House_is_full ?n_House_machine ?n_House__passes ?n_Machine_starts ?n_Machine_ends ?n_Machine_moves ?m_len ?i_len ?m_contains ?i_contains ?m_eq ?i_eq ?m_passes ?i_passes ?lk_House ?ks_House ?eq_House ?ne_House ?ty_eq ?ci_House ?sp_cls ?tk_cls ?mr_House ?kt_House ?nf_NoneType ?ko_NoneType ?nf_bool ?ko_bool ?nf_int ?ko_int ?nf_str ?ko_str ?nf_list ?ko_list ?nf_tuple ?ko_tuple ?nf_dict ?ko_dict ?exm ?EN ?tI ?vV⟩
    (case a_read_item => k_is)
    (case a_read_items => k_is)
    (case a_spread => k_is)
    (case a_places_ahead => k_is)
    (case a_form_rows => k_is)
    (case a_machine_of => k_is)
    (case a_free_machine => k_is)
    (case a_is_sign => k_is)
    (case a_is_word => k_is)
    (case a_figure_bits => k_is)
    (case a_linked => k_is)
    (case a_parted => k_is)
    (case a_beside => k_is)
    (case a_closed => k_is)
    (case a_fact_rows => k_is)
    (case a_has_world => k_is)
    (case a_read_signs => k_is)
    (case a_read_form => k_is)
    (case a_read_rule => k_is)
    (case a_read_classes => k_is)
    (case a_has_figures_together => k_is)
    (case a_read_fact => k_is)
    (case a_read_facts => k_is)
    (case a_read_ranks => k_is)
    (case a_read_pass => k_is)
    (case a_read_passes => k_is)
    (case a_read_rules => k_is)
    (case a_read_house => k_is)
    (case a_law_pot => k_is)
    (case a_law_take => k_is)
    (case a_law_of => k_is)
    (case a_law_some => k_is)
    (case a_law_cells => k_is)
    (case a_law_told => k_is)
    (case a_law_odd => k_is)
    (case a_law_class_of => k_is)
    (case a_law_is_figure => k_is)
    (case a_law_are_beside => k_is)
    (case a_law_keeps => k_is)
    (case a_law_classes => k_is)
    (case a_law_facts => k_is)
    (case a_law_pass => k_is)
    (case a_law_words => k_is)
    (case a_law_signs => k_is)
    (case a_law_form => k_is)
    (case a_law_lore => k_is)
    (case a_law_pass_line => k_is)
    (case a_law_text => k_is)
    (case a_law_is_full => k_is)
    (case a_law_told_pass => k_is)
    (case a_law_house => k_is)
    (case a_law_right => k_is)
    (case a_law => k_is)
    (case z_len => k_is)
    (case z_int => k_is)
    (case z_abs => k_is)
    (case z_list => k_is)
    (case z_range => k_is)
    (case z_max => k_is)
    (case z_min => k_is)
    (case z_isinstance => k_is)
    (case z_tuple => k_is)
    (case z_bool => k_is)
    (case z_str => k_is)
    (case z_any => k_is)
    (case z_all => k_is)
    (case z_enumerate => k_is)
    (case z_repr => k_is)
    (case z_set => k_is)
    (case z_sorted => k_is)
    (case z_sum => k_is)
    (case z_ValueError => k_is)
    (case g_LETTERS => k_is)
    (case g_CAPITALS => k_is)
    (case g_FIGURES => k_is)
    (case g_MOST_SIGNS => k_is)
    (case g_MOST_FORMS => k_is)
    (case g_MOST_ITEMS => k_is)
    (case g_MOST_RULES => k_is)
    (case g_MOST_PASSES => k_is)
    (case g_MOST_FACTS => k_is)
    (case g_OTHERS => k_is)
    (case s_OTHERS => refine' K1.tup_OTHERS ?l; (case l => k_is))
    (case g_FACTS => k_is)
    (case s_FACTS => refine' K1.tup_FACTS ?l; (case l => k_is))
    (case c_House => k_is)
    (case c_Machine => k_is)
    (case c_NoRule => k_is)
    (case c_OrderError => k_is)
    (case pg_House => k_is)
    (case hd_House => k_is)
    (case po_House => k_is)
    (case sa_House => k_is)
    (case mk_House => k_is)
    (case kp_House => k_is)
    (case in_House => k_is)
    (case fn_House => k_is)
    (case pg_Machine => k_is)
    (case hd_Machine => k_is)
    (case po_Machine => k_is)
    (case sa_Machine => k_is)
    (case mk_Machine => k_is)
    (case kp_Machine => k_is)
    (case in_Machine => k_is)
    (case fn_Machine => k_is)
    (case n_House_text => k_is)
    (case n_House_signs => k_is)
    (case n_House_rules => k_is)
    (case n_House_is_full => k_is)
    (case n_House_machine => k_is)
    (case n_House__passes => k_is)
    (case n_Machine_starts => k_is)
    (case n_Machine_ends => k_is)
    (case n_Machine_moves => k_is)
    (case m_len => k_is)
    (case i_len => k_is)
    (case m_contains => k_is)
    (case i_contains => k_is)
    (case m_eq => k_is)
    (case i_eq => k_is)
    (case m_passes => k_is)
    (case i_passes => k_is)
    (case lk_House => k_is)
    (case ks_House => kernel_rfl)
    (case eq_House => k_is)
    (case ne_House => k_is)
    (case ty_eq => k_is)
    (case ci_House => k_is)
    (case sp_cls => k_is)
    (case tk_cls => k_is)
    (case mr_House => k_is)
    (case kt_House => kernel_rfl)
    (case nf_NoneType => k_is)
    (case ko_NoneType => kernel_rfl)
    (case nf_bool => k_is)
    (case ko_bool => kernel_rfl)
    (case nf_int => k_is)
    (case ko_int => kernel_rfl)
    (case nf_str => k_is)
    (case ko_str => kernel_rfl)
    (case nf_list => k_is)
    (case ko_list => kernel_rfl)
    (case nf_tuple => k_is)
    (case ko_tuple => kernel_rfl)
    (case nf_dict => k_is)
    (case ko_dict => kernel_rfl)
    (case exm => kernel_rfl)
    (case EN => refine' Kb.errB_mk ?l ?hb ?sa ?ga ?gg ?gc ?no ?iC ?kC ⟨?hn, ?ht⟩; (case l => k_is); (case hb => exact .inl rfl); (case sa => k_is); (case ga => k_is); (case gg => k_is); (case gc => k_is); (case no => k_is); (case iC => k_is); (case kC => k_is); (case hn => k_is); (case ht => k_is))
    (case tI => k_is)
    (case vV => k_is)
    (case e_OrderError___init => refine' K1.at_OrderError___init ?l ?c ?k; (case l => k_is); (case c => k_is); (case k => k_is))
    (case e_Machine___init => refine' K1.at_Machine___init ?l ?c ?k; (case l => k_is); (case c => k_is); (case k => k_is))
    (case e_read_item => refine' K1.at_read_item ?l ?c ?k; (case l => k_is); (case c => k_is); (case k => k_is))
    (case e_read_items => refine' K1.at_read_items ?l ?c ?k; (case l => k_is); (case c => k_is); (case k => k_is))
    (case e_spread => refine' K1.at_spread ?l ?c ?k; (case l => k_is); (case c => k_is); (case k => k_is))
    (case e_places_ahead => refine' K1.at_places_ahead ?l ?c ?k; (case l => k_is); (case c => k_is); (case k => k_is))
    (case e_form_rows => refine' K1.at_form_rows ?l ?c ?k; (case l => k_is); (case c => k_is); (case k => k_is))
    (case e_machine_of => refine' K1.at_machine_of ?l ?c ?k; (case l => k_is); (case c => k_is); (case k => k_is))
    (case e_free_machine => refine' K1.at_free_machine ?l ?c ?k; (case l => k_is); (case c => k_is); (case k => k_is))
    (case e_is_sign => refine' K1.at_is_sign ?l ?c ?k; (case l => k_is); (case c => k_is); (case k => k_is))
    (case e_is_word => refine' K1.at_is_word ?l ?c ?k; (case l => k_is); (case c => k_is); (case k => k_is))
    (case e_figure_bits => refine' K1.at_figure_bits ?l ?c ?k; (case l => k_is); (case c => k_is); (case k => k_is))
    (case e_linked => refine' K1.at_linked ?l ?c ?k; (case l => k_is); (case c => k_is); (case k => k_is))
    (case e_parted => refine' K1.at_parted ?l ?c ?k; (case l => k_is); (case c => k_is); (case k => k_is))
    (case e_beside => refine' K1.at_beside ?l ?c ?k; (case l => k_is); (case c => k_is); (case k => k_is))
    (case e_closed => refine' K1.at_closed ?l ?c ?k; (case l => k_is); (case c => k_is); (case k => k_is))
    (case e_fact_rows => refine' K1.at_fact_rows ?l ?c ?k; (case l => k_is); (case c => k_is); (case k => k_is))
    (case e_has_world => refine' K1.at_has_world ?l ?c ?k; (case l => k_is); (case c => k_is); (case k => k_is))
    (case e_read_signs => refine' K1.at_read_signs ?l ?c ?k; (case l => k_is); (case c => k_is); (case k => k_is))
    (case e_read_form => refine' K1.at_read_form ?l ?c ?k; (case l => k_is); (case c => k_is); (case k => k_is))
    (case e_read_rule => refine' K1.at_read_rule ?l ?c ?k; (case l => k_is); (case c => k_is); (case k => k_is))
    (case e_read_classes => refine' K1.at_read_classes ?l ?c ?k; (case l => k_is); (case c => k_is); (case k => k_is))
    (case e_has_figures_together => refine' K1.at_has_figures_together ?l ?c ?k; (case l => k_is); (case c => k_is); (case k => k_is))
    (case e_read_fact => refine' K1.at_read_fact ?l ?c ?k; (case l => k_is); (case c => k_is); (case k => k_is))
    (case e_read_facts => refine' K1.at_read_facts ?l ?c ?k; (case l => k_is); (case c => k_is); (case k => k_is))
    (case e_read_ranks => refine' K1.at_read_ranks ?l ?c ?k; (case l => k_is); (case c => k_is); (case k => k_is))
    (case e_read_pass => refine' K1.at_read_pass ?l ?c ?k; (case l => k_is); (case c => k_is); (case k => k_is))
    (case e_read_passes => refine' K1.at_read_passes ?l ?c ?k; (case l => k_is); (case c => k_is); (case k => k_is))
    (case e_read_rules => refine' K1.at_read_rules ?l ?c ?k; (case l => k_is); (case c => k_is); (case k => k_is))
    (case e_read_house => refine' K1.at_read_house ?l ?c ?k; (case l => k_is); (case c => k_is); (case k => k_is))
    (case e_House___init => refine' K1.at_House___init ?l ?c ?k; (case l => k_is); (case c => k_is); (case k => k_is))
    (case e_House_passes => refine' K1.at_House_passes ?l ?c ?k; (case l => k_is); (case c => k_is); (case k => k_is))
    (case e_House___len => refine' K1.at_House___len ?l ?c ?k; (case l => k_is); (case c => k_is); (case k => k_is))
    (case e_House___contains => refine' K1.at_House___contains ?l ?c ?k; (case l => k_is); (case c => k_is); (case k => k_is))
    (case e_House___eq => refine' K1.at_House___eq ?l ?c ?k; (case l => k_is); (case c => k_is); (case k => k_is))
    (case e_law_pot => refine' K1.at_law_pot ?l ?c ?k; (case l => k_is); (case c => k_is); (case k => k_is))
    (case e_law_take => refine' K1.at_law_take ?l ?c ?k; (case l => k_is); (case c => k_is); (case k => k_is))
    (case e_law_of => refine' K1.at_law_of ?l ?c ?k; (case l => k_is); (case c => k_is); (case k => k_is))
    (case e_law_some => refine' K1.at_law_some ?l ?c ?k; (case l => k_is); (case c => k_is); (case k => k_is))
    (case e_law_cells => refine' K1.at_law_cells ?l ?c ?k; (case l => k_is); (case c => k_is); (case k => k_is))
    (case e_law_told => refine' K1.at_law_told ?l ?c ?k; (case l => k_is); (case c => k_is); (case k => k_is))
    (case e_law_odd => refine' K1.at_law_odd ?l ?c ?k; (case l => k_is); (case c => k_is); (case k => k_is))
    (case e_law_class_of => refine' K1.at_law_class_of ?l ?c ?k; (case l => k_is); (case c => k_is); (case k => k_is))
    (case e_law_is_figure => refine' K1.at_law_is_figure ?l ?c ?k; (case l => k_is); (case c => k_is); (case k => k_is))
    (case e_law_are_beside => refine' K1.at_law_are_beside ?l ?c ?k; (case l => k_is); (case c => k_is); (case k => k_is))
    (case e_law_keeps => refine' K1.at_law_keeps ?l ?c ?k; (case l => k_is); (case c => k_is); (case k => k_is))
    (case e_law_classes => refine' K1.at_law_classes ?l ?c ?k; (case l => k_is); (case c => k_is); (case k => k_is))
    (case e_law_facts => refine' K1.at_law_facts ?l ?c ?k; (case l => k_is); (case c => k_is); (case k => k_is))
    (case e_law_pass => refine' K1.at_law_pass ?l ?c ?k; (case l => k_is); (case c => k_is); (case k => k_is))
    (case e_law_words => refine' K1.at_law_words ?l ?c ?k; (case l => k_is); (case c => k_is); (case k => k_is))
    (case e_law_signs => refine' K1.at_law_signs ?l ?c ?k; (case l => k_is); (case c => k_is); (case k => k_is))
    (case e_law_form => refine' K1.at_law_form ?l ?c ?k; (case l => k_is); (case c => k_is); (case k => k_is))
    (case e_law_lore => refine' K1.at_law_lore ?l ?c ?k; (case l => k_is); (case c => k_is); (case k => k_is))
    (case e_law_pass_line => refine' K1.at_law_pass_line ?l ?c ?k; (case l => k_is); (case c => k_is); (case k => k_is))
    (case e_law_text => refine' K1.at_law_text ?l ?c ?k; (case l => k_is); (case c => k_is); (case k => k_is))
    (case e_law_is_full => refine' K1.at_law_is_full ?l ?c ?k; (case l => k_is); (case c => k_is); (case k => k_is))
    (case e_law_told_pass => refine' K1.at_law_told_pass ?l ?c ?k; (case l => k_is); (case c => k_is); (case k => k_is))
    (case e_law_house => refine' K1.at_law_house ?l ?c ?k; (case l => k_is); (case c => k_is); (case k => k_is))
    (case e_law_right => refine' K1.at_law_right ?l ?c ?k; (case l => k_is); (case c => k_is); (case k => k_is))
    (case e_law => refine' K1.at_law ?l ?c ?k; (case l => k_is); (case c => k_is); (case k => k_is))
    (case tab => exact hT _ (List.Mem.head _))
    (case noK => kernel_rfl)
    (case hd => kernel_rfl)
