import PyProof.Rows.All
import Wide.All
import OpenK.AllK
import Wide.FinOn
import HandS.ForMost
import PyProof.ReprRoads
import PyProof.ReprText
import HandS.Exc
import HandS.ExcInit
import KE.KExcInit
import HandS.ExcIs
import HandS.ExcField
import HandS.ExcValue
import HandS.IsInst
import HandS.Defaults
import HandS.MakeKwOnly
import KE.KExcIs
import PySem.Challenge.RW_fallcuts_k01_errors_made
set_option Elab.async false
set_option linter.all false
set_option maxRecDepth 100000
set_option maxHeartbeats 4000000
namespace Vf
open PySem PySem.Spec PyProof.Rows L2
/-! ## 1. repr of data: None, bools, ints, texts, lists, tuples, the empty dict -/
mutual
inductive Dd (K : PySem.W.Frag) (H : Hp) : V → PyData → Prop
  | n0 : Dd K H .non .none
  | b0 (b : Bool) : Dd K H (.bl b) (.bool b)
  | i0 (i : Int) : Dd K H (.int i) (.int i)
  | s0 (x : Str) : Dd K H (.str x) (.str x)
  | l0 {a : Addr} {xs : List V} {ds : List PyData} : SqL K H a xs → Ds K H xs ds → Dd K H (.ref a) (.list ds)
  | t0 {a : Addr} {xs : List V} {ds : List PyData} : SqT K H a xs → Ds K H xs ds → Dd K H (.ref a) (.tuple ds)
  | m0 {a : Addr} : H a = some (.dK []) → Dd K H (.ref a) (.dict [])
inductive Ds (K : PySem.W.Frag) (H : Hp) : List V → List PyData → Prop
  | nil : Ds K H [] []
  | cons {v : V} {vs : List V} {d : PyData} {ds : List PyData} : Dd K H v d → Ds K H vs ds → Ds K H (v :: vs) (d :: ds)
end

section
variable {X : Cx} {pins : List (Addr × Obj)} {σ : L2.St} {H : Hp} {s : Shared}

/-- an empty tracked dict is an empty dict of the heap -/
theorem emptyDict (I : Inv X pins σ H s) {a : Addr} (h : H a = some (.dK [])) : ∃ o n, s.heap.get? a = some o ∧ o.cls = .type "dict" ∧ o.data = .dict #[] n ∧ (a == sysModules) = false := by
  obtain ⟨_, hz, vs, rel, o, es, ep, e1, e2, e3, e4, e5, _⟩ := dk_of I.hok h
  cases rel
  have z : es.toList = [] := by
    cases q : es.toList with
    | nil => rfl
    | cons x l =>
      rw [q] at e5
      cases e5
  have z2 : es = #[] := by
    apply Array.toList_inj.mp
    rw [z]
  subst z2
  exact ⟨o, ep, e1, e2.1, e3, hz⟩

/-- what is shown of the data: its reading, and its text under any frame that shows none of it -/
structure Shw (X : Cx) (s : Shared) (u : Value) (d : PyData) : Prop where
  rd : ∃ as, Reads s.heap u d as
  rp : d.showable = true → d.shown.length ≤ sizeLine → ∃ bs, ReadAtMost s.heap d.depth bs ∧ ReprK X.prog X.w bs s.heap d.depth u d.shown
structure ShwA (X : Cx) (s : Shared) (us : List Value) (ds : List PyData) : Prop where
  rd : ∃ as, ReadsAll s.heap us ds as
  rp : PyData.showableAll ds = true → (∀ t ∈ PyData.shownAll ds, t.length ≤ sizeLine) → ∃ bs, ReadAtMost s.heap (PyData.depthAll ds) bs ∧ ReprAllK X.prog X.w bs s.heap (PyData.depthAll ds) us (PyData.shownAll ds)

theorem showable_list {ds : List PyData} (h : (PyData.list ds).showable = true) : PyData.showableAll ds = true := by
  simpa [PyData.showable] using h
theorem showable_tuple {ds : List PyData} (h : (PyData.tuple ds).showable = true) : PyData.showableAll ds = true := by
  simpa [PyData.showable] using h
theorem len_list {ds : List PyData} (h : (PyData.list ds).shown.length ≤ sizeLine) : (listText (PyData.shownAll ds)).length ≤ sizeLine := by
  simpa only [PyData.shown] using h
theorem len_tuple {ds : List PyData} (h : (PyData.tuple ds).shown.length ≤ sizeLine) : (tupleText (PyData.shownAll ds)).length ≤ sizeLine := by
  simpa only [PyData.shown] using h

mutual
theorem Dd.shw (I : Inv X pins σ H s) : ∀ (d : PyData) (v : V) (u : Value), Dd X.K H v d → RelV v u → Shw X s u d
  | .none, _, _, h, r => by
    cases h
    cases r
    exact ⟨⟨_, .none⟩, fun _ _ => ⟨[], fun _ z => (nomatch z), by simp only [PyData.shown]; exact ReprK.of_is ReprIs.none _ _ _⟩⟩
  | .bool b, _, _, h, r => by
    cases h
    cases r
    exact ⟨⟨_, .bool b⟩, fun _ _ => ⟨[], fun _ z => (nomatch z), by simp only [PyData.shown]; exact ReprK.of_is (ReprIs.bool b) _ _ _⟩⟩
  | .int i, _, _, h, r => by
    cases h
    obtain ⟨t, rfl⟩ := r
    exact ⟨⟨_, .int i t⟩, fun q _ => ⟨[], fun _ z => (nomatch z), by
      simp only [PyData.shown]
      exact ReprK.of_is (ReprIs.int t (by simpa [PyData.showable] using q)) _ _ _⟩⟩
  | .str x, _, _, h, r => by
    cases h
    obtain ⟨t, rfl⟩ := r
    exact ⟨⟨_, .str x t⟩, fun _ q => ⟨[], fun _ z => (nomatch z), by
      simp only [PyData.shown]
      exact ReprK.of_is (ReprIs.str x t (by simpa only [PyData.shown] using q)) _ _ _⟩⟩
  | .list ds, _, _, h, r => by
    cases h with
    | l0 hs ha =>
      cases r
      obtain ⟨its, rv, ⟨o, n, ho, hc, _, hd⟩, _⟩ := I.list hs
      have B := Ds.shw I ds _ its ha rv
      obtain ⟨as, ra⟩ := B.rd
      refine ⟨⟨_, Reads.list ho hc hd ra⟩, fun q hz => ?_⟩
      obtain ⟨bs, hb, hk⟩ := B.rp (showable_list q) fun t ht => Nat.le_trans (listText_mem_le ht) (len_list hz)
      have r' : Reads s.heap (.ref _) (.list ds) _ := Reads.list ho hc hd ra
      refine ⟨_, ReadAtMost.cons r' (by simp only [PyData.depth]; omega) hb, ?_⟩
      simp only [PyData.depth, PyData.shown]
      cases its with
      | nil =>
        cases ra
        simp only [PyData.shownAll, listText_nil]
        exact ReprK.listEmpty ho hc hd
      | cons x l =>
        exact ReprK.list ho hc hd (not_mem_of_deeper r' (by simp only [PyData.depth]; omega) hb) (by simpa using hk.length_eq) (fun i y e => hk.item i y (by simpa using e))
  | .tuple ds, _, _, h, r => by
    cases h with
    | t0 hs ha =>
      cases r
      obtain ⟨its, rv, ⟨o, ho, hc, n, hd⟩, _⟩ := I.tuple hs
      have B := Ds.shw I ds _ its ha rv
      obtain ⟨as, ra⟩ := B.rd
      refine ⟨⟨_, Reads.tuple ho hc hd ra⟩, fun q hz => ?_⟩
      obtain ⟨bs, hb, hk⟩ := B.rp (showable_tuple q) fun t ht => Nat.le_trans (tupleText_mem_le ht) (len_tuple hz)
      have r' : Reads s.heap (.ref _) (.tuple ds) _ := Reads.tuple ho hc hd ra
      refine ⟨_, ReadAtMost.cons r' (by simp only [PyData.depth]; omega) hb, ?_⟩
      simp only [PyData.depth, PyData.shown]
      exact ReprK.tuple ho hc hd (not_mem_of_deeper r' (by simp only [PyData.depth]; omega) hb) hk
  | .dict kvs, _, _, h, r => by
    cases h with
    | m0 hm =>
      cases r
      obtain ⟨o, n, ho, hc, hd, hy⟩ := emptyDict I hm
      have r' : Reads s.heap (.ref _) (.dict []) _ := Reads.dict (es := #[]) (kvs := []) ho hc hd .nil .nil
      refine ⟨⟨_, r'⟩, fun q hz => ⟨_, ReadAtMost.cons (n := 0) (bs := []) r' (Nat.zero_le _) (fun _ z => (nomatch z)), ?_⟩⟩
      have k : ReprK X.prog X.w [_] s.heap (0 + 1) (.ref _) (dictText []) := ReprK.dict ho hc hd hy (List.not_mem_nil) .nil
      simpa only [PyData.depth, PyData.depthKv, PyData.shown, PyData.shownKv] using k
theorem Ds.shw (I : Inv X pins σ H s) : ∀ (ds : List PyData) (vs : List V) (us : List Value), Ds X.K H vs ds → Vals vs us → ShwA X s us ds
  | [], _, _, h, r => by
    cases h
    cases r
    exact ⟨⟨_, .nil⟩, fun _ _ => ⟨[], fun _ z => (nomatch z), by simp only [PyData.shownAll]; exact .nil⟩⟩
  | d :: ds, _, _, h, r => by
    cases h with
    | cons h1 h2 =>
      cases r with
      | cons r1 r2 =>
        have A1 := Dd.shw I d _ _ h1 r1
        have A2 := Ds.shw I ds _ _ h2 r2
        obtain ⟨as, q1⟩ := A1.rd
        obtain ⟨bs, q2⟩ := A2.rd
        refine ⟨⟨_, .cons q1 q2⟩, fun q hz => ?_⟩
        have q' : d.showable = true ∧ PyData.showableAll ds = true := by simpa [PyData.showableAll] using q
        obtain ⟨b1, hb1, k1⟩ := A1.rp q'.1 (hz _ (by simp only [PyData.shownAll]; exact List.mem_cons_self ..))
        obtain ⟨b2, hb2, k2⟩ := A2.rp q'.2 fun t ht => hz t (by simp only [PyData.shownAll]; exact List.mem_cons_of_mem _ ht)
        refine ⟨b1 ++ b2, ?_, ?_⟩
        · have e : PyData.depthAll (d :: ds) = max d.depth (PyData.depthAll ds) := by simp only [PyData.depthAll]
          rw [e]
          exact (hb1.mono (Nat.le_max_left _ _)).append (hb2.mono (Nat.le_max_right _ _))
        · simp only [PyData.depthAll, PyData.shownAll]
          exact .cons ((k1.more fun b hb => List.mem_append_left _ hb).level_le (Nat.le_max_left _ _)) (k2.more_le (fun b hb => List.mem_append_right _ hb) (Nat.le_max_right _ _))
end
end

/-- repr(x), x a list or a tuple of data -/
def rRepr (K : PySem.W.Frag) : List V → Hp → VK → Prop := fun xs H Q => ∃ (v : V) (d : PyData), xs = [v] ∧ Dd K H v d ∧ d.showable = true ∧ d.depth ≤ 60 ∧ d.shown.length ≤ sizeLine ∧ Q (.str d.shown) H
section
variable {X : Cx}
theorem call_repr (hg : X.A.guards = some []) (hu : X.A.units + 100 < cLine) : CallR X (.builtin "repr") (rRepr X.K) := by
  intro pins s σ H xs us Q I r h
  obtain ⟨v, d, rfl, hd, q1, q2, q3, q⟩ := h
  obtain ⟨u, rfl, rv⟩ := vals1 r
  have fin : ∀ (h' : Heap) (t tk : Tok), (∀ b o, s.heap.get? b = some o → h'.get? b = some o) → EP X pins σ Q (.str d.shown t) { s with heap := h', toks := tk } :=
    fun h' t tk hk => ⟨.str d.shown, H, I.kept hk, ⟨t, rfl⟩, q⟩
  cases hd with
  | n0 =>
    cases rv
    exact PySem.P.repr_of_none (by simpa only [PyData.shown] using fin s.heap _ _ fun _ _ z => z)
  | b0 b =>
    cases rv
    exact PySem.P.repr_of_bool (by simpa only [PyData.shown] using fin s.heap _ _ fun _ _ z => z)
  | i0 i =>
    obtain ⟨t, rfl⟩ := rv
    exact PySem.P.repr_of_int (by simpa [PyData.showable] using q1) (by simpa only [PyData.shown] using fin s.heap _ _ fun _ _ z => z)
  | s0 x =>
    obtain ⟨t, rfl⟩ := rv
    exact PySem.P.repr_of_str (by simpa only [PyData.shown] using fin s.heap _ _ fun _ _ z => z) (by simpa only [PyData.shown] using q3)
  | @l0 a xs ds hs ha =>
    cases rv
    obtain ⟨its, rv, ⟨o, n, ho, hc, _, hd⟩, _⟩ := I.list hs
    have B := Ds.shw I ds _ its ha rv
    obtain ⟨as, ra⟩ := B.rd
    obtain ⟨bs, hb, hk⟩ := B.rp (showable_list q1) fun t ht => Nat.le_trans (listText_mem_le ht) (len_list q3)
    have r' : Reads s.heap (.ref _) (.list ds) _ := Reads.list ho hc hd ra
    refine call_repr_slot (by omega) ⟨o, ho, hc⟩ F.slot_list_repr.toG ?_
    simp only [PyData.depth] at q2
    cases its with
    | nil =>
      cases ra
      exact call_list_repr_empty ⟨o, ho, hc⟩ ho hd ⟨_, _, rfl, by simpa only [PyData.shown, PyData.shownAll, listText_nil] using fin s.heap _ _ fun _ _ z => z⟩
    | cons x l =>
      exact call_list_reprK ho hc hd (not_mem_of_deeper r' (by simp only [PyData.depth]; omega) hb) (by simpa using hk.length_eq) (fun i y e => hk.item i y (by simpa using e)) hg (fun b _ => Clear.nil b)
        (by show X.A.units + 1 + _ < cLine; omega) (fun _ _ z => z) (fun h' t tk hk' => ⟨_, _, rfl, by simpa only [PyData.shown] using fin h' t tk hk'⟩) (len_list q3)
  | @t0 a xs ds hs ha =>
    cases rv
    obtain ⟨its, rv, ⟨o, ho, hc, n, hd⟩, _⟩ := I.tuple hs
    have B := Ds.shw I ds _ its ha rv
    obtain ⟨as, ra⟩ := B.rd
    obtain ⟨bs, hb, hk⟩ := B.rp (showable_tuple q1) fun t ht => Nat.le_trans (tupleText_mem_le ht) (len_tuple q3)
    have r' : Reads s.heap (.ref _) (.tuple ds) _ := Reads.tuple ho hc hd ra
    refine call_repr_slot (by omega) ⟨o, ho, hc⟩ F.slot_tuple_repr ?_
    simp only [PyData.depth] at q2
    exact call_tuple_reprK ho hc hd (not_mem_of_deeper r' (by simp only [PyData.depth]; omega) hb) hk hg (fun b _ => Clear.nil b)
        (by show X.A.units + 1 + _ < cLine; omega) (fun _ _ z => z) (fun h' t tk hk' => ⟨_, _, rfl, by simpa only [PyData.shown] using fin h' t tk hk'⟩) (len_tuple q3)
  | @m0 a hm =>
    cases rv
    obtain ⟨o, n, ho, hc, hd, hy⟩ := emptyDict I hm
    refine call_repr_slot (by omega) ⟨o, ho, hc⟩ F.slot_dict_repr ?_
    exact call_dict_reprK (as := []) (ps := []) (d := 0) ho hc hd hy (List.not_mem_nil) .nil hg (fun b _ => Clear.nil b)
        (by show X.A.units + 1 + _ < cLine; omega) (fun _ _ z => z) (fun h' t tk hk' => ⟨_, _, rfl, by simpa only [PyData.shown, PyData.shownKv] using fin h' t tk hk'⟩) (by simpa only [PyData.shown, PyData.shownKv] using q3)
end
end Vf

set_option Elab.async false
set_option linter.all false
set_option maxRecDepth 100000
set_option maxHeartbeats 4000000
namespace Vf
open PySem PySem.Spec PyProof.Rows L2
/-! ## 2. a def that is entered where no text is being shown: the same promise, for arounds without guards -/
structure GOk (P : Program) (w : World) (K : PySem.W.Frag) (mg : Str → Option Value) (base : Heap) (T : CXT) (k : Nat) (f : Addr) (fd : FuncData) (ps : List Str) (sp : Sp) : Prop where
  ln : ∀ (vs : List V) (H : Hp) (Q : VK) (E : XK), sp vs H Q E → vs.length = ps.length
  go : ∀ {A : Around} {l : List Env} {s : Shared} {H : Hp} {args : Args} {us : List Value} {vs : List V} {Q : VK} {E : XK}, A.guards = some [] → Room k A → Env0 P w K mg base A l s H →
    BindsTo s fd args (ps.zip us) → Vals vs us → sp vs H Q E → codeAny (model P w) A (.call (.ref f) args) (CR T l P w H s Q E) s
section
variable {P : Program} {w : World} {K : PySem.W.Frag} {mg : Str → Option Value} {base : Heap} {T : CXT} {k : Nat} {f : Addr} {fd : FuncData} {ps : List Str} {sp : Sp}
theorem GOk.of (F : FnOk P w K mg base T k f fd ps sp) : GOk P w K mg base T k f fd ps sp :=
  ⟨F.len, fun _ hr e0 hb hv h => F.run _ _ _ _ _ _ _ _ _ hr e0 hb hv h⟩
/-- a def by its body, where no text is being shown -/
theorem gok {x qual : Str} {st : Stmt} {N : List Str} (F : Fun K x qual st f fd) (S : FnScope N ps (defScope st)) (hlen : ∀ (vs : List V) (H : Hp) (Q : VK) (E : XK), sp vs H Q E → vs.length = ps.length)
    (hbody : ∀ (cdv : Value) (A : Around) (l : List Env) (s : Shared) (H : Hp) (vs : List V) (Q : VK) (E : XK), A.guards = some [] → Room k (A.deeper (envOfC qual (defScope st) s.heap.objs.size f cdv)) → sp vs H Q E →
      ∃ t, PSs (cxOf T P w K mg base N qual (defScope st) f cdv A l s H E).nox (defBody st) t ∧ t { nx := fun _ H' => Q .non H', rt := Q } (start N vs) H) : GOk P w K mg base T (k + 1) f fd ps sp := by
  obtain ⟨oc, od, kV, doc, pm, an, cdv, ct, osl, rfl, lk, hcd⟩ := F.ex
  refine ⟨hlen, fun {A l s H args us vs Q E} hg hr e0 hb hv h => ?_⟩
  have stay : ∀ b o, base.get? b = some o → s.heap.get? b = some o := fun b o e => (e0.bs b o e).1
  have hk : ∀ y ∈ ps.zip us, (defScope st).names.lookup y.1 = some .local ∨ ((defScope st).names.lookup y.1 = some .cell ∧ ((cellsFrom (s.heap.objs.size + 1) (defScope st).names []).lookup y.1).isSome = true) := by
    intro y hy
    rcases S.par y.1 (List.of_mem_zip (a := y.1) (b := y.2) hy).1 with q | q
    · exact Or.inl q
    · exact Or.inr ⟨q, PySem.W.cellsFrom_some _ _ _ (Or.inl q)⟩
  refine codeAny_call_function hr.depth ((e0.mod.kin.keeps stay) _ _ lk) rfl S.co S.gen rfl (PySem.W.codeRec_of (e0.mod.kin.keeps stay) hcd) (hb _ _ _ _ (wpAny_newFunctionEnv_cells S.kind hk fun env he s1 x => ?_))
  cases he
  refine ⟨(e0.mod.nolimit.keeps stay).keeps x.toInCall.keep, codeAny_func ?_⟩
  obtain ⟨t, ht, hq⟩ := hbody cdv A l s H vs Q E hg (hr.deeper _) h
  refine wpAny_mono (ht.nox.run [] s1 (start N vs) H _ (inv_start S hr.hd e0 (hlen _ _ _ _ h) hv x) hq) (fun fl s' hs => ?_) fun _ _ z => z
  cases fl with
  | ret u =>
    obtain ⟨v, σ', H', J, rv, q⟩ := hs
    exact ⟨v, H', J.os, J.bare, J.base, J.hok, rv, q⟩
  | next =>
    obtain ⟨σ', H', J, q⟩ := hs
    exact ⟨.non, H', J.os, J.bare, J.base, J.hok, rfl, q⟩
  | brk =>
    obtain ⟨_, _, _, z⟩ := hs
    exact z.elim
  | cont =>
    obtain ⟨_, _, _, z⟩ := hs
    exact z.elim
end
section
variable {X : Cx} {T : CXT} {k : Nat} {f : Addr} {fd : FuncData} {ps : List Str} {sp : Sp} {ds : List Value} {dvs : List V} {E : XK} {x : Str} {e : Expr} {es : List Expr} {p pos : Pos} {t : TA}
/-- f(e, ..) of such a def, from such a place -/
theorem pe_callG (F : GOk X.prog X.w X.K X.mg X.base T k f fd ps sp) (hg : X.A.guards = some []) (hr : Room k X.A) (hx : Gl X x) (hm : X.mg x = some (.ref f)) (hk : PySem.W.keepIn X.K (.ref f) = true) (hb : Binds X.K fd ps ds) (hd : Vals dvs ds)
    (hp : Passes T X E) (ha : PA X (e :: es) t) (hdb : (x == ("__debug__" : Str)) = false := by decide) (hst : starEach (e :: es) X.env = (false, eval e X.env) :: starEach es X.env := by rfl) (hpl : (backTo pos (starEach es X.env)).any (·.1) = false := by rfl) :
    PE X (.Call (.Name x p) (e :: es) [] pos) (tCall sp dvs E t) := by
  refine ⟨fun pins s σ H Q I h => wpAny_Call_Name_kw (ld_glob I hx hm (PySem.W.callWith_K (h₀ := X.base) I.ok.mod.kin hk (thn (ha.run pos pins s σ H _ I h) fun us s1 ⟨vs, H1, I1, r, q⟩ => ⟨I1.kIn, ?_⟩) hst hpl) hdb)⟩
  have rr : Vals (vs ++ dvs) (us ++ ds) := r.append hd
  refine wpAny_call (codeAny_mono (F.go (E := E) hg hr I1.env0 (hb s1 us I1.kIn (by rw [← rr.length]; exact F.ln _ _ _ _ q)) rr q) fun r' s' hq => ?_)
  cases r' with
  | error er => exact hp pins σ H1 s1 er s' I1 hq
  | ok fl =>
    cases fl with
    | ret u => exact I1.after hq
    | next => exact hq.elim
    | brk => exact hq.elim
    | cont => exact hq.elim
end
/-! ### the law's own entry -/
section
variable {P : Program} {w : World} {K : PySem.W.Frag} {mg mb : Str → Option Value} {T : CXT} {k : Nat} {fa a : Addr} {fd : FuncData} {x : Str} {sp : Sp} {s : Shared} {vs : List Value} {ns : List Int}
/-- the end of a law's call, wherever H tells of nothing but the script -/
theorem enterG {H : Hp} (KX : K.In s.heap) (hns : s.heap.Ns mainGlobals mg) (hb : s.heap.Ns builtinsNs mb) (hbb : ∀ x : Str, x ≠ "__name__" → mb x = bootBuiltins x) (hlim : s.heap.NoLimit) (hgen : s.gens = #[])
    (ha : s.heap.get? a = some { cls := .type "list", data := .seq vs.toArray }) (hr : Room k callerA)
    (F : ∀ base : Heap, K.In base → base.Ns mainGlobals mg → GOk P w K mg base T k fa fd [x] sp) (hbind : ∀ (s : Shared) (u : Value), BindsTo s fd ⟨[u], []⟩ [(x, u)])
    (hO : ∀ b u, H b = some u → b = a ∧ K.lookup a = none ∧ ∃ xs, u = .frz { cls := .type "list", data := .seq vs.toArray } (.lst xs)) (hok : HOk P w H s.heap)
    (hsp : sp [.ref a] H (fun v _ => v = .bl true) fun _ _ _ => False) (hT : ∀ e s', T [] H s (fun _ _ _ => False) e s' → False) :
    codeAny (model P w) callerA (.call (.ref fa) ⟨[.ref a], []⟩) (fun r s' => r = .ok (.ret (.bool true)) ∧ OldK s.heap s'.heap ∧ s'.os = s.os ∧ AllBare s'.gens) s := by
  have dictNo : ∀ {b : Addr} {o : Obj} {es : Array DictEntry} {ep : Nat}, s.heap.get? b = some o → o.data = .dict es ep → H b = none := by
    intro b o es ep e d
    cases q : H b with
    | none => rfl
    | some u =>
      obtain ⟨rfl, _, _⟩ := hO b u q
      have z := Option.some.inj (ha.symm.trans e)
      subst z
      cases (show Data.seq vs.toArray _ = Data.dict es ep from d)
  have kN : ∀ b o, K.lookup b = some o → H b = none := by
    intro b o e
    cases q : H b with
    | none => rfl
    | some u =>
      obtain ⟨rfl, z, _⟩ := hO b u q
      cases z.symm.trans e
  have nsB : ∀ {b : Addr} {m : Str → Option Value}, s.heap.Ns b m → (hidT s.heap H).Ns b m := by
    rintro b m ⟨o, es, ep, e, d, r⟩
    exact ⟨o, es, ep, hidT_get e (dictNo e d), d, r⟩
  have kB : K.In (hidT s.heap H) := fun b o e => hidT_get (KX b o e) (kN b o e)
  obtain ⟨mc, lim1, lim2⟩ := hlim
  have md : Mod K mg (hidT s.heap H) := ⟨kB, nsB hns, ⟨mb, nsB hb, hbb⟩, ⟨mc, nsB lim1, lim2⟩⟩
  have e0 : Env0 P w K mg (hidT s.heap H) callerA [] s H :=
    { frames := rfl, mod := md, bs := (fun b o e => of_hidT e), bsz := Nat.le_of_eq (hidT_size _ _), funs := trivial, frf := (fun b z => absurd (show b ∈ ([] : List Addr) from z) (by simp)), hok := hok, bare := .of_eq hgen }
  have run := (F _ kB (nsB hns)).go (us := [.ref a]) (vs := [.ref a]) rfl hr e0 (hbind s (.ref a)) (.cons rfl .nil) hsp
  refine codeAny_mono run fun r s' h => ?_
  cases r with
  | error e => exact (hT e s' h).elim
  | ok fl =>
    cases fl with
    | next => exact h.elim
    | brk => exact h.elim
    | cont => exact h.elim
    | ret u =>
      obtain ⟨v, H', eo, bare, un, hok2, rv, q⟩ := h
      obtain rfl : v = .bl true := q
      obtain rfl : u = .bool true := rv
      refine ⟨rfl, OldK.of_keep fun b o e => ?_, eo, bare⟩
      cases q : H b with
      | none => exact un.keep b o e q (fun z => absurd (show b ∈ ([] : List Addr) from z) (by simp)) (by simp)
      | some u =>
        obtain ⟨_, _, xs, rfl⟩ := hO b u q
        have e1 := (hok b _ q).1
        have e2 := (hok2 b _ (un.frzs b _ _ q)).1
        exact e2.trans (e1.symm.trans e)
end
/-- the end of a law row, from such a promise of the law's def -/
theorem walkG {l : PySem.W.OpenLaw} {n k : Nat} {q : Program} {loose : List Str} {XP : (Str → Option Value) → Heap → Prop} {YP : World → Heap → Prop} {d : DefRec} {K : Params → PySem.W.Frag} {T : World → CXT} {sp : World → Sp} {x : Str}
    (hn : l.most = some n) (hn2 : n ≤ sizeLine) (hdf : d.params.defaults = []) (hr : Room k callerA) (hY : ∀ (w : World) (h : Heap), YP w h → (K w.params).In h)
    (F : ∀ (w : World) (mg : Str → Option Value) (fa : Addr) (h : Heap), (K w.params).In h → h.Ns mainGlobals mg → mg d.name = some (.ref fa) →
      ∃ fd : FuncData, (∀ (s : Shared) (u : Value), BindsTo s fd ⟨[u], []⟩ [(x, u)]) ∧ ∀ base : Heap, (K w.params).In base → base.Ns mainGlobals mg → GOk l.prog w (K w.params) mg base (T w) k fa fd [x] (sp w))
    (hsp : ∀ (w : World) (H : Hp) (a : Addr) (ns : List Int), ns.length ≤ n → SqL (K w.params) H a (ns.map V.int) → sp w [.ref a] H (fun v _ => v = .bl true) fun _ _ _ => False)
    (hT : ∀ (w : World) (H : Hp) (s : Shared) (e : Value) (s' : Shared), T w [] H s (fun _ _ _ => False) e s' → False) :
    PySem.W.WalkO q loose XP YP l.row.toRowW d [] (fun f vs => PySem.call f vs) := by
  refine Att.attach_call hn hdf fun w s₀ s mg mb fa o pm cd doc a vs ns G Y ho hd hcd hmg hobj hints hlen hgen => ?_
  have KX := hY w _ Y
  obtain ⟨fd, hb, hF⟩ := F w mg fa _ KX G.T.g hmg
  have rv := vals_ints hints
  have le : (ns.map V.int).length ≤ sizeLine := by
    rw [List.length_map]
    exact Nat.le_trans hlen hn2
  cases hk : (K w.params).lookup a with
  | some ob =>
    have e : ob = { cls := .type "list", data := .seq vs.toArray } := Option.some.inj ((KX a ob hk).symm.trans hobj)
    subst e
    refine enterG (H := fun _ => none) KX G.T.g G.T.b G.T.builtins G.T.nolimit hgen hobj hr hF hb (fun b u z => ?_) (fun b u z => ?_) (hsp w _ a ns hlen (.inr ⟨_, vs.toArray, _, hk, rfl, rfl, rfl, ?_, ?_⟩)) fun e s' => hT w _ s e s'
    · cases (show (none : Option HO) = some u from z)
    · cases (show (none : Option HO) = some u from z)
    · rw [List.size_toArray, hints.length]
      exact Nat.le_trans hlen hn2
    · simpa using rv
  | none =>
    have at_ : ∀ b u, (fun b => if b = a then some (HO.frz { cls := .type "list", data := .seq vs.toArray } (.lst (ns.map V.int))) else none) b = some u → b = a ∧ u = HO.frz { cls := .type "list", data := .seq vs.toArray } (.lst (ns.map V.int)) := by
      intro b u z
      have z' : (if b = a then some (HO.frz { cls := .type "list", data := .seq vs.toArray } (.lst (ns.map V.int))) else none) = some u := z
      by_cases hba : b = a
      · rw [if_pos hba] at z'
        exact ⟨hba, (Option.some.inj z').symm⟩
      · rw [if_neg hba] at z'
        cases z'
    refine enterG (H := fun b => if b = a then some (HO.frz { cls := .type "list", data := .seq vs.toArray } (.lst (ns.map V.int))) else none) KX G.T.g G.T.b G.T.builtins G.T.nolimit hgen hobj hr hF hb (fun b u z => ?_) (fun b u z => ?_)
      (hsp w _ a ns hlen (.inl (.inr ⟨_, if_pos rfl⟩))) fun e s' => hT w _ s e s'
    · obtain ⟨h1, h2⟩ := at_ b u z
      exact ⟨h1, hk, _, h2⟩
    · obtain ⟨rfl, rfl⟩ := at_ b u z
      exact ⟨hobj, le, vs, _, rv, hobj⟩
end Vf

set_option Elab.async false
set_option linter.all false
set_option maxRecDepth 100000
set_option maxHeartbeats 4000000
namespace Vf
open PySem PySem.W PySem.Calls PyProof.Rows PySem.HandSPX
/-! ## 3. own error classes, made with keywords too -/
section
variable {prog : Program} {w : World} {A : Around} {R : Result → Shared → Prop} {Q : Fin → Shared → Prop} {E : Value → Shared → Prop} {h : Heap} {g : Array GenState} {d : Drawn} {t : Nat} {os : OsState} {M : Model}
variable {n0 q0 : Str} {C N fI : Addr} {bs bm bB : List Value} {dct : Bool} {sl : List Str} {below : List Value} {ab : Bool} {cl : Option Bool} {od : Option Addr} {m0 m1 m2 m3 m5 : Option Value} {B nI iI : String} {kw : List (Str × Value)} {us : List Value}

theorem kwCheckNew (F : ExcBaseFacts B nI iI bB) (T : ∀ Y : String, bm.contains (.type Y) = bB.contains (.type Y)) {P : Unit → Shared → Prop} (hC : h.get? C = some (excClassObj n0 q0 C N bs bm dct sl below ab cl od m0 m1 m2 m3 m5 nI))
    (hq : P () ⟨h, g, d, t, os⟩) : wpAny M A (checkBuiltinCall nI ⟨.ref C :: us, kw⟩) P E ⟨h, g, d, t, os⟩ := by
  have over : (Value.ref C :: bm).contains (.type B) = true := by
    rw [List.contains_cons, T, F.hasB, Bool.or_true]
  have star := F.noStar
  simp only [checkBuiltinCall, F.newKind, F.newSplit, F.newRow]
  repeat (first
    | refine wpAny_loadPart_at hC ?_
    | (refine wpAny_isSubtype_exc hC ?_
       rw [over])
    | refine wpAny_staticBase_exc hC ?_
    | refine wpAny_madeBy_exc hC ?_
    | simp only [bne_self_eq_false, Bool.false_eq_true, if_false]
    | wp_step)
  exact hq

theorem kwNew (F : ExcBaseFacts B nI iI bB) (T : ∀ Y : String, bm.contains (.type Y) = bB.contains (.type Y)) (hC : h.get? C = some (excClassObj n0 q0 C N bs bm dct sl below ab cl od m0 m1 m2 m3 m5 nI)) (hus : us.length ≤ sizeLine)
    (hq : R (.ok (.ret (.ref (h.objs.size + 1)))) ⟨(h.push { cls := .type "tuple", data := .seq us.toArray }).push { cls := .ref C, data := .fields #[.ref h.objs.size, .none, .none, .none, .bool false, .none] }, g, d, t, os⟩) :
    codeAny (model prog w) A (.builtin nI ⟨.ref C :: us, kw⟩) R ⟨h, g, d, t, os⟩ := by
  have ends := F.ends
  have o1 : (Value.ref C :: bm).contains (.type B) = true := by
    rw [List.contains_cons, T, F.hasB, Bool.or_true]
  have o2 : (Value.ref C :: bm).contains (.type "AttributeError") = false := by
    rw [List.contains_cons, T, F.noAttr]
    rfl
  have o3 : (Value.ref C :: bm).contains (.type "NameError") = false := by
    rw [List.contains_cons, T, F.noName]
    rfl
  refine codeAny_builtinAt F.entry ?_
  unfold Builtin.«BaseException.__new__»
  refine PySem.wpAt_bind ?_
  show PySem.wpAt _ _ _ (stack >>= _) _ _ _
  refine PySem.wpAt_bind (PySem.wpAt_stack fun p below => PySem.wpAt_of_wpAny ?_)
  wp_walk
  refine PySem.wpAt_of_wpAny ?_
  rw [F.owner]
  repeat (first
    | with_reducible refine wpAny_madeHere_exc F.canon hC ?_
    | with_reducible refine wpAny_loadPart_at hC ?_
    | (with_reducible refine wpAny_isSubtype_exc hC ?_
       first
         | rw [o1]
         | rw [o2]
         | rw [o3])
    | wp_step)
  show R _ _
  rw [Heap.size_push]
  exact hq

theorem kwType (F : ExcBaseFacts B nI iI bB) (T : ∀ Y : String, bm.contains (.type Y) = bB.contains (.type Y)) (hC : h.get? C = some (excClassObj n0 q0 C N bs bm dct sl below ab cl od m0 m1 m2 m3 m5 nI)) (hus : us.length ≤ sizeLine)
    (hi : Looks (model prog w) h (typeLookup (.ref C) "__init__") (some (.ref fI))) (hb : ∀ self, Looks (model prog w) h (bindSpecial (.ref fI) self) (.ref fI, [self]))
    (hq : codeAny (model prog w) A (.call (.ref fI) ⟨.ref (h.objs.size + 1) :: us, kw⟩) (fun r s' => match r with
      | .ok (.ret v) => v = .none ∧ Q (.done (.ret (.ref (h.objs.size + 1)))) s'
      | .ok _ => False
      | .error e => E e s') ⟨(h.push (kdv_tup us)).push (HandSPX.excO C h.objs.size), g, d, t, os⟩) :
    wpAny (model prog w) A (Builtin.«type.__call__» ⟨.ref C :: us, kw⟩) Q E ⟨h, g, d, t, os⟩ := by
  have stay : ∀ b o, h.get? b = some o → ((h.push (kdv_tup us)).push (HandSPX.excO C h.objs.size)).get? b = some o := fun b o e => Heap.get?_push_of_some _ (Heap.get?_push_of_some _ e)
  have i1 := hi.keeps stay
  have b1 := (hb (.ref (h.objs.size + 1))).keeps stay
  have hC1 := stay _ _ hC
  have self1 : ((h.push (kdv_tup us)).push (HandSPX.excO C h.objs.size)).get? (h.objs.size + 1) = some (HandSPX.excO C h.objs.size) := by heap_get
  have own1 : (Value.ref C :: bm).contains (.ref C) = true := by simp
  repeat (first
    | with_reducible refine wpAny_loadPart_at hC ?_
    | with_reducible refine wpAny_madeBy_exc hC ?_
    | wp_step)
  refine codeAny_call_builtin_code (Code.quiet_builtin _ F.quiet) (kwCheckNew F T hC (kwNew F T hC hus ?_))
  show wpAny _ _ _ _ _ _
  unfold isInstance
  repeat (first
    | with_reducible refine wpAny_loadPart_at self1 ?_
    | (with_reducible refine wpAny_isSubtype_exc hC1 ?_
       rw [own1])
    | wp_step)
  show wpAny _ _ (typeLookup (.ref C) _) _ _ _
  refine i1.at (wpAny_holding (wpAny_bind (b1.at (wpAny_bind (wpAny_call (codeAny_mono hq fun r s' z => ?_))))))
  cases r with
  | error e => exact z
  | ok fl =>
    cases fl with
    | ret v =>
      obtain ⟨rfl, z⟩ := z
      first
        | exact wpAny_pure (wpAny_pure z)
        | (wp_walk
           exact z)
    | next => exact z.elim
    | brk => exact z.elim
    | cont => exact z.elim

theorem kwCall (F : ExcBaseFacts B nI iI bB) (T : ∀ Y : String, bm.contains (.type Y) = bB.contains (.type Y)) (hC : h.get? C = some (excClassObj n0 q0 C N bs bm dct sl below ab cl od m0 m1 m2 m3 m5 nI)) (hus : us.length ≤ sizeLine)
    (hi : Looks (model prog w) h (typeLookup (.ref C) "__init__") (some (.ref fI))) (hb : ∀ self, Looks (model prog w) h (bindSpecial (.ref fI) self) (.ref fI, [self]))
    (hq : codeAny (model prog w) (A.under (.builtin "type.__call__" ⟨.ref C :: us, kw⟩)) (.call (.ref fI) ⟨.ref (h.objs.size + 1) :: us, kw⟩) (InitBack (h.objs.size + 1) R) ⟨(h.push (kdv_tup us)).push (HandSPX.excO C h.objs.size), g, d, t, os⟩) :
    codeAny (model prog w) A (.call (.ref C) ⟨us, kw⟩) R ⟨h, g, d, t, os⟩ := by
  have f1 := tc_lookup
  have f2 := tc_bind (.ref C)
  have ty : (⟨h, g, d, t, os⟩ : Shared).TypeIs (.ref C) "type" := ⟨_, hC, rfl⟩
  refine codeAny_of_tree ?_
  show wpAny _ _ (callAny (.ref C) _) _ _ _
  repeat (any_goals (first
    | assumption
    | with_reducible refine wpAny_loadPart_at hC ?_
    | wp_step))
  refine ⟨rfl, codeAny_call_builtin_at (Code.quiet_builtin _ (by decide +kernel)) entry_typeCall (wpAny_check_type_call_sub hC (kwType F T hC hus hi hb (codeAny_mono hq fun r s' z => ?_)))⟩
  rcases r with e | (v | _ | _ | _)
  all_goals exact z
end
end Vf

set_option Elab.async false
set_option linter.all false
set_option maxRecDepth 100000
set_option maxHeartbeats 4000000
namespace Vf
section
open PySem PySem.W PySem.Calls PyProof.Rows PySem.HandSPX Builtin Builtin.ObjectAttr
variable {prog : Program} {w : World} {A : Around} {R : Result → Shared → Prop} {hp : Heap} {g : Array GenState} {d : Drawn} {t : Nat} {os : OsState} {K : Frag} {B : String} {bB : List Value} {name : Str} {tk : Tok} {v : Value} {x C dx : Addr} {fv : Array Value} {cd : ClassData}
/-- a field stored on an error that has no dict yet -/
theorem keepNew (SF : StoreFacts B bB "object.__setattr__" "object") (X : K.In hp) (hx : hp.get? x = some { cls := .ref C, data := .fields fv }) (ov : excOver K C bB = true) (hcd : clsIn K C = some cd) (hh : cd.hasDict = true) (ht : takerIn K C name = some none)
    (hq : ∀ h' tk' dx, (∀ b o, b ≠ x → hp.get? b = some o → h'.get? b = some o) → hp.objs.size ≤ dx → dx ≠ x → h'.get? x = some { cls := .ref C, dict := some dx, data := .fields fv } →
      h'.Ns1 dx (fun y => if y = name then some v else none) → R (.ok (.ret .none)) ⟨h', g, d, tk', os⟩) :
    codeAny (model prog w) A (.call (.builtin "object.__setattr__") ⟨[.ref x, .str name tk, v], []⟩) R ⟨hp, g, d, t, os⟩ := by
  have far : x ≠ hp.objs.size := Nat.ne_of_lt (Heap.lt_size hx)
  have lc : Looks (model prog w) hp (classData C) cd := looks_clsIn X hcd
  refine osa_openX SF X (od := none) ⟨hx, rfl, rfl, trivial⟩ ov ht fun b => ?_
  show wpAny _ _ (storeInOwnDict (.ref x) (.ref C) (.str name tk) name v b) _ _ _
  obtain ⟨c1, c2, c3, c4, c5, c6, c7, c8, c9, c10, c11⟩ := cd
  dsimp only at hh
  subst hh
  unfold storeInOwnDict ownDictForStores
  repeat (first
    | with_reducible refine HandSPX.store_in_new ?_ ?_
    | with_reducible refine wpAny_loadPart_at hx ?_
    | with_reducible refine lc.at ?_
    | wp_step)
  · refine ⟨_, #[], _, (Heap.get?_update_ne _ _ _ _ far.symm).trans (Heap.get?_push_at rfl rfl), rfl, fun e he => absurd he (by simp), fun _ => rfl⟩
  · intro h' tk' n' s'
    have was : (hp.push { cls := .type "dict", data := .dict #[] }).get? x = some { cls := .ref C, data := .fields fv } := Heap.get?_push_of_some _ hx
    refine hq h' tk' hp.objs.size (fun b o hb ho => ?_) (Nat.le_refl _) far.symm ((s'.2 x far).trans (Heap.get?_update_self _ was rfl)) n'
    exact (s'.2 b (Nat.ne_of_lt (Heap.lt_size ho))).trans ((Heap.get?_update_ne _ _ _ _ hb).trans (Heap.get?_push_of_some _ ho))
/-- a further one -/
theorem keepOld {m0 : Str → Option Value} {nl : List Str} (SF : StoreFacts B bB "object.__setattr__" "object") (X : K.In hp) (hx : hp.get? x = some { cls := .ref C, dict := some dx, data := .fields fv }) (hns : hp.Ns1 dx m0) (hw : Within m0 nl) (hz : nl.length ≤ 1000)
    (ov : excOver K C bB = true) (hcd : clsIn K C = some cd) (hh : cd.hasDict = true) (ht : takerIn K C name = some none)
    (hq : ∀ h' tk', (∀ b o, b ≠ dx → hp.get? b = some o → h'.get? b = some o) → h'.Ns1 dx (fun y => if y = name then some v else m0 y) → R (.ok (.ret .none)) ⟨h', g, d, tk', os⟩) :
    codeAny (model prog w) A (.call (.builtin "object.__setattr__") ⟨[.ref x, .str name tk, v], []⟩) R ⟨hp, g, d, t, os⟩ := by
  obtain ⟨oD, _, _, hoD, _, _⟩ := hns.count hw
  have lc : Looks (model prog w) hp (classData C) cd := looks_clsIn X hcd
  refine osa_openX SF X (od := some oD) ⟨hx, rfl, rfl, hoD⟩ ov ht fun b => ?_
  show wpAny _ _ (storeInOwnDict (.ref x) (.ref C) (.str name tk) name v b) _ _ _
  obtain ⟨c1, c2, c3, c4, c5, c6, c7, c8, c9, c10, c11⟩ := cd
  dsimp only at hh
  subst hh
  unfold storeInOwnDict ownDictForStores
  repeat (first
    | with_reducible refine PySem.OEX.store_in_old hns hw hz ?_
    | with_reducible refine wpAny_loadPart_at hx ?_
    | with_reducible refine lc.at ?_
    | wp_step)
  intro h' tk' n' s'
  exact hq h' tk' (fun b o hb ho => (s'.2 b hb).trans ho) n'
end
open PySem PySem.Spec PyProof.Rows L2
/-! ### an own error class, as the top has made it -/
structure EC (K : PySem.W.Frag) (C : Addr) : Prop where
  base : ∃ B nI iI bB n0 q0 N bs bm sl below ab cl od m0 m1 m2 m3 m5, ExcBaseFacts B nI iI bB ∧ StoreFacts B bB "object.__setattr__" "object" ∧ PySem.W.excTail bB bm = true ∧
    K.lookup C = some (excClassObj n0 q0 C N bs bm true sl below ab cl od m0 m1 m2 m3 m5 nI)
  sa : PySem.W.findIn K (.ref C) "__setattr__" = some (some (.builtin "object.__setattr__"))
  ga : PySem.W.findIn K (.ref C) "__getattribute__" = some (some (.builtin "BaseException.__getattribute__"))
  gg : PySem.W.findIn K (.ref C) "__getattr__" = some none
  exC : PySem.W.subIn K (.ref C) (.type "BaseException") = some true
  tyC : PySem.W.typeIn K (.ref C) = some (.type "type")
  kC : PySem.W.keepIn K (.ref C) = true
  hdC : PySem.W.hasDictIn K C = true
  ca : PySem.W.findIn K (.ref C) "__class__" = some (some (.builtin "object.__class__"))
  mo : PySem.W.mroIn K C (.type "object") = some true
/-- two words of the library about a built-in, asked once -/
structure ECK (K : PySem.W.Frag) : Prop where
  hn : PySem.W.specialIn K (.builtin "object.__class__") "__get__" = some (some (.builtin "getset_descriptor.__get__"))
  ht : PySem.W.takesIn K (.builtin "object.__class__") = some true
section
variable {K : PySem.W.Frag} {C : Addr}
theorem EC.over (T : EC K C) : ∃ B bB cd, StoreFacts B bB "object.__setattr__" "object" ∧ PySem.W.excOver K C bB = true ∧ PySem.W.clsIn K C = some cd ∧ cd.hasDict = true := by
  obtain ⟨B, nI, iI, bB, n0, q0, N, bs, bm, sl, below, ab, cl, od, m0, m1, m2, m3, m5, _, SF, tl, lk⟩ := T.base
  have hc : PySem.W.clsIn K C = some { name := n0, bases := bs, mro := .ref C :: bm, ns := N, qualname := q0, hasDict := true, slotNames := sl, subclasses := below, abstract := ab, collection := cl, hasDel := false } := by
    unfold PySem.W.clsIn
    rw [lk]
  refine ⟨B, bB, _, SF, ?_, hc, rfl⟩
  unfold PySem.W.excOver
  rw [hc]
  show (C == C && PySem.W.excTail bB bm) = true
  rw [tl, beq_self_eq_true]
  rfl
end
section
variable {X : Cx} {pins : List (Addr × Obj)} {σ : L2.St} {H : Hp} {s : Shared} {a C dx : Addr} {f : Str} {y : V} {u : Value} {fs : List (Str × V)} {Q : Unit → Shared → Prop} {E : Value → Shared → Prop}
/-- one object of ours is written anew, and another one is laid beside it -/
theorem two (I : Inv X pins σ H s) {o o2 : HO} {h' : Heap} {tk : Nat} (mu : Mut (H a)) (nd : H dx = none) (dn : s.heap.objs.size ≤ dx) (ne : dx ≠ a) (k : ∀ b u, b ≠ a → s.heap.get? b = some u → h'.get? b = some u) (ha : ∃ u, h'.get? a = some u)
    (oa : ∀ (H' : Hp) (G : Heap), G.get? a = h'.get? a → ObjOk X.prog X.w H' G a o) (od : ∀ H' : Hp, ObjOk X.prog X.w H' h' dx o2) : Inv X pins σ (upd (upd H a o) dx o2) { s with heap := h', toks := tk } := by
  obtain ⟨G, g1, g2⟩ := restrict h' fun b => decide (b ≠ dx)
  have gk : ∀ b, b ≠ dx → G.get? b = h'.get? b := fun b hb => g1 b (decide_eq_true hb)
  have g0 : G.get? dx = none := g2 dx (by simp)
  have old : ∀ {b : Addr} {u : Obj}, s.heap.get? b = some u → b ≠ dx := fun {b u} e => Nat.ne_of_lt (Nat.lt_of_lt_of_le (Heap.lt_size e) dn)
  have I1 := I.write (t' := tk) (x := a) (e := a) (o := o) (h' := G) mu (.inl rfl) (fun b u hb e => (gk b (old e)).trans (k b u hb e)) (by
    obtain ⟨u, e⟩ := ha
    exact ⟨u, (gk a ne.symm).trans e⟩) (oa _ G (gk a ne.symm))
  refine I1.laidN (t' := tk) (h' := h') (fun b u e => ?_) g0 (by rw [upd_ne ne]; exact nd) (od _)
  by_cases hb : b = dx
  · rw [hb, g0] at e
    cases e
  · exact (gk b hb).symm.trans e
theorem set1 (T : EC X.K C) (I : Inv X pins σ H s) (e : H a = some (exo a C none)) (ht : PySem.W.takerIn X.K C f = some none) (ry : RelV y u)
    (h : ∀ dx s', H dx = none → dx ≠ a → Inv X pins σ (upd (upd H a (exo a C (some dx))) dx (exd dx [(f, y)])) s' → Q () s') : wpAny (model X.prog X.w) X.A (setAttr (.ref a) f u) Q E s := by
  obtain ⟨B, bB, cd, SF, ov, hc, hh⟩ := T.over
  obtain ⟨t1, ho⟩ := exo_at I.hok e
  obtain ⟨hp, g, d, t, os⟩ := s
  refine PySem.W.set_plain I.kIn (od := none) ⟨ho, rfl, rfl, trivial⟩ T.sa (keepNew SF I.kIn ho ov hc hh ht fun h' tk dx k dn ne hx hn => ?_)
  have nd : H dx = none := I.hok.fresh dn
  exact h dx _ nd ne (two I (by rw [e]; exact True.intro) nd dn ne k ⟨_, hx⟩ (fun H' G hG => exo_ok (hG.trans hx)) fun H' => exd_ok hn (relO_put (fs := []) ry fun g => True.intro))
theorem set2 (T : EC X.K C) (I : Inv X pins σ H s) (e : H a = some (exo a C (some dx))) (ed : H dx = some (exd dx fs)) (hl : fs.length ≤ 900) (ht : PySem.W.takerIn X.K C f = some none) (ry : RelV y u)
    (h : ∀ s', Inv X pins σ (upd H dx (exd dx ((f, y) :: fs))) s' → Q () s') : wpAny (model X.prog X.w) X.A (setAttr (.ref a) f u) Q E s := by
  obtain ⟨B, bB, cd, SF, ov, hc, hh⟩ := T.over
  obtain ⟨t1, ho⟩ := exo_at I.hok e
  obtain ⟨mA, hns, rel⟩ := exd_at I.hok ed
  have hw := within_of rel
  obtain ⟨hp, g, d, t, os⟩ := s
  obtain ⟨oD, _, _, hoD, _, _⟩ := hns.count hw
  refine PySem.W.set_plain I.kIn (od := some oD) ⟨ho, rfl, rfl, hoD⟩ T.sa (keepOld SF I.kIn ho hns hw (by rw [List.length_map]; omega) ov hc hh ht fun h' tk k hn => ?_)
  refine h _ (I.write (t' := tk) (x := dx) (e := dx) (by rw [ed]; exact True.intro) (.inl rfl) k ?_ (exd_ok hn (relO_put ry rel)))
  obtain ⟨o, _, _, z, _⟩ := hn
  exact ⟨o, z⟩
end
/-! ### readings and rules -/
/-- self.f = e in the __init__ of an error class -/
def tSt (K : PySem.W.Frag) (f : Str) (to te : TE) : TS := fun D σ H => te σ H fun y H1 => to σ H1 fun x H2 => ∃ a C : Addr, x = .ref a ∧ EC K C ∧ PySem.W.takerIn K C f = some none ∧
  ((H2 a = some (exo a C none) ∧ ∀ dx, H2 dx = none → dx ≠ a → D.nx σ (upd (upd H2 a (exo a C (some dx))) dx (exd dx [(f, y)]))) ∨
    ∃ (dx : Addr) (fs : List (Str × V)), H2 a = some (exo a C (some dx)) ∧ H2 dx = some (exd dx fs) ∧ fs.length ≤ 900 ∧ D.nx σ (upd H2 dx (exd dx ((f, y) :: fs))))
/-- X(e, ..): a new error, by its own __init__ -/
def tMk (C : Addr) (sp : Sp) (gV : List V → List V → List V) (n m : Nat) (ta tk : TA) : TE := fun σ H Q => ta σ H fun vs H1 => tk σ H1 fun zs H2 => vs.length = n ∧ zs.length = m ∧ ∀ a, H2 a = none →
  sp (gV (.ref a :: vs) zs) (upd H2 a (exo a C none)) (fun v H3 => v = .non ∧ Q (.ref a) H3) fun _ _ _ => False
/-- e.f, of an error that we hold -/
def tFd (K : PySem.W.Frag) (f : Str) (te : TE) : TE := fun σ H Q => te σ H fun x H1 => ∃ (a C dx : Addr) (fs : List (Str × V)) (v : V), x = .ref a ∧ EC K C ∧ PySem.W.findIn K (.ref C) f = some none ∧ H1 a = some (exo a C (some dx)) ∧ H1 dx = some (exd dx fs) ∧ fs.lookup f = some v ∧ Q v H1
/-- isinstance(e, c), of such an error -/
def rIsX (K : PySem.W.Frag) : List V → Hp → VK → Prop := fun xs H Q => ∃ (a C : Addr) (dx : Option Addr) (c : V) (cv : Value) (b : Bool), xs = [.ref a, c] ∧ H a = some (exo a C dx) ∧ EC K C ∧ ECK K ∧ ClsV c cv ∧ PySem.W.kitOne K (.ref C) cv = some b ∧ (∀ d, dx = some d → ∃ fs, H d = some (exd d fs)) ∧ Q (.bl b) H
section
variable {X : Cx} {o e : Expr} {es : List Expr} {kws : List Keyword} {to te : TE} {ta tk : TA} {f : Str} {p p' pos : Pos}
theorem ps_st (ho : PE X o to) (he : PE X e te) (hs : swapsWith e (some (.Attribute o f p')) pos.line X.env = pure false := by rfl) : PS X (.Assign [.Attribute o f p'] e pos) (tSt X.K f to te) := by
  refine ⟨fun pins s σ H D I h => plainObj_wpAny_Assign_Attribute (thn (he.run pins s σ H _ I h) fun v s1 ⟨y, H1, I1, r1, q1⟩ => thn (ho.run pins s1 σ H1 _ I1 q1) fun u s2 ⟨x, H2, I2, r2, a, C, ex, T, ht, q⟩ => ?_) hs⟩
  cases ex
  cases r2
  rcases q with ⟨ea, q⟩ | ⟨dx, fs, ea, ed, hl, q⟩
  · exact set1 T I2 ea ht r1 fun dx s' n ne J => ⟨σ, _, J, q dx n ne⟩
  · exact set2 T I2 ea ed hl ht r1 fun s' J => ⟨σ, _, J, q⟩
theorem pe_fd {n : Str} (he : PE X e te) (hb : attributeBase e n X.env (eval e X.env) = eval e X.env := by rfl) : PE X (.Attribute e n pos) (tFd X.K n te) := by
  refine ⟨fun pins s σ H Q I h => attr_of hb (thn (he.run pins s σ H _ I h) fun u s1 ⟨x, H1, I1, rx, a, C, dx, fs, v, ex, T, hno, ea, ed, l, q⟩ => ?_)⟩
  cases ex
  cases rx
  obtain ⟨t1, ho⟩ := exo_at I1.hok ea
  obtain ⟨mA, hns, rel⟩ := exd_at I1.hok ed
  obtain ⟨od, hod, hl⟩ := lookIn_ns hns
  obtain ⟨u, hu, ru⟩ := RelO.some_of (v := v) (o := mA n) (by rw [← l]; exact rel n)
  exact PySem.HandSPX.exc_get I1.kIn (od := some od) ⟨ho, rfl, rfl, hod⟩ T.ga T.gg T.exC (PySem.W.findObj_own T.hdC hno rfl (by rw [hl, hu])) (handed_of ru) ⟨v, H1, I1.tok _, ru, q⟩
end
section
variable {K : PySem.W.Frag} {x D : Addr}
/-- what isinstance asks of an error, of its class -/
theorem kitE (T : EC K D) (Z : ECK K) : PySem.W.KitX K (.ref x) (.ref D) (fun h => ∃ ox od, PySem.W.InstAt h x ox D od) := by
  obtain ⟨cd, hc, _⟩ := PySem.W.any_some T.hdC
  have lk : ∃ c1 d1 cd1 s1, K.lookup D = some ⟨c1, d1, .cls cd1, s1⟩ := by
    unfold PySem.W.clsIn at hc
    split at hc
    · rename_i c1 d1 cd1 s1 ho
      exact ⟨c1, d1, cd1, s1, ho⟩
    · cases hc
  obtain ⟨c1, d1, cd1, s1, lk⟩ := lk
  constructor
  · rintro M h X ⟨ox, od, I⟩
    exact I.type
  · intro M h X _ A Q E s k q
    unfold isType loadHead
    exact wpAny_bind (wpAny_loadPart (k _ _ (X _ _ lk)) (wpAny_pure q))
  · intro h tp dd its n sl X htp
    refine Bool.eq_false_iff.mpr fun q => ?_
    cases Value.ref.inj (beq_iff_eq.mp q)
    cases (X _ _ lk).symm.trans htp
  · rintro prog w A E Q s X ⟨ox, od, I⟩ k
    exact PySem.W.kx_classE X I T.ga T.gg T.exC (PySem.W.findObj_dataE (by rw [hc]; rfl) T.ca Z.hn Z.ht) T.mo k
end
section
variable {X : Cx}
theorem call_isX : CallR X (.builtin "isinstance") (rIsX X.K) := by
  intro pins s σ H xs us Q I r h
  obtain ⟨a, C, dx, c, cv, b, rfl, ea, T, Z, k, kk, ed, q⟩ := h
  obtain ⟨u1, u2, rfl, r1, r2⟩ := vals2 r
  cases r1
  have e2 := k.eq r2
  subst e2
  obtain ⟨t1, ho⟩ := exo_at I.hok ea
  refine PySem.W.kia_one (kitE T Z) I.kIn ?_ kk (fun z => nomatch z) fun tk => ⟨.bl b, H, I.tok tk, rfl, q⟩
  cases dx with
  | none => exact ⟨_, none, ho, rfl, rfl, trivial⟩
  | some d =>
    obtain ⟨fs, ed⟩ := ed d rfl
    obtain ⟨mA, hns, rel⟩ := exd_at I.hok ed
    obtain ⟨od, hod, hl⟩ := lookIn_ns hns
    exact ⟨_, some od, ho, rfl, rfl, hod⟩
end
section
variable {X : Cx} {T : CXT} {x : Str} {C fI : Addr} {k n : Nat} {fd : FuncData} {ps ks : List Str} {sp : Sp} {g : List Value → List Value → List Value} {gV : List V → List V → List V} {e : Expr} {es : List Expr} {kws : List Keyword} {ta tk : TA} {p pos : Pos}
theorem run_mk {pins : List (Addr × Obj)} {σ : L2.St} {H : Hp} {s : Shared} {Q : VK} {us ws : List Value} {vs zs : List V} (Z : EC X.K C) (iC : PySem.W.findIn X.K (.ref C) "__init__" = some (some (.ref fI))) (tI : PySem.W.typeIn X.K (.ref fI) = some (.type "function"))
    (F : FnOk X.prog X.w X.K X.mg X.base T k fI fd ps sp) (hr : Room (k + 1) X.A) (hb : KBn X.K fd ps (n + 1) ks g gV) (hx : Passes T X (fun _ _ _ => False)) (I : Inv X pins σ H s) (r : Vals vs us) (rz : Vals zs ws) (l1 : vs.length = n) (l2 : zs.length = ks.length) (hn : n ≤ 1000)
    (h : ∀ a, H a = none → sp (gV (.ref a :: vs) zs) (upd H a (exo a C none)) (fun v H3 => v = .non ∧ Q (.ref a) H3) fun _ _ _ => False) : wpAny (model X.prog X.w) X.A (call (.ref C) us (ks.zip ws)) (EP X pins σ Q) X.xe s := by
  obtain ⟨B, nI, iI, bB, n0, q0, N, bs, bm, sl, below, ab, cl, od, m0, m1, m2, m3, m5, FB, SF, tl, lk⟩ := Z.base
  obtain ⟨hp, gn, dr, t, os⟩ := s
  have stay : ∀ b o, hp.get? b = some o → ((hp.push (PySem.W.kdv_tup us)).push (PySem.HandSPX.excO C hp.objs.size)).get? b = some o := fun b o e => Heap.get?_push_of_some _ (Heap.get?_push_of_some _ e)
  have self1 : ((hp.push (PySem.W.kdv_tup us)).push (PySem.HandSPX.excO C hp.objs.size)).get? (hp.objs.size + 1) = some (PySem.HandSPX.excO C hp.objs.size) := by heap_get
  have I2 : Inv X pins σ (upd H (hp.objs.size + 1) (exo (hp.objs.size + 1) C none)) ⟨(hp.push (PySem.W.kdv_tup us)).push (PySem.HandSPX.excO C hp.objs.size), gn, dr, t, os⟩ :=
    I.laid (t' := t) (a := hp.objs.size + 1) stay (Nat.le_succ _) (exo_ok self1)
  have r1 : Vals (V.ref (hp.objs.size + 1) :: vs) (Value.ref (hp.objs.size + 1) :: us) := .cons rfl r
  have e1 : (Value.ref (hp.objs.size + 1) :: us).length = n + 1 := by
    rw [List.length_cons, ← r.length, l1]
  have hus : us.length ≤ sizeLine := by
    rw [← r.length, l1, sizeLine_eq]
    omega
  refine wpAny_call (kwCall FB (fun Y => PySem.W.excTail_contains Y bm tl) (I.kIn _ _ lk) hus (PySem.W.looks_findIn I.kIn iC) (fun self => PySem.W.bind_fn I.kIn self tI)
    (codeAny_mono (F.run _ X.stack _ _ ⟨Value.ref (hp.objs.size + 1) :: us, ks.zip ws⟩ (g (Value.ref (hp.objs.size + 1) :: us) ws) _ _ _ (hr.make C us (ks.zip ws)) (I2.env0.make C us (ks.zip ws))
      (hb.to _ (Value.ref (hp.objs.size + 1) :: us) ws I2.kIn e1 (rz.length.symm.trans l2)) (hb.rel r1 rz) (h _ (I.hok.fresh (Nat.le_succ _)))) fun r s' hq => ?_))
  cases r with
  | error er => exact hx pins σ _ _ er s' I2 hq
  | ok fl =>
    cases fl with
    | ret u =>
      obtain ⟨v, H', I3, rv, ev, q3⟩ := I2.after hq
      cases ev
      exact ⟨rv, ⟨V.ref (hp.objs.size + 1), H', I3, rfl, q3⟩⟩
    | next => exact hq.elim
    | brk => exact hq.elim
    | cont => exact hq.elim
theorem pe_mk (Z : EC X.K C) (iC : PySem.W.findIn X.K (.ref C) "__init__" = some (some (.ref fI))) (tI : PySem.W.typeIn X.K (.ref fI) = some (.type "function")) (F : FnOk X.prog X.w X.K X.mg X.base T k fI fd ps sp) (hr : Room (k + 1) X.A) (hg : Gl X x) (hm : X.mg x = some (.ref C))
    (hb : KBn X.K fd ps (n + 1) [] g gV) (hx : Passes T X (fun _ _ _ => False)) (ha : PA X (e :: es) ta) (hn : n ≤ 1000 := by decide) (hdb : (x == ("__debug__" : Str)) = false := by decide)
    (he : starEach (e :: es) X.env = (false, eval e X.env) :: starEach es X.env := by rfl) (hpl : (backTo pos (starEach es X.env)).any (·.1) = false := by rfl) :
    PE X (.Call (.Name x p) (e :: es) [] pos) (tMk C sp gV n 0 ta tNil) := by
  refine ⟨fun pins s σ H Q I h => wpAny_Call_Name_kw (ld_glob I hg hm (PySem.W.callWith_K (h₀ := X.base) I.ok.mod.kin Z.kC (thn (ha.run pos pins s σ H _ I h) fun us s1 ⟨vs, H1, I1, r, l1, l2, q⟩ => ⟨I1.kIn, ?_⟩) he hpl) hdb)⟩
  exact run_mk (ws := []) (zs := []) (ks := []) Z iC tI F hr hb hx I1 r .nil l1 rfl hn q
theorem pe_mkK (Z : EC X.K C) (iC : PySem.W.findIn X.K (.ref C) "__init__" = some (some (.ref fI))) (tI : PySem.W.typeIn X.K (.ref fI) = some (.type "function")) (F : FnOk X.prog X.w X.K X.mg X.base T k fI fd ps sp) (hr : Room (k + 1) X.A) (hg : Gl X x) (hm : X.mg x = some (.ref C))
    (hb : KBn X.K fd ps 1 ks g gV) (hx : Passes T X (fun _ _ _ => False)) (hkw : PK X kws tk) (hall : (backToKw pos (keywordEach kws X.env)).all (·.1.isSome) = true := by rfl) (hks : (backToKw pos (keywordEach kws X.env)).filterMap (·.1) = ks := by rfl)
    (hdb : (x == ("__debug__" : Str)) = false := by decide) (hpl : ((backTo pos (starEach [] X.env)).any (·.1) || (backToKw pos (keywordEach kws X.env)).any (·.1.isNone)) = false := by rfl) :
    PE X (.Call (.Name x p) [] kws pos) (tMk C sp gV 0 ks.length tNil tk) := by
  refine ⟨fun pins s σ H Q I h => wpAny_Call_Name_kw (ld_glob I hg hm (PySem.W.callWith_KW0 (h₀ := X.base) I.ok.mod.kin Z.kC hall (thn (hkw.run pos pins s σ H _ I h) fun ws s2 ⟨zs, H2, I2, rz, l1, l2, q⟩ => ⟨I2.kIn, ?_⟩) hpl) hdb)⟩
  rw [hks]
  exact run_mk (us := []) (vs := []) Z iC tI F hr hb hx I2 .nil rz rfl l2 (by decide) q
end
end Vf

set_option Elab.async false
set_option linter.all false
set_option maxRecDepth 100000
set_option maxHeartbeats 4000000
namespace Vf
open PySem PySem.Spec PyProof.Rows L2
/-! ## 4. the draws of a script -/
/-- list + list, wherever they stand -/
def rCatL (K : PySem.W.Frag) : R2 := fun x y H Q => ∃ l b xs zs, x = .ref l ∧ y = .ref b ∧ SqL K H l xs ∧ SqL K H b zs ∧ xs.length + zs.length ≤ sizeLine ∧ ∀ p, H p = none → Q (.ref p) (upd H p (.lst (xs ++ zs)))
/-- d[k] = v as a target among others -/
def rPutD : TSet := fun o i v H Q => ∃ a H', o = .ref a ∧ DPut H a i v H' ∧ Q H'
section
variable {X : Cx}
theorem op_catL : OpR X (binaryOp .Add) (rCatL X.K) := by
  intro pins s σ H x y v u Q I rx ry h
  obtain ⟨l, b, xs, zs, rfl, rfl, hx, hz, hs, q⟩ := h
  cases rx
  cases ry
  obtain ⟨us, r1, ⟨⟨c1, d1, t1, s1⟩, n1, o1, e1, _, f1⟩, _⟩ := I.list hx
  obtain ⟨ws, r2, ⟨⟨c2, d2, t2, s2⟩, n2, o2, e2, _, f2⟩, _⟩ := I.list hz
  simp only at e1 f1 e2 f2
  subst e1 f1 e2 f2
  have l1 := r1.length
  have l2 := r2.length
  have ea : us.toArray ++ ws.toArray = (us ++ ws).toArray := by simp
  refine concat_meets ⟨_, o1, rfl⟩ ⟨_, o2, rfl⟩ noFill_list_add seq_list_add PySem.F.slot_list_add PySem.F.entry_list_add (PySem.F.args_list_add_2 _ _) (list_addW l b us.toArray ws.toArray n1 n2 d1 d2 s1 s2 (by rw [List.size_toArray, List.size_toArray]; omega)) ⟨o1, o2, ?_⟩
  rw [ea]
  exact ⟨.ref _, _, I.lnew (t' := s.toks) (r1.append r2) (by rw [List.length_append]; omega), rfl, q _ I.fresh⟩
theorem set_d (hu : X.A.units + 1 < cLine) : PSet X rPutD := by
  intro pins s σ H o i v ov iv u Q I ro ri rv h
  obtain ⟨a, H', rfl, g, q⟩ := h
  cases ro
  exact d_setItem hu I g ri rv fun s' I' => ⟨H', I', q⟩
end
/-- all that was tracked is as it was, but at d -/
def But (d : Addr) (H H' : Hp) : Prop := ∀ b o, H b = some o → b ≠ d → H' b = some o
theorem But.refl (d : Addr) (H : Hp) : But d H H := fun _ _ h _ => h
theorem But.trans {d : Addr} {H H1 H2 : Hp} (a : But d H H1) (b : But d H1 H2) : But d H H2 := fun c o h n => b c o (a c o h n) n
theorem But.same {d : Addr} {H H' : Hp} (a : Same H H') : But d H H' := fun c o h _ => a c o h
theorem But.at {d : Addr} {H : Hp} {o : HO} : But d H (upd H d o) := fun c u h n => by
  rw [upd_ne n]
  exact h
theorem But.new {d p : Addr} {H : Hp} {o : HO} (h : H p = none) : But d H (upd H p o) := fun c u e _ => by
  rw [upd_ne (ne_of_none e h)]
  exact e
theorem same_new {p : Addr} {H : Hp} {o : HO} (h : H p = none) : Same H (upd H p o) := fun c u e => by
  rw [upd_ne (ne_of_none e h)]
  exact e
/-- the pairs of a draw's dict -/
def drawD (l : Addr) (at_ left used : Int) : List (Key × V) := [(.inr "cells", .ref l), (.inr "at", .int at_), (.inr "left", .int left), (.inr "used", .int used)]
structure DrawAt (H : Hp) (d l : Addr) (ns : List Int) (at_ left used : Int) : Prop where
  dc : H d = some (.dK (drawD l at_ left used))
  ls : H l = some (.lst (ns.map V.int))
  l1 : 1 ≤ ns.length
  l2 : ns.length ≤ 64
  a0 : 0 ≤ at_
  u0 : 0 ≤ used
  ua : used ≤ at_
theorem DrawAt.ne {H : Hp} {d l : Addr} {ns : List Int} {a b c : Int} (D : DrawAt H d l ns a b c) : l ≠ d := ne_of D.ls D.dc (by intro z; cases z)
theorem DrawAt.put {H H' : Hp} {d l : Addr} {ns : List Int} {a b c a' b' c' : Int} (D : DrawAt H d l ns a b c) (k : But d H H') (e : H' d = some (.dK (drawD l a' b' c'))) (ha : 0 ≤ a') (hc : 0 ≤ c') (hca : c' ≤ a') : DrawAt H' d l ns a' b' c' :=
  ⟨e, k _ _ D.ls D.ne, D.l1, D.l2, ha, hc, hca⟩
section
variable (l : Addr) (a b c z : Int)
theorem look_cells : valV (drawD l a b c) (.inr "cells" : Key) = some (.ref l) := by rfl
theorem look_at : valV (drawD l a b c) (.inr "at" : Key) = some (.int a) := by rfl
theorem look_left : valV (drawD l a b c) (.inr "left" : Key) = some (.int b) := by rfl
theorem look_used : valV (drawD l a b c) (.inr "used" : Key) = some (.int c) := by rfl
theorem put_at : putK (drawD l a b c) (.inr "at" : Key) (.int z) = drawD l z b c := by rfl
theorem put_left : putK (drawD l a b c) (.inr "left" : Key) (.int z) = drawD l a z c := by rfl
theorem put_used : putK (drawD l a b c) (.inr "used" : Key) (.int z) = drawD l a b z := by rfl
theorem made_draw : mergeK [] [((.inr "cells" : Key), V.ref l), (.inr "at", .int a), (.inr "left", .int b), (.inr "used", .int c)] = drawD l a b c := by rfl
end
section
variable {H : Hp} {d l : Addr} {ns : List Int} {a b c z : Int}
theorem DrawAt.gc (D : DrawAt H d l ns a b c) : DGet H d (.str "cells") (some (.ref l)) := by
  have q := DGet.k (k := (.inr "cells" : Key)) D.dc
  rw [look_cells] at q
  exact q
theorem DrawAt.ga (D : DrawAt H d l ns a b c) : DGet H d (.str "at") (some (.int a)) := by
  have q := DGet.k (k := (.inr "at" : Key)) D.dc
  rw [look_at] at q
  exact q
theorem DrawAt.gl (D : DrawAt H d l ns a b c) : DGet H d (.str "left") (some (.int b)) := by
  have q := DGet.k (k := (.inr "left" : Key)) D.dc
  rw [look_left] at q
  exact q
theorem DrawAt.gu (D : DrawAt H d l ns a b c) : DGet H d (.str "used") (some (.int c)) := by
  have q := DGet.k (k := (.inr "used" : Key)) D.dc
  rw [look_used] at q
  exact q
theorem DrawAt.pa (D : DrawAt H d l ns a b c) (z : Int) : DPut H d (.str "at") (.int z) (upd H d (.dK (drawD l z b c))) := by
  have q := DPut.k (k := (.inr "at" : Key)) (v := .int z) D.dc (by show 4 < sizeLine; decide)
  rw [put_at] at q
  exact q
theorem DrawAt.pl (D : DrawAt H d l ns a b c) (z : Int) : DPut H d (.str "left") (.int z) (upd H d (.dK (drawD l a z c))) := by
  have q := DPut.k (k := (.inr "left" : Key)) (v := .int z) D.dc (by show 4 < sizeLine; decide)
  rw [put_left] at q
  exact q
theorem DrawAt.pu (D : DrawAt H d l ns a b c) (z : Int) : DPut H d (.str "used") (.int z) (upd H d (.dK (drawD l a b z))) := by
  have q := DPut.k (k := (.inr "used" : Key)) (v := .int z) D.dc (by show 4 < sizeLine; decide)
  rw [put_used] at q
  exact q
theorem DrawAt.setA (D : DrawAt H d l ns a b c) (h1 : 0 ≤ z) (h2 : c ≤ z) : DrawAt (upd H d (.dK (drawD l z b c))) d l ns z b c := D.put But.at upd_same h1 D.u0 h2
theorem DrawAt.setL (D : DrawAt H d l ns a b c) : DrawAt (upd H d (.dK (drawD l a z c))) d l ns a z c := D.put But.at upd_same D.a0 D.u0 D.ua
theorem DrawAt.setU (D : DrawAt H d l ns a b c) (h1 : 0 ≤ z) (h2 : z ≤ a) : DrawAt (upd H d (.dK (drawD l a b z))) d l ns a b z := D.put But.at upd_same D.a0 h1 h2
theorem DrawAt.but {H' : Hp} (D : DrawAt H d l ns a b c) (k : Same H H') : DrawAt H' d l ns a b c := ⟨k _ _ D.dc, k _ _ D.ls, D.l1, D.l2, D.a0, D.u0, D.ua⟩
theorem fmod_in {m : Int} (h : 1 ≤ m) (i : Int) : 0 ≤ i.fmod m ∧ i.fmod m < m := by
  rw [Int.fmod_eq_emod_of_nonneg i (by omega)]
  exact ⟨Int.emod_nonneg i (by omega), Int.emod_lt_of_pos i (by omega)⟩
theorem at_fmod {α : Type} {xs : List α} (h : 1 ≤ xs.length) (i : Int) : ∃ (j : Nat) (v : α), i.fmod (xs.length : Int) = (j : Int) ∧ xs[j]? = some v := by
  obtain ⟨h1, h2⟩ := fmod_in (m := (xs.length : Int)) (by omega) i
  have e : ((i.fmod (xs.length : Int)).toNat : Int) = i.fmod (xs.length : Int) := Int.toNat_of_nonneg h1
  have lt : (i.fmod (xs.length : Int)).toNat < xs.length := by omega
  exact ⟨_, xs[(i.fmod (xs.length : Int)).toNat], e.symm, List.getElem?_eq_getElem lt⟩
end
def topS (i : Nat) : Stmt := PySem.Challenge.pw_fallcuts_k01_errors_made.main.body.getD i (.Pass ⟨0, 0, 0, 0⟩)
abbrev sBegin : Stmt := topS 14
abbrev sNext : Stmt := topS 15
abbrev sPick : Stmt := topS 16
/-- a draw begins -/
def spBegin (K : PySem.W.Frag) : Sp := fun vs H Q _ => ∃ (a : Addr) (ns : List Int), vs = [.ref a] ∧ SqL K H a (ns.map V.int) ∧ ns.length ≤ 63 ∧ ∀ (d l : Addr) (H' : Hp), Same H H' → H d = none → H l = none → DrawAt H' d l (ns ++ [0]) 0 0 0 → Q (.ref d) H'
/-- the next number below many -/
def spNext : Sp := fun vs H Q _ => ∃ (d l : Addr) (ns : List Int) (a b c m : Int), vs = [.ref d, .int m] ∧ DrawAt H d l ns a b c ∧ a < 1000000000 ∧ 1 ≤ m ∧ m < 536870912 ∧
  ∀ (r a' b' c' : Int) (H' : Hp), 0 ≤ r → r < m → But d H H' → DrawAt H' d l ns a' b' c' → a' ≤ a + 1 → Q (.int r) H'
/-- one item of a list -/
def spPick : Sp := fun vs H Q _ => ∃ (d l p : Addr) (ns : List Int) (a b c : Int) (xs : List V), vs = [.ref d, .ref p] ∧ DrawAt H d l ns a b c ∧ a < 1000000000 ∧ H p = some (.lst xs) ∧ 1 ≤ xs.length ∧ xs.length < 536870912 ∧
  ∀ (i : Nat) (v : V) (a' b' c' : Int) (H' : Hp), xs[i]? = some v → But d H H' → DrawAt H' d l ns a' b' c' → a' ≤ a + 1 → Q v H'
section
variable {P : Program} {w : World} {K : PySem.W.Frag} {mg : Str → Option Value} {base : Heap}
theorem scBegin : FnScope ["script"] ["script"] (defScope sBegin) := ⟨rfl, rfl, rfl, by decide +kernel, rfl, by decide +kernel, by decide +kernel⟩
theorem ok_begin {f : Addr} {fd : FuncData} (F : Fun K "_law_begin" "_law_begin" sBegin f fd) : FnOk P w K mg base CX0 1 f fd ["script"] (spBegin K) := by
  refine F.ok scBegin (fun vs H Q E h => ?_) (fun cdv A outer s H vs Q E hr h => ?_)
  · obtain ⟨a, ns, rfl, _⟩ := h
    rfl
  · obtain ⟨a, ns, rfl, hS, hl, k⟩ := h
    refine ⟨_, pss_one (ps_ret (pe_disp (pps_cons pe_str (pe_op op_catL (pv 0) (pe_lst (pa_cons pe_int pa_nil))) (pps_cons pe_str pe_int (pps_cons pe_str pe_int (pps_cons pe_str pe_int pps_nil)))) (by rfl) (by rfl) (fun z => by cases z) (by decide))), ?_⟩
    intro d nd
    have s1 : Same H (upd H d (.dK [])) := same_new nd
    refine ⟨_, rfl, (by show 1 ≤ sizeLine; decide), fun t nt => ?_⟩
    have s2 : Same (upd H d (.dK [])) (upd (upd H d (.dK [])) t (.lst [.int 0])) := same_new nt
    refine ⟨a, t, _, _, rfl, rfl, s2.seq (s1.seq hS), .inl (.inl upd_same), ?_, fun l nl => ?_⟩
    · rw [List.length_map]
      show ns.length + 1 ≤ sizeLine
      exact Nat.le_trans (by omega : ns.length + 1 ≤ 64) (by decide)
    have s3 : Same (upd (upd H d (.dK [])) t (.lst [.int 0])) (upd (upd (upd H d (.dK [])) t (.lst [.int 0])) l (.lst (ns.map V.int ++ [.int 0]))) := same_new nl
    refine ⟨s3 _ _ (s2 _ _ upd_same), [((.inr "cells" : Key), V.ref l), (.inr "at", .int 0), (.inr "left", .int 0), (.inr "used", .int 0)], rfl, (by show 4 ≤ 15; decide), ?_⟩
    have nld : l ≠ d := fun z => by
      rw [z] at nl
      rw [s2 _ _ (upd_same : upd H d (.dK []) d = some (.dK []))] at nl
      cases nl
    have s13 : Same H (upd (upd (upd H d (.dK [])) t (.lst [.int 0])) l (.lst (ns.map V.int ++ [.int 0]))) := s1.trans (s2.trans s3)
    refine k d l _ (fun b o e => ?_) nd ((s1.trans s2).free nl) ⟨?_, ?_, ?_, ?_, Int.le_refl _, Int.le_refl _, Int.le_refl _⟩
    · rw [upd_ne (ne_of_none e nd)]
      exact s13 _ _ e
    · rw [upd_same]
      exact congrArg (fun z => some (HO.dK z)) (made_draw l 0 0 0)
    · rw [upd_ne nld, upd_same, List.map_append]
      rfl
    · rw [List.length_append]
      show 1 ≤ ns.length + 1
      omega
    · rw [List.length_append]
      show ns.length + 1 ≤ 64
      omega
theorem scNext : FnScope ["draw", "many_so", "cell", "cells", "number_so", "k"] ["draw", "many_so"] (defScope sNext) := ⟨rfl, rfl, rfl, by decide +kernel, rfl, by decide +kernel, by decide +kernel⟩
theorem ok_next {f : Addr} {fd : FuncData} (F : Fun K "_law_next" "_law_next" sNext f fd) (ml : mg "len" = none) : FnOk P w K mg base CX0 1 f fd ["draw", "many_so"] spNext := by
  refine F.ok scNext (fun vs H Q E h => ?_) (fun cdv A outer s H vs Q E hr h => ?_)
  · obtain ⟨d, l, ns, a, b, c, m, rfl, _⟩ := h
    rfl
  · obtain ⟨d, l, ns, a, b, c, m, rfl, D, ha, m1, m2, k⟩ := h
    have hu := hu_of hr
    have dv : (m ≠ 0 ∧ m.natAbs < 1073741824) := by omega
    refine ⟨_, pss_cons (ps_if (pt_cmpR op_gt (pe_dget hu (pv 0) pe_str (fun _ _ => rfl)) pe_int (nomark _))
        (pss_cons (ps_asg (pe_tup (pa_cons (pe_dget hu (pv 0) pe_str (fun _ _ => rfl)) (pa_cons (pe_op op_fdivN (pe_dget hu (pv 0) pe_str (fun _ _ => rfl)) (pv 1)) pa_nil)))
            (pg_tup rfl (pgs_cons (pg_name (i := 2) scNext.nd rfl (.inl rfl)) (pgs_cons (pg_sub (pv 0) pe_str (set_d hu)) pgs_nil))))
          (pss_one (ps_ret (pe_op op_modN (pv 2) (pv 1))))) pss_nil)
      (pss_cons (ps_set (i := 3) scNext.nd rfl (.inl rfl) (pe_dget hu (pv 0) pe_str (fun _ _ => rfl)))
      (pss_cons (ps_set (i := 2) scNext.nd rfl (.inl rfl) (pe_ix ix_list (pv 3) (pe_op op_modN (pe_dget hu (pv 0) pe_str (fun _ _ => rfl)) (pe_callB call_len_seq (by rfl) ml PySem.boot_len (pa_cons (pv 3) pa_nil))) (fun _ _ => rfl)))
      (pss_cons (ps_dput hu (pv 0) pe_str (pe_op op_add (pe_dget hu (pv 0) pe_str (fun _ _ => rfl)) pe_int) rfl)
      (pss_cons (ps_if (PW.pt (pw_and (pt_cmpR op_ge (pv 2) (pe_op op_pow pe_int pe_int) (nomark _)) (pw_and1 (pt_cmpR op_le (pe_dget hu (pv 0) pe_str (fun _ _ => rfl)) (pe_callB call_len_seq (by rfl) ml PySem.boot_len (pa_cons (pv 3) pa_nil)) (nomark _)))))
        (pss_cons (ps_dput hu (pv 0) pe_str (pe_op op_fdivN (pv 2) (pv 1)) rfl) (pss_one (ps_ret (pe_op op_modN (pv 2) (pv 1))))) pss_nil)
      (pss_cons (ps_dput hu (pv 0) pe_str (pe_op op_add (pe_dget hu (pv 0) pe_str (fun _ _ => rfl)) pe_int) rfl)
      (pss_cons (ps_set (i := 4) scNext.nd rfl (.inl rfl) (pe_op op_add (pe_op op_modN (pv 2) pe_int) (pe_op op_mul (pe_op op_mul pe_int (pe_dget hu (pv 0) pe_str (fun _ _ => rfl))) (pe_dget hu (pv 0) pe_str (fun _ _ => rfl)))))
      (pss_cons (ps_for PassesOwn.never rfl (pi_tup (pe_tup (pa_cons (pe_dget hu (pv 0) pe_str (fun _ _ => rfl)) (pa_cons (pe_dget hu (pv 0) pe_str (fun _ _ => rfl)) pa_nil)))) (pg_name (i := 5) scNext.nd rfl (.inl rfl))
        (pss_cons (ps_set (i := 4) scNext.nd rfl (.inl rfl) (pe_op op_modN (pe_op op_mul (pe_op op_add (pe_op op_add (pv 4) (pe_op op_mul pe_int (pv 5))) pe_int) pe_int) pe_int))
          (pss_one (ps_set (i := 4) scNext.nd rfl (.inl rfl) (pe_op op_modN (pe_op op_mul (pv 4) (pe_op op_add pe_int (pe_op op_mul pe_int (pe_op op_modN (pv 5) pe_int)))) pe_int)))))
      (pss_one (ps_ret (pe_op op_modN (pe_op op_fdivN (pv 4) pe_int) (pv 1))))))))))), ?_⟩
    -- if draw["left"] > 0
    refine ⟨_, rfl, d, _, rfl, D.gl, _, _, rfl, rfl, _, rfl, ite2 (fun hc => ?_) (fun hc => ?_)⟩
    · refine ⟨_, rfl, d, _, rfl, D.gl, _, rfl, d, _, rfl, D.gl, _, rfl, _, _, rfl, rfl, dv, (by show 2 ≤ sizeLine; decide), fun t nt => ?_⟩
      have D1 := D.but (same_new (o := .tup [.int b, .int (b.fdiv m)]) nt)
      refine ⟨t, [.int b, .int (b.fdiv m)], rfl, .inl (.inl upd_same), rfl, .int b, [.int (b.fdiv m)], rfl, .int (b.fdiv m), [], rfl, _, rfl, d, _, rfl, D1.pl _, rfl, _, rfl, _, rfl, _, _, rfl, rfl, dv.1, ?_⟩
      obtain ⟨r1, r2⟩ := fmod_in m1 b
      exact k _ a _ c _ r1 r2 ((But.new nt).trans But.at) D1.setL (by omega)
    · -- cells = draw["cells"]; cell = cells[draw["at"] % len(cells)]
      have hlen : 1 ≤ (ns.map V.int).length := by
        rw [List.length_map]
        exact D.l1
      obtain ⟨j, v, ej, hv⟩ := at_fmod hlen a
      obtain ⟨cell, rfl⟩ : ∃ n : Int, v = .int n := by
        rw [List.getElem?_map] at hv
        obtain ⟨n, _, e⟩ := Option.map_eq_some_iff.mp hv
        exact ⟨n, e.symm⟩
      have ix : atI (ns.map V.int) (a.fmod ((ns.map V.int).length : Int)) = some (.int cell) := by
        rw [ej]
        exact atI_nat hv
      refine ⟨_, rfl, d, _, rfl, D.gc, _, rfl, _, rfl, d, _, rfl, D.ga, _, rfl, l, _, rfl, .inl (.inl (.inl D.ls)), _, _, rfl, rfl, (by omega), l, _, _, _, rfl, rfl, .inl (.inl D.ls), ix, ?_⟩
      -- draw["at"] = draw["at"] + 1
      refine ⟨_, rfl, d, _, rfl, D.ga, _, _, rfl, rfl, _, rfl, d, _, rfl, D.pa _, ?_⟩
      have a1 : 0 ≤ a + 1 := by
        have := D.a0
        omega
      have D1 : DrawAt _ d l ns (a + 1) b c := D.setA a1 (by have := D.ua; omega)
      have K1 : But d H (upd H d (.dK (drawD l (a + 1) b c))) := But.at
      -- if cell >= 10 ** 18 and draw["at"] <= len(cells)
      have pw : CPow 10 18 := ⟨by decide, by decide, by decide⟩
      refine ⟨_, rfl, _, _, rfl, rfl, pw, _, _, rfl, rfl, _, rfl, ite2 (fun h1 => ?g1) (fun h1 => ?g2)⟩
      case' g1 => refine ⟨_, rfl, d, _, rfl, D1.ga, _, rfl, l, _, rfl, .inl (.inl (.inl D1.ls)), _, _, rfl, rfl, _, rfl, ite2 (fun h2 => ?g3) (fun h2 => ?g4)⟩
      case g3 =>
        refine ⟨_, rfl, _, rfl, _, _, rfl, rfl, dv, _, rfl, d, _, rfl, D1.pl _, _, rfl, _, rfl, _, _, rfl, rfl, dv.1, ?_⟩
        obtain ⟨r1, r2⟩ := fmod_in m1 cell
        exact k _ (a + 1) _ c _ r1 r2 (K1.trans But.at) D1.setL (by omega)
      all_goals
        -- draw["used"] = draw["used"] + 1; number = ..
        have u1 : 0 ≤ c + 1 ∧ c + 1 ≤ a + 1 := by
          have := D.u0
          have := D.ua
          omega
        have D2 : DrawAt _ d l ns (a + 1) b (c + 1) := D1.setU u1.1 u1.2
        have K2 : But d H _ := K1.trans (But.at (o := .dK (drawD l (a + 1) b (c + 1))))
        refine ⟨_, rfl, d, _, rfl, D1.gu, _, _, rfl, rfl, _, rfl, d, _, rfl, D1.pu _, ?_⟩
        refine ⟨_, rfl, _, _, rfl, rfl, (show (1000000007 : Int) ≠ 0 by decide), _, rfl, d, _, rfl, D2.gu, _, _, rfl, rfl, .inl ⟨by decide, by decide⟩, _, rfl, d, _, rfl, D2.gu, _, _, rfl, rfl, .inr ⟨by omega, by omega⟩, _, _, rfl, rfl, ?_⟩
        -- for k in (draw["at"], draw["used"])
        refine ⟨_, rfl, d, _, rfl, D2.ga, _, rfl, d, _, rfl, D2.gu, (by show 2 ≤ sizeLine; decide), fun t nt => ?_⟩
        have D3 := D2.but (same_new (o := .tup [.int (a + 1), .int (c + 1)]) nt)
        have K3 := K2.trans (But.new (d := d) (o := .tup [.int (a + 1), .int (c + 1)]) nt)
        refine ⟨t, rfl, ⟨_, .inl (.inl upd_same)⟩, for_tup (xs := [.int (a + 1), .int (c + 1)]) (fun _ σ H3 => ∃ (n : Int) (y : Option V), σ = [some (.ref d), some (.int m), some (.int cell), some (.ref l), some (.int n), y] ∧ H3 = _) ⟨_, none, rfl, rfl⟩ (fun i σ H3 _ z => ?_) (fun i x σ H3 hx z => ?_) (fun σ H3 z => ?_)⟩
        · obtain ⟨n, y, _, rfl⟩ := z
          exact .inl (.inl upd_same)
        · obtain ⟨n, y, rfl, rfl⟩ := z
          obtain ⟨q, rfl⟩ : ∃ q : Int, x = .int q := by
            match i, hx with
            | 0, hx => exact ⟨_, (Option.some.inj hx).symm⟩
            | 1, hx => exact ⟨_, (Option.some.inj hx).symm⟩
            | i + 2, hx => cases hx
          obtain ⟨f1, f2⟩ := fmod_in (m := 2147483647) (by decide) ((n + 31 * q + 7) * 48271)
          refine ⟨_, rfl, _, rfl, _, _, rfl, rfl, .inl ⟨by decide, by decide⟩, _, _, rfl, rfl, _, _, rfl, rfl, _, _, rfl, rfl, .inr ⟨by decide, by decide⟩, _, _, rfl, rfl, (show (2147483647 : Int) ≠ 0 by decide), ?_⟩
          refine ⟨_, rfl, _, rfl, _, _, rfl, rfl, (show (1000 : Int) ≠ 0 by decide), _, _, rfl, rfl, .inl ⟨by decide, by decide⟩, _, _, rfl, rfl, _, _, rfl, rfl, .inl ⟨by omega, by omega⟩, _, _, rfl, rfl, (show (2147483629 : Int) ≠ 0 by decide), ?_⟩
          exact ⟨_, _, rfl, rfl⟩
        · obtain ⟨n, y, rfl, rfl⟩ := z
          obtain ⟨r1, r2⟩ := fmod_in m1 (n.fdiv 7)
          refine ⟨_, rfl, _, _, rfl, rfl, ⟨by decide, by decide⟩, _, rfl, _, _, rfl, rfl, dv.1, ?_⟩
          exact k _ (a + 1) b (c + 1) _ r1 r2 K3 D3 (by omega)
theorem scPick : FnScope ["draw", "some"] ["draw", "some"] (defScope sPick) := ⟨rfl, rfl, rfl, by decide +kernel, rfl, by decide +kernel, by decide +kernel⟩
theorem ok_pick {f fN : Addr} {fd fdN : FuncData} (F : Fun K "_law_pick" "_law_pick" sPick f fd) (FN : Fun K "_law_next" "_law_next" sNext fN fdN) (bN : Binds K fdN ["draw", "many_so"] []) (gN : mg "_law_next" = some (.ref fN)) (ml : mg "len" = none) :
    FnOk P w K mg base CX0 2 f fd ["draw", "some"] spPick := by
  have GN : FnOk P w K mg base CX0 1 fN fdN ["draw", "many_so"] spNext := ok_next FN ml
  refine F.ok scPick (fun vs H Q E h => ?_) (fun cdv A outer s H vs Q E hr h => ?_)
  · obtain ⟨d, l, p, ns, a, b, c, xs, rfl, _⟩ := h
    rfl
  · obtain ⟨d, l, p, ns, a, b, c, xs, rfl, D, ha, hp, x1, x2, k⟩ := h
    refine ⟨_, pss_one (ps_ret (pe_ix ix_list (pv 1) (pe_call GN hr (by rfl) gN FN.kp bN .nil pass0 (pa_cons (pv 0) (pa_cons (pe_callB call_len_seq (by rfl) ml PySem.boot_len (pa_cons (pv 1) pa_nil)) pa_nil))) (fun _ _ => rfl))), ?_⟩
    refine ⟨_, rfl, _, rfl, _, rfl, p, xs, rfl, .inl (.inl (.inl hp)), d, l, ns, a, b, c, _, rfl, D, ha, (by omega), (by omega), fun r a' b' c' H' r1 r2 kb D' h' => ?_⟩
    have e : (r.toNat : Int) = r := Int.toNat_of_nonneg r1
    have lt : r.toNat < xs.length := by omega
    have nd : p ≠ d := ne_of hp D.dc (by intro z; cases z)
    have hv : xs[r.toNat]? = some xs[r.toNat] := List.getElem?_eq_getElem lt
    refine ⟨p, xs, r, xs[r.toNat], rfl, rfl, .inl (.inl (kb _ _ hp nd)), ?_, ?_⟩
    · have z := atI_nat hv
      rw [e] at z
      exact z
    · exact k r.toNat _ a' b' c' H' hv kb D' h'
end
end Vf

set_option Elab.async false
set_option linter.all false
set_option maxRecDepth 100000
set_option maxHeartbeats 4000000
namespace Vf
open PySem PySem.Spec PyProof.Rows L2
/-! ## 5. the errors of the package -/
/-- an error of the class at C stands at a -/
def IsEr (H : Hp) (a C : Addr) : Prop := ∃ (dx : Addr) (fs : List (Str × V)), H a = some (exo a C (some dx)) ∧ H dx = some (exd dx fs)
theorem IsEr.same {H H' : Hp} {a C : Addr} (h : IsEr H a C) (s : Same H H') : IsEr H' a C := by
  obtain ⟨dx, fs, h1, h2⟩ := h
  exact ⟨dx, fs, s _ _ h1, s _ _ h2⟩
/-- what an __init__ that keeps its n values promises: ff tells the fields -/
def spI (C : Addr) (n : Nat) (ff : List V → List (Str × V)) : Sp := fun vs H Q _ => ∃ (a : Addr) (ys : List V), vs = .ref a :: ys ∧ ys.length = n ∧ H a = some (exo a C none) ∧
  ∀ (dx : Addr) (H' : Hp), H dx = none → dx ≠ a → H' a = some (exo a C (some dx)) → H' dx = some (exd dx (ff ys)) → (∀ b o, H b = some o → b ≠ a → H' b = some o) → Q .non H'
def fOne (f : Str) : List V → List (Str × V) := fun ys => [(f, ys.headD .non)]
def fTwo (f g : Str) : List V → List (Str × V) := fun ys => [(g, ys.getD 1 .non), (f, ys.headD .non)]
/-! readings that only grow -/
def MonE (t : TE) : Prop := ∀ (σ : L2.St) (H : Hp) (P P' : V → Hp → Prop), t σ H P → (∀ v H1, P v H1 → P' v H1) → t σ H P'
def MonA (t : TA) : Prop := ∀ (σ : L2.St) (H : Hp) (P P' : List V → Hp → Prop), t σ H P → (∀ vs H1, P vs H1 → P' vs H1) → t σ H P'
theorem mVar (i : Nat) : MonE (tVar i) := fun σ H P P' ⟨v, hv, q⟩ k => ⟨v, hv, k _ _ q⟩
theorem mC (v : V) : MonE (tC v) := fun σ H P P' q k => k _ _ q
theorem mNil : MonA tNil := fun σ H P P' q k => k _ _ q
theorem mCons {t : TE} {r : TA} (h1 : MonE t) (h2 : MonA r) : MonA (tCons t r) := fun σ H P P' q k => h1 σ H _ _ q fun v H1 q1 => h2 σ H1 _ _ q1 fun vs H2 q2 => k _ _ q2
section
variable {X : Cx} {x f : Str} {C fI : Addr} {fd : FuncData} {ps ks : List Str} {m n : Nat} {ff : List V → List (Str × V)} {e : Expr} {es : List Expr} {kws : List Keyword} {ta tk : TA} {p p2 p3 : Pos} {g : List Value → List Value → List Value} {re : List V → List V}
/-- X(e, ..).f -/
def tGet (n : Nat) (ff : List V → List (Str × V)) (f : Str) (ta : TA) : TE := fun σ H Q => ta σ H fun vs H1 => vs.length = n ∧ ∃ v, (ff vs).lookup f = some v ∧ ∀ H2, Same H1 H2 → Q v H2
/-- X(e, ..) -/
def tNew (C : Addr) (n : Nat) (ta : TA) : TE := fun σ H Q => ta σ H fun vs H1 => vs.length = n ∧ ∀ a H2, H1 a = none → Same H1 H2 → IsEr H2 a C → Q (.ref a) H2
theorem after_mk {H H' : Hp} {a : Addr} {o : HO} (na : H a = none) (k : ∀ b u, upd H a o b = some u → b ≠ a → H' b = some u) : Same H H' := fun b u h => by
  have ne : b ≠ a := ne_of_none h na
  exact k b u (by rw [upd_ne ne]; exact h) ne
theorem el (Z : EC X.K C) (iC : PySem.W.findIn X.K (.ref C) "__init__" = some (some (.ref fI))) (tI : PySem.W.typeIn X.K (.ref fI) = some (.type "function")) (F : FnOk X.prog X.w X.K X.mg X.base CX0 1 fI fd ps (spI C n ff)) (hb : KBn X.K fd ps (n + 1) [] (fun us _ => us) (fun vs _ => vs))
    (nf : PySem.W.findIn X.K (.ref C) f = some none) (hr : Room 2 X.A) (hg : Gl X x) (hm : X.mg x = some (.ref C)) (ha : PA X (e :: es) ta) (mo : MonA ta) (hn : n ≤ 1000 := by decide) (hdb : (x == ("__debug__" : Str)) = false := by decide)
    (he : starEach (e :: es) X.env = (false, eval e X.env) :: starEach es X.env := by rfl) (hpl : (backTo p2 (starEach es X.env)).any (·.1) = false := by rfl)
    (hat : attributeBase (.Call (.Name x p) (e :: es) [] p2) f X.env (eval (.Call (.Name x p) (e :: es) [] p2) X.env) = eval (.Call (.Name x p) (e :: es) [] p2) X.env := by rfl) : PE X (.Attribute (.Call (.Name x p) (e :: es) [] p2) f p3) (tGet n ff f ta) := by
  refine ⟨fun pins s σ H Q I h => (pe_fd (pe_mk Z iC tI F hr hg hm hb pass0 ha hn hdb he hpl) hat).run pins s σ H Q I (mo σ H _ _ h fun vs H1 ⟨hl, v, hv, k⟩ => ⟨hl, rfl, fun a na => ?_⟩)⟩
  refine ⟨a, vs, rfl, hl, upd_same, fun dx H' nd ne ha' hd' kk => ⟨rfl, a, C, dx, _, v, rfl, Z, nf, ha', hd', hv, k H' (after_mk na kk)⟩⟩
theorem elNew (Z : EC X.K C) (iC : PySem.W.findIn X.K (.ref C) "__init__" = some (some (.ref fI))) (tI : PySem.W.typeIn X.K (.ref fI) = some (.type "function")) (F : FnOk X.prog X.w X.K X.mg X.base CX0 1 fI fd ps (spI C n ff)) (hb : KBn X.K fd ps (n + 1) [] (fun us _ => us) (fun vs _ => vs))
    (hr : Room 2 X.A) (hg : Gl X x) (hm : X.mg x = some (.ref C)) (ha : PA X (e :: es) ta) (mo : MonA ta) (hn : n ≤ 1000 := by decide) (hdb : (x == ("__debug__" : Str)) = false := by decide)
    (he : starEach (e :: es) X.env = (false, eval e X.env) :: starEach es X.env := by rfl) (hpl : (backTo p2 (starEach es X.env)).any (·.1) = false := by rfl) : PE X (.Call (.Name x p) (e :: es) [] p2) (tNew C n ta) := by
  refine ⟨fun pins s σ H Q I h => (pe_mk Z iC tI F hr hg hm hb pass0 ha hn hdb he hpl).run pins s σ H Q I (mo σ H _ _ h fun vs H1 ⟨hl, k⟩ => ⟨hl, rfl, fun a na => ?_⟩)⟩
  refine ⟨a, vs, rfl, hl, upd_same, fun dx H' nd ne ha' hd' kk => ⟨rfl, k a H' na (after_mk na kk) ⟨dx, _, ha', hd'⟩⟩⟩
/-- X(f = e, ..).f -/
def tGetK (m : Nat) (ff : List V → List (Str × V)) (re : List V → List V) (f : Str) (tk : TA) : TE := fun σ H Q => tk σ H fun zs H1 => zs.length = m ∧ ∃ v, (ff (re zs)).lookup f = some v ∧ ∀ H2, Same H1 H2 → Q v H2
theorem elK (Z : EC X.K C) (iC : PySem.W.findIn X.K (.ref C) "__init__" = some (some (.ref fI))) (tI : PySem.W.typeIn X.K (.ref fI) = some (.type "function")) (F : FnOk X.prog X.w X.K X.mg X.base CX0 1 fI fd ps (spI C n ff)) (hb : KBn X.K fd ps 1 ks g (fun vs zs => vs ++ re zs)) (hre : ∀ zs : List V, zs.length = ks.length → (re zs).length = n)
    (nf : PySem.W.findIn X.K (.ref C) f = some none) (hr : Room 2 X.A) (hg : Gl X x) (hm : X.mg x = some (.ref C)) (hkw : PK X kws tk) (mo : MonA tk) (hall : (backToKw p2 (keywordEach kws X.env)).all (·.1.isSome) = true := by rfl) (hks : (backToKw p2 (keywordEach kws X.env)).filterMap (·.1) = ks := by rfl)
    (hdb : (x == ("__debug__" : Str)) = false := by decide) (hpl : ((backTo p2 (starEach [] X.env)).any (·.1) || (backToKw p2 (keywordEach kws X.env)).any (·.1.isNone)) = false := by rfl)
    (hat : attributeBase (.Call (.Name x p) [] kws p2) f X.env (eval (.Call (.Name x p) [] kws p2) X.env) = eval (.Call (.Name x p) [] kws p2) X.env := by rfl) : PE X (.Attribute (.Call (.Name x p) [] kws p2) f p3) (tGetK ks.length ff re f tk) := by
  refine ⟨fun pins s σ H Q I h => (pe_fd (pe_mkK Z iC tI F hr hg hm hb pass0 hkw hall hks hdb hpl) hat).run pins s σ H Q I (mo σ H _ _ h fun zs H1 ⟨hl, v, hv, k⟩ => ⟨rfl, hl, fun a na => ?_⟩)⟩
  refine ⟨a, re zs, rfl, hre zs hl, upd_same, fun dx H' nd ne ha' hd' kk => ⟨rfl, a, C, dx, _, v, rfl, Z, nf, ha', hd', hv, k H' (after_mk na kk)⟩⟩
end
theorem vals_rev : ∀ {vs : List V} {us : List Value}, Vals vs us → Vals vs.reverse us.reverse
  | _, _, .nil => .nil
  | _, _, .cons r t => by
    rw [List.reverse_cons, List.reverse_cons]
    exact (vals_rev t).append (.cons r .nil)
section
variable {P : Program} {w : World} {K : PySem.W.Frag} {mg : Str → Option Value} {base : Heap} {f C : Addr} {fd : FuncData}
abbrev sI0 : Stmt := inClass (topS 2) 0
theorem scI0 : FnScope ["self", "place"] ["self", "place"] (defScope sI0) := ⟨rfl, rfl, rfl, by decide +kernel, rfl, by decide +kernel, by decide +kernel⟩
theorem okI0 (F : Fun K "__init__" "BadDrawing.__init__" sI0 f fd) (Z : EC K C) (t1 : PySem.W.takerIn K C "place" = some none) : FnOk P w K mg base CX0 1 f fd ["self", "place"] (spI C 1 (fOne "place")) := by
  refine F.ok scI0 (fun vs H Q E h => ?_) (fun cdv A outer s H vs Q E hr h => ?_)
  · obtain ⟨a, ys, rfl, hl, _⟩ := h
    show ys.length + 1 = 2
    omega
  · obtain ⟨a, ys, rfl, hl, ha, k⟩ := h
    obtain ⟨y, rfl⟩ := List.length_eq_one_iff.mp hl
    refine ⟨_, pss_one (ps_st (pv 0) (pv 1)), _, rfl, _, rfl, a, C, rfl, Z, t1, .inl ⟨ha, fun dx nd ne => ?_⟩⟩
    refine k dx _ nd ne (by rw [upd_ne ne.symm, upd_same]) upd_same fun b u h hb => ?_
    rw [upd_ne (ne_of_none h nd), upd_ne hb]
    exact h
theorem kb0 (F : Fun K "__init__" "BadDrawing.__init__" sI0 f fd) : KBn K fd ["self", "place"] 2 [] (fun us _ => us) (fun vs _ => vs) := by
  obtain ⟨oc, od, kV, doc, pm, an, cdv, ct, osl, rfl, lk, hcd⟩ := F.ex
  exact ⟨fun s us ws _ l1 l2 => match us, ws, l1, l2 with | [_, _], [], _, _ => .of_eq rfl, fun r _ => r⟩
theorem kk0 (F : Fun K "__init__" "BadDrawing.__init__" sI0 f fd) : KBn K fd ["self", "place"] 1 ["place"] (fun us ws => us ++ ws) (fun vs zs => vs ++ zs) := by
  obtain ⟨oc, od, kV, doc, pm, an, cdv, ct, osl, rfl, lk, hcd⟩ := F.ex
  exact ⟨fun s us ws _ l1 l2 => match us, ws, l1, l2 with | [_], [_], _, _ => .of_eq rfl, fun r r2 => r.append r2⟩
abbrev sI1 : Stmt := inClass (topS 3) 0
theorem scI1 : FnScope ["self", "number"] ["self", "number"] (defScope sI1) := ⟨rfl, rfl, rfl, by decide +kernel, rfl, by decide +kernel, by decide +kernel⟩
theorem okI1 (F : Fun K "__init__" "BadCompany.__init__" sI1 f fd) (Z : EC K C) (t1 : PySem.W.takerIn K C "number" = some none) : FnOk P w K mg base CX0 1 f fd ["self", "number"] (spI C 1 (fOne "number")) := by
  refine F.ok scI1 (fun vs H Q E h => ?_) (fun cdv A outer s H vs Q E hr h => ?_)
  · obtain ⟨a, ys, rfl, hl, _⟩ := h
    show ys.length + 1 = 2
    omega
  · obtain ⟨a, ys, rfl, hl, ha, k⟩ := h
    obtain ⟨y, rfl⟩ := List.length_eq_one_iff.mp hl
    refine ⟨_, pss_one (ps_st (pv 0) (pv 1)), _, rfl, _, rfl, a, C, rfl, Z, t1, .inl ⟨ha, fun dx nd ne => ?_⟩⟩
    refine k dx _ nd ne (by rw [upd_ne ne.symm, upd_same]) upd_same fun b u h hb => ?_
    rw [upd_ne (ne_of_none h nd), upd_ne hb]
    exact h
theorem kb1 (F : Fun K "__init__" "BadCompany.__init__" sI1 f fd) : KBn K fd ["self", "number"] 2 [] (fun us _ => us) (fun vs _ => vs) := by
  obtain ⟨oc, od, kV, doc, pm, an, cdv, ct, osl, rfl, lk, hcd⟩ := F.ex
  exact ⟨fun s us ws _ l1 l2 => match us, ws, l1, l2 with | [_, _], [], _, _ => .of_eq rfl, fun r _ => r⟩
theorem kk1 (F : Fun K "__init__" "BadCompany.__init__" sI1 f fd) : KBn K fd ["self", "number"] 1 ["number"] (fun us ws => us ++ ws) (fun vs zs => vs ++ zs) := by
  obtain ⟨oc, od, kV, doc, pm, an, cdv, ct, osl, rfl, lk, hcd⟩ := F.ex
  exact ⟨fun s us ws _ l1 l2 => match us, ws, l1, l2 with | [_], [_], _, _ => .of_eq rfl, fun r r2 => r.append r2⟩
abbrev sI2 : Stmt := inClass (topS 4) 0
theorem scI2 : FnScope ["self", "given"] ["self", "given"] (defScope sI2) := ⟨rfl, rfl, rfl, by decide +kernel, rfl, by decide +kernel, by decide +kernel⟩
theorem okI2 (F : Fun K "__init__" "BadMove.__init__" sI2 f fd) (Z : EC K C) (t1 : PySem.W.takerIn K C "given" = some none) : FnOk P w K mg base CX0 1 f fd ["self", "given"] (spI C 1 (fOne "given")) := by
  refine F.ok scI2 (fun vs H Q E h => ?_) (fun cdv A outer s H vs Q E hr h => ?_)
  · obtain ⟨a, ys, rfl, hl, _⟩ := h
    show ys.length + 1 = 2
    omega
  · obtain ⟨a, ys, rfl, hl, ha, k⟩ := h
    obtain ⟨y, rfl⟩ := List.length_eq_one_iff.mp hl
    refine ⟨_, pss_one (ps_st (pv 0) (pv 1)), _, rfl, _, rfl, a, C, rfl, Z, t1, .inl ⟨ha, fun dx nd ne => ?_⟩⟩
    refine k dx _ nd ne (by rw [upd_ne ne.symm, upd_same]) upd_same fun b u h hb => ?_
    rw [upd_ne (ne_of_none h nd), upd_ne hb]
    exact h
theorem kb2 (F : Fun K "__init__" "BadMove.__init__" sI2 f fd) : KBn K fd ["self", "given"] 2 [] (fun us _ => us) (fun vs _ => vs) := by
  obtain ⟨oc, od, kV, doc, pm, an, cdv, ct, osl, rfl, lk, hcd⟩ := F.ex
  exact ⟨fun s us ws _ l1 l2 => match us, ws, l1, l2 with | [_, _], [], _, _ => .of_eq rfl, fun r _ => r⟩
theorem kk2 (F : Fun K "__init__" "BadMove.__init__" sI2 f fd) : KBn K fd ["self", "given"] 1 ["given"] (fun us ws => us ++ ws) (fun vs zs => vs ++ zs) := by
  obtain ⟨oc, od, kV, doc, pm, an, cdv, ct, osl, rfl, lk, hcd⟩ := F.ex
  exact ⟨fun s us ws _ l1 l2 => match us, ws, l1, l2 with | [_], [_], _, _ => .of_eq rfl, fun r r2 => r.append r2⟩
abbrev sI3 : Stmt := inClass (topS 5) 0
theorem scI3 : FnScope ["self", "given"] ["self", "given"] (defScope sI3) := ⟨rfl, rfl, rfl, by decide +kernel, rfl, by decide +kernel, by decide +kernel⟩
theorem okI3 (F : Fun K "__init__" "BadNumber.__init__" sI3 f fd) (Z : EC K C) (t1 : PySem.W.takerIn K C "given" = some none) : FnOk P w K mg base CX0 1 f fd ["self", "given"] (spI C 1 (fOne "given")) := by
  refine F.ok scI3 (fun vs H Q E h => ?_) (fun cdv A outer s H vs Q E hr h => ?_)
  · obtain ⟨a, ys, rfl, hl, _⟩ := h
    show ys.length + 1 = 2
    omega
  · obtain ⟨a, ys, rfl, hl, ha, k⟩ := h
    obtain ⟨y, rfl⟩ := List.length_eq_one_iff.mp hl
    refine ⟨_, pss_one (ps_st (pv 0) (pv 1)), _, rfl, _, rfl, a, C, rfl, Z, t1, .inl ⟨ha, fun dx nd ne => ?_⟩⟩
    refine k dx _ nd ne (by rw [upd_ne ne.symm, upd_same]) upd_same fun b u h hb => ?_
    rw [upd_ne (ne_of_none h nd), upd_ne hb]
    exact h
theorem kb3 (F : Fun K "__init__" "BadNumber.__init__" sI3 f fd) : KBn K fd ["self", "given"] 2 [] (fun us _ => us) (fun vs _ => vs) := by
  obtain ⟨oc, od, kV, doc, pm, an, cdv, ct, osl, rfl, lk, hcd⟩ := F.ex
  exact ⟨fun s us ws _ l1 l2 => match us, ws, l1, l2 with | [_, _], [], _, _ => .of_eq rfl, fun r _ => r⟩
theorem kk3 (F : Fun K "__init__" "BadNumber.__init__" sI3 f fd) : KBn K fd ["self", "given"] 1 ["given"] (fun us ws => us ++ ws) (fun vs zs => vs ++ zs) := by
  obtain ⟨oc, od, kV, doc, pm, an, cdv, ct, osl, rfl, lk, hcd⟩ := F.ex
  exact ⟨fun s us ws _ l1 l2 => match us, ws, l1, l2 with | [_], [_], _, _ => .of_eq rfl, fun r r2 => r.append r2⟩
abbrev sI4 : Stmt := inClass (topS 6) 0
theorem scI4 : FnScope ["self", "given"] ["self", "given"] (defScope sI4) := ⟨rfl, rfl, rfl, by decide +kernel, rfl, by decide +kernel, by decide +kernel⟩
theorem okI4 (F : Fun K "__init__" "BadPoint.__init__" sI4 f fd) (Z : EC K C) (t1 : PySem.W.takerIn K C "given" = some none) : FnOk P w K mg base CX0 1 f fd ["self", "given"] (spI C 1 (fOne "given")) := by
  refine F.ok scI4 (fun vs H Q E h => ?_) (fun cdv A outer s H vs Q E hr h => ?_)
  · obtain ⟨a, ys, rfl, hl, _⟩ := h
    show ys.length + 1 = 2
    omega
  · obtain ⟨a, ys, rfl, hl, ha, k⟩ := h
    obtain ⟨y, rfl⟩ := List.length_eq_one_iff.mp hl
    refine ⟨_, pss_one (ps_st (pv 0) (pv 1)), _, rfl, _, rfl, a, C, rfl, Z, t1, .inl ⟨ha, fun dx nd ne => ?_⟩⟩
    refine k dx _ nd ne (by rw [upd_ne ne.symm, upd_same]) upd_same fun b u h hb => ?_
    rw [upd_ne (ne_of_none h nd), upd_ne hb]
    exact h
theorem kb4 (F : Fun K "__init__" "BadPoint.__init__" sI4 f fd) : KBn K fd ["self", "given"] 2 [] (fun us _ => us) (fun vs _ => vs) := by
  obtain ⟨oc, od, kV, doc, pm, an, cdv, ct, osl, rfl, lk, hcd⟩ := F.ex
  exact ⟨fun s us ws _ l1 l2 => match us, ws, l1, l2 with | [_, _], [], _, _ => .of_eq rfl, fun r _ => r⟩
theorem kk4 (F : Fun K "__init__" "BadPoint.__init__" sI4 f fd) : KBn K fd ["self", "given"] 1 ["given"] (fun us ws => us ++ ws) (fun vs zs => vs ++ zs) := by
  obtain ⟨oc, od, kV, doc, pm, an, cdv, ct, osl, rfl, lk, hcd⟩ := F.ex
  exact ⟨fun s us ws _ l1 l2 => match us, ws, l1, l2 with | [_], [_], _, _ => .of_eq rfl, fun r r2 => r.append r2⟩
abbrev sI5 : Stmt := inClass (topS 7) 0
theorem scI5 : FnScope ["self", "given"] ["self", "given"] (defScope sI5) := ⟨rfl, rfl, rfl, by decide +kernel, rfl, by decide +kernel, by decide +kernel⟩
theorem okI5 (F : Fun K "__init__" "BadStep.__init__" sI5 f fd) (Z : EC K C) (t1 : PySem.W.takerIn K C "given" = some none) : FnOk P w K mg base CX0 1 f fd ["self", "given"] (spI C 1 (fOne "given")) := by
  refine F.ok scI5 (fun vs H Q E h => ?_) (fun cdv A outer s H vs Q E hr h => ?_)
  · obtain ⟨a, ys, rfl, hl, _⟩ := h
    show ys.length + 1 = 2
    omega
  · obtain ⟨a, ys, rfl, hl, ha, k⟩ := h
    obtain ⟨y, rfl⟩ := List.length_eq_one_iff.mp hl
    refine ⟨_, pss_one (ps_st (pv 0) (pv 1)), _, rfl, _, rfl, a, C, rfl, Z, t1, .inl ⟨ha, fun dx nd ne => ?_⟩⟩
    refine k dx _ nd ne (by rw [upd_ne ne.symm, upd_same]) upd_same fun b u h hb => ?_
    rw [upd_ne (ne_of_none h nd), upd_ne hb]
    exact h
theorem kb5 (F : Fun K "__init__" "BadStep.__init__" sI5 f fd) : KBn K fd ["self", "given"] 2 [] (fun us _ => us) (fun vs _ => vs) := by
  obtain ⟨oc, od, kV, doc, pm, an, cdv, ct, osl, rfl, lk, hcd⟩ := F.ex
  exact ⟨fun s us ws _ l1 l2 => match us, ws, l1, l2 with | [_, _], [], _, _ => .of_eq rfl, fun r _ => r⟩
theorem kk5 (F : Fun K "__init__" "BadStep.__init__" sI5 f fd) : KBn K fd ["self", "given"] 1 ["given"] (fun us ws => us ++ ws) (fun vs zs => vs ++ zs) := by
  obtain ⟨oc, od, kV, doc, pm, an, cdv, ct, osl, rfl, lk, hcd⟩ := F.ex
  exact ⟨fun s us ws _ l1 l2 => match us, ws, l1, l2 with | [_], [_], _, _ => .of_eq rfl, fun r r2 => r.append r2⟩
abbrev sI6 : Stmt := inClass (topS 8) 0
theorem scI6 : FnScope ["self", "part"] ["self", "part"] (defScope sI6) := ⟨rfl, rfl, rfl, by decide +kernel, rfl, by decide +kernel, by decide +kernel⟩
theorem okI6 (F : Fun K "__init__" "BadPaper.__init__" sI6 f fd) (Z : EC K C) (t1 : PySem.W.takerIn K C "part" = some none) : FnOk P w K mg base CX0 1 f fd ["self", "part"] (spI C 1 (fOne "part")) := by
  refine F.ok scI6 (fun vs H Q E h => ?_) (fun cdv A outer s H vs Q E hr h => ?_)
  · obtain ⟨a, ys, rfl, hl, _⟩ := h
    show ys.length + 1 = 2
    omega
  · obtain ⟨a, ys, rfl, hl, ha, k⟩ := h
    obtain ⟨y, rfl⟩ := List.length_eq_one_iff.mp hl
    refine ⟨_, pss_one (ps_st (pv 0) (pv 1)), _, rfl, _, rfl, a, C, rfl, Z, t1, .inl ⟨ha, fun dx nd ne => ?_⟩⟩
    refine k dx _ nd ne (by rw [upd_ne ne.symm, upd_same]) upd_same fun b u h hb => ?_
    rw [upd_ne (ne_of_none h nd), upd_ne hb]
    exact h
theorem kb6 (F : Fun K "__init__" "BadPaper.__init__" sI6 f fd) : KBn K fd ["self", "part"] 2 [] (fun us _ => us) (fun vs _ => vs) := by
  obtain ⟨oc, od, kV, doc, pm, an, cdv, ct, osl, rfl, lk, hcd⟩ := F.ex
  exact ⟨fun s us ws _ l1 l2 => match us, ws, l1, l2 with | [_, _], [], _, _ => .of_eq rfl, fun r _ => r⟩
theorem kk6 (F : Fun K "__init__" "BadPaper.__init__" sI6 f fd) : KBn K fd ["self", "part"] 1 ["part"] (fun us ws => us ++ ws) (fun vs zs => vs ++ zs) := by
  obtain ⟨oc, od, kV, doc, pm, an, cdv, ct, osl, rfl, lk, hcd⟩ := F.ex
  exact ⟨fun s us ws _ l1 l2 => match us, ws, l1, l2 with | [_], [_], _, _ => .of_eq rfl, fun r r2 => r.append r2⟩
abbrev sI7 : Stmt := inClass (topS 9) 0
theorem scI7 : FnScope ["self", "number"] ["self", "number"] (defScope sI7) := ⟨rfl, rfl, rfl, by decide +kernel, rfl, by decide +kernel, by decide +kernel⟩
theorem okI7 (F : Fun K "__init__" "BadLog.__init__" sI7 f fd) (Z : EC K C) (t1 : PySem.W.takerIn K C "number" = some none) : FnOk P w K mg base CX0 1 f fd ["self", "number"] (spI C 1 (fOne "number")) := by
  refine F.ok scI7 (fun vs H Q E h => ?_) (fun cdv A outer s H vs Q E hr h => ?_)
  · obtain ⟨a, ys, rfl, hl, _⟩ := h
    show ys.length + 1 = 2
    omega
  · obtain ⟨a, ys, rfl, hl, ha, k⟩ := h
    obtain ⟨y, rfl⟩ := List.length_eq_one_iff.mp hl
    refine ⟨_, pss_one (ps_st (pv 0) (pv 1)), _, rfl, _, rfl, a, C, rfl, Z, t1, .inl ⟨ha, fun dx nd ne => ?_⟩⟩
    refine k dx _ nd ne (by rw [upd_ne ne.symm, upd_same]) upd_same fun b u h hb => ?_
    rw [upd_ne (ne_of_none h nd), upd_ne hb]
    exact h
theorem kb7 (F : Fun K "__init__" "BadLog.__init__" sI7 f fd) : KBn K fd ["self", "number"] 2 [] (fun us _ => us) (fun vs _ => vs) := by
  obtain ⟨oc, od, kV, doc, pm, an, cdv, ct, osl, rfl, lk, hcd⟩ := F.ex
  exact ⟨fun s us ws _ l1 l2 => match us, ws, l1, l2 with | [_, _], [], _, _ => .of_eq rfl, fun r _ => r⟩
theorem kk7 (F : Fun K "__init__" "BadLog.__init__" sI7 f fd) : KBn K fd ["self", "number"] 1 ["number"] (fun us ws => us ++ ws) (fun vs zs => vs ++ zs) := by
  obtain ⟨oc, od, kV, doc, pm, an, cdv, ct, osl, rfl, lk, hcd⟩ := F.ex
  exact ⟨fun s us ws _ l1 l2 => match us, ws, l1, l2 with | [_], [_], _, _ => .of_eq rfl, fun r r2 => r.append r2⟩
abbrev sI8 : Stmt := inClass (topS 10) 0
theorem scI8 : FnScope ["self", "line", "word"] ["self", "line", "word"] (defScope sI8) := ⟨rfl, rfl, rfl, by decide +kernel, rfl, by decide +kernel, by decide +kernel⟩
theorem okI8 (F : Fun K "__init__" "BadText.__init__" sI8 f fd) (Z : EC K C) (t1 : PySem.W.takerIn K C "line" = some none) (t2 : PySem.W.takerIn K C "word" = some none) : FnOk P w K mg base CX0 1 f fd ["self", "line", "word"] (spI C 2 (fTwo "line" "word")) := by
  refine F.ok scI8 (fun vs H Q E h => ?_) (fun cdv A outer s H vs Q E hr h => ?_)
  · obtain ⟨a, ys, rfl, hl, _⟩ := h
    show ys.length + 1 = 3
    omega
  · obtain ⟨a, ys, rfl, hl, ha, k⟩ := h
    match ys, hl with
    | [y, z], _ =>
      refine ⟨_, pss_cons (ps_st (pv 0) (pv 1)) (pss_one (ps_st (pv 0) (pv 2))), _, rfl, _, rfl, a, C, rfl, Z, t1, .inl ⟨ha, fun dx nd ne => ?_⟩⟩
      refine ⟨_, rfl, _, rfl, a, C, rfl, Z, t2, .inr ⟨dx, _, by rw [upd_ne ne.symm, upd_same], upd_same, (by show 1 ≤ 900; decide), ?_⟩⟩
      refine k dx _ nd ne (by rw [upd_ne ne.symm, upd_ne ne.symm, upd_same]) upd_same fun b u h hb => ?_
      rw [upd_ne (ne_of_none h nd), upd_ne (ne_of_none h nd), upd_ne hb]
      exact h
theorem kb8 (F : Fun K "__init__" "BadText.__init__" sI8 f fd) : KBn K fd ["self", "line", "word"] 3 [] (fun us _ => us) (fun vs _ => vs) := by
  obtain ⟨oc, od, kV, doc, pm, an, cdv, ct, osl, rfl, lk, hcd⟩ := F.ex
  exact ⟨fun s us ws _ l1 l2 => match us, ws, l1, l2 with | [_, _, _], [], _, _ => .of_eq rfl, fun r _ => r⟩
theorem kk8 (F : Fun K "__init__" "BadText.__init__" sI8 f fd) : KBn K fd ["self", "line", "word"] 1 ["word", "line"] (fun us ws => us ++ ws.reverse) (fun vs zs => vs ++ zs.reverse) := by
  obtain ⟨oc, od, kV, doc, pm, an, cdv, ct, osl, rfl, lk, hcd⟩ := F.ex
  exact ⟨fun s us ws _ l1 l2 => match us, ws, l1, l2 with | [_], [_, _], _, _ => .of_eq rfl, fun r r2 => r.append (vals_rev r2)⟩
abbrev sI9 : Stmt := inClass (topS 11) 0
theorem scI9 : FnScope ["self", "most"] ["self", "most"] (defScope sI9) := ⟨rfl, rfl, rfl, by decide +kernel, rfl, by decide +kernel, by decide +kernel⟩
theorem okI9 (F : Fun K "__init__" "TooMany.__init__" sI9 f fd) (Z : EC K C) (t1 : PySem.W.takerIn K C "most" = some none) : FnOk P w K mg base CX0 1 f fd ["self", "most"] (spI C 1 (fOne "most")) := by
  refine F.ok scI9 (fun vs H Q E h => ?_) (fun cdv A outer s H vs Q E hr h => ?_)
  · obtain ⟨a, ys, rfl, hl, _⟩ := h
    show ys.length + 1 = 2
    omega
  · obtain ⟨a, ys, rfl, hl, ha, k⟩ := h
    obtain ⟨y, rfl⟩ := List.length_eq_one_iff.mp hl
    refine ⟨_, pss_one (ps_st (pv 0) (pv 1)), _, rfl, _, rfl, a, C, rfl, Z, t1, .inl ⟨ha, fun dx nd ne => ?_⟩⟩
    refine k dx _ nd ne (by rw [upd_ne ne.symm, upd_same]) upd_same fun b u h hb => ?_
    rw [upd_ne (ne_of_none h nd), upd_ne hb]
    exact h
theorem kb9 (F : Fun K "__init__" "TooMany.__init__" sI9 f fd) : KBn K fd ["self", "most"] 2 [] (fun us _ => us) (fun vs _ => vs) := by
  obtain ⟨oc, od, kV, doc, pm, an, cdv, ct, osl, rfl, lk, hcd⟩ := F.ex
  exact ⟨fun s us ws _ l1 l2 => match us, ws, l1, l2 with | [_, _], [], _, _ => .of_eq rfl, fun r _ => r⟩
theorem kk9 (F : Fun K "__init__" "TooMany.__init__" sI9 f fd) : KBn K fd ["self", "most"] 1 ["most"] (fun us ws => us ++ ws) (fun vs zs => vs ++ zs) := by
  obtain ⟨oc, od, kV, doc, pm, an, cdv, ct, osl, rfl, lk, hcd⟩ := F.ex
  exact ⟨fun s us ws _ l1 l2 => match us, ws, l1, l2 with | [_], [_], _, _ => .of_eq rfl, fun r r2 => r.append r2⟩
abbrev sI10 : Stmt := inClass (topS 12) 0
theorem scI10 : FnScope ["self", "many"] ["self", "many"] (defScope sI10) := ⟨rfl, rfl, rfl, by decide +kernel, rfl, by decide +kernel, by decide +kernel⟩
theorem okI10 (F : Fun K "__init__" "NothingLeft.__init__" sI10 f fd) (Z : EC K C) (t1 : PySem.W.takerIn K C "many" = some none) : FnOk P w K mg base CX0 1 f fd ["self", "many"] (spI C 1 (fOne "many")) := by
  refine F.ok scI10 (fun vs H Q E h => ?_) (fun cdv A outer s H vs Q E hr h => ?_)
  · obtain ⟨a, ys, rfl, hl, _⟩ := h
    show ys.length + 1 = 2
    omega
  · obtain ⟨a, ys, rfl, hl, ha, k⟩ := h
    obtain ⟨y, rfl⟩ := List.length_eq_one_iff.mp hl
    refine ⟨_, pss_one (ps_st (pv 0) (pv 1)), _, rfl, _, rfl, a, C, rfl, Z, t1, .inl ⟨ha, fun dx nd ne => ?_⟩⟩
    refine k dx _ nd ne (by rw [upd_ne ne.symm, upd_same]) upd_same fun b u h hb => ?_
    rw [upd_ne (ne_of_none h nd), upd_ne hb]
    exact h
theorem kb10 (F : Fun K "__init__" "NothingLeft.__init__" sI10 f fd) : KBn K fd ["self", "many"] 2 [] (fun us _ => us) (fun vs _ => vs) := by
  obtain ⟨oc, od, kV, doc, pm, an, cdv, ct, osl, rfl, lk, hcd⟩ := F.ex
  exact ⟨fun s us ws _ l1 l2 => match us, ws, l1, l2 with | [_, _], [], _, _ => .of_eq rfl, fun r _ => r⟩
theorem kk10 (F : Fun K "__init__" "NothingLeft.__init__" sI10 f fd) : KBn K fd ["self", "many"] 1 ["many"] (fun us ws => us ++ ws) (fun vs zs => vs ++ zs) := by
  obtain ⟨oc, od, kV, doc, pm, an, cdv, ct, osl, rfl, lk, hcd⟩ := F.ex
  exact ⟨fun s us ws _ l1 l2 => match us, ws, l1, l2 with | [_], [_], _, _ => .of_eq rfl, fun r r2 => r.append r2⟩
end
end Vf

set_option Elab.async false
set_option linter.all false
set_option maxRecDepth 100000
set_option maxHeartbeats 8000000
namespace Vf
open PySem PySem.Spec PyProof.Rows L2
abbrev sFields : Stmt := topS 17
abbrev sKinds : Stmt := topS 18
/-- an error class of one field, as the top has made it -/
structure EOne (K : PySem.W.Frag) (mg : Str → Option Value) (nm q f : Str) (st : Stmt) (C : Addr) : Prop where
  gm : mg nm = some (.ref C)
  Z : EC K C
  ex : ∃ fI fd, PySem.W.findIn K (.ref C) "__init__" = some (some (.ref fI)) ∧ PySem.W.typeIn K (.ref fI) = some (.type "function") ∧ Fun K "__init__" q st fI fd
  nf : PySem.W.findIn K (.ref C) f = some none
  tk : PySem.W.takerIn K C f = some none
/-- all of them; Cn tells the classes by their numbers -/
structure Errs (K : PySem.W.Frag) (mg : Str → Option Value) (Cn : Nat → Addr) : Prop where
  e0 : EOne K mg "BadDrawing" "BadDrawing.__init__" "place" sI0 (Cn 0)
  e1 : EOne K mg "BadCompany" "BadCompany.__init__" "number" sI1 (Cn 1)
  e2 : EOne K mg "BadMove" "BadMove.__init__" "given" sI2 (Cn 2)
  e3 : EOne K mg "BadNumber" "BadNumber.__init__" "given" sI3 (Cn 3)
  e4 : EOne K mg "BadPoint" "BadPoint.__init__" "given" sI4 (Cn 4)
  e5 : EOne K mg "BadStep" "BadStep.__init__" "given" sI5 (Cn 5)
  e6 : EOne K mg "BadPaper" "BadPaper.__init__" "part" sI6 (Cn 6)
  e7 : EOne K mg "BadLog" "BadLog.__init__" "number" sI7 (Cn 7)
  e8 : EOne K mg "BadText" "BadText.__init__" "line" sI8 (Cn 8)
  e9 : EOne K mg "TooMany" "TooMany.__init__" "most" sI9 (Cn 9)
  e10 : EOne K mg "NothingLeft" "NothingLeft.__init__" "many" sI10 (Cn 10)
  nw : PySem.W.findIn K (.ref (Cn 8)) "word" = some none
  tw : PySem.W.takerIn K (Cn 8) "word" = some none
  ek : ECK K
  kc : ∀ i j, i < 11 → j < 11 → PySem.W.kitOne K (.ref (Cn i)) (.ref (Cn j)) = some (decide (i = j))
  mi : mg "isinstance" = none
  mr : mg "range" = none
/-- _law_fields: what is given, in every field -/
def spFields : Sp := fun vs H Q _ => ∃ o : V, vs = [o] ∧ ∀ (H' : Hp) (p : Addr), Same H H' → H' p = some (.lst (List.replicate 24 o)) → Q (.ref p) H'
/-- _law_kinds_of: the number of the error's class -/
def spKinds (Cn : Nat → Addr) : Sp := fun vs H Q _ => ∃ (a : Addr) (i : Nat), vs = [.ref a] ∧ i < 11 ∧ IsEr H a (Cn i) ∧ ∀ (H' : Hp) (p : Addr), Same H H' → H' p = some (.lst [.int (i : Int)]) → Q (.ref p) H'
section
variable {P : Program} {w : World} {K : PySem.W.Frag} {mg : Str → Option Value} {base : Heap} {f : Addr} {fd : FuncData} {Cn : Nat → Addr}
theorem scFields : FnScope ["odd", "some"] ["odd"] (defScope sFields) := ⟨rfl, rfl, rfl, by decide +kernel, rfl, by decide +kernel, by decide +kernel⟩
theorem ok_fields (F : Fun K "_law_fields" "_law_fields" sFields f fd) (T : Errs K mg Cn) : FnOk P w K mg base CX0 3 f fd ["odd"] spFields := by
  obtain ⟨f0, d0, i0, y0, F0⟩ := T.e0.ex
  have G0 := okI0 (P := P) (w := w) (mg := mg) (base := base) F0 T.e0.Z T.e0.tk
  obtain ⟨f1, d1, i1, y1, F1⟩ := T.e1.ex
  have G1 := okI1 (P := P) (w := w) (mg := mg) (base := base) F1 T.e1.Z T.e1.tk
  obtain ⟨f2, d2, i2, y2, F2⟩ := T.e2.ex
  have G2 := okI2 (P := P) (w := w) (mg := mg) (base := base) F2 T.e2.Z T.e2.tk
  obtain ⟨f3, d3, i3, y3, F3⟩ := T.e3.ex
  have G3 := okI3 (P := P) (w := w) (mg := mg) (base := base) F3 T.e3.Z T.e3.tk
  obtain ⟨f4, d4, i4, y4, F4⟩ := T.e4.ex
  have G4 := okI4 (P := P) (w := w) (mg := mg) (base := base) F4 T.e4.Z T.e4.tk
  obtain ⟨f5, d5, i5, y5, F5⟩ := T.e5.ex
  have G5 := okI5 (P := P) (w := w) (mg := mg) (base := base) F5 T.e5.Z T.e5.tk
  obtain ⟨f6, d6, i6, y6, F6⟩ := T.e6.ex
  have G6 := okI6 (P := P) (w := w) (mg := mg) (base := base) F6 T.e6.Z T.e6.tk
  obtain ⟨f7, d7, i7, y7, F7⟩ := T.e7.ex
  have G7 := okI7 (P := P) (w := w) (mg := mg) (base := base) F7 T.e7.Z T.e7.tk
  obtain ⟨f8, d8, i8, y8, F8⟩ := T.e8.ex
  have G8 := okI8 (P := P) (w := w) (mg := mg) (base := base) F8 T.e8.Z T.e8.tk T.tw
  obtain ⟨f9, d9, i9, y9, F9⟩ := T.e9.ex
  have G9 := okI9 (P := P) (w := w) (mg := mg) (base := base) F9 T.e9.Z T.e9.tk
  obtain ⟨f10, d10, i10, y10, F10⟩ := T.e10.ex
  have G10 := okI10 (P := P) (w := w) (mg := mg) (base := base) F10 T.e10.Z T.e10.tk
  refine F.ok scFields (fun vs H Q E h => ?_) (fun cdv A outer s H vs Q E hr h => ?_)
  · obtain ⟨o, rfl, _⟩ := h
    rfl
  · obtain ⟨o, rfl, k⟩ := h
    refine ⟨_, pss_cons (ps_set (i := 1) scFields.nd rfl (.inl rfl) (pe_lst (pa_cons (el T.e0.Z i0 y0 G0 (kb0 F0) T.e0.nf hr (by rfl) T.e0.gm (pa_cons (pv 0) pa_nil) (mCons (mVar 0) mNil)) (pa_cons (el T.e1.Z i1 y1 G1 (kb1 F1) T.e1.nf hr (by rfl) T.e1.gm (pa_cons (pv 0) pa_nil) (mCons (mVar 0) mNil)) (pa_cons (el T.e2.Z i2 y2 G2 (kb2 F2) T.e2.nf hr (by rfl) T.e2.gm (pa_cons (pv 0) pa_nil) (mCons (mVar 0) mNil)) pa_nil)))))
      (pss_cons (ps_set (i := 1) scFields.nd rfl (.inl rfl) (pe_op op_cat (pv 1) (pe_lst (pa_cons (el T.e3.Z i3 y3 G3 (kb3 F3) T.e3.nf hr (by rfl) T.e3.gm (pa_cons (pv 0) pa_nil) (mCons (mVar 0) mNil)) (pa_cons (el T.e4.Z i4 y4 G4 (kb4 F4) T.e4.nf hr (by rfl) T.e4.gm (pa_cons (pv 0) pa_nil) (mCons (mVar 0) mNil)) pa_nil)))))
      (pss_cons (ps_set (i := 1) scFields.nd rfl (.inl rfl) (pe_op op_cat (pv 1) (pe_lst (pa_cons (el T.e5.Z i5 y5 G5 (kb5 F5) T.e5.nf hr (by rfl) T.e5.gm (pa_cons (pv 0) pa_nil) (mCons (mVar 0) mNil)) (pa_cons (el T.e6.Z i6 y6 G6 (kb6 F6) T.e6.nf hr (by rfl) T.e6.gm (pa_cons (pv 0) pa_nil) (mCons (mVar 0) mNil)) (pa_cons (el T.e7.Z i7 y7 G7 (kb7 F7) T.e7.nf hr (by rfl) T.e7.gm (pa_cons (pv 0) pa_nil) (mCons (mVar 0) mNil)) (pa_cons (el T.e8.Z i8 y8 G8 (kb8 F8) T.e8.nf hr (by rfl) T.e8.gm (pa_cons (pv 0) (pa_cons pe_int pa_nil)) (mCons (mVar 0) (mCons (mC _) mNil))) pa_nil)))))))
      (pss_cons (ps_set (i := 1) scFields.nd rfl (.inl rfl) (pe_op op_cat (pv 1) (pe_lst (pa_cons (el T.e8.Z i8 y8 G8 (kb8 F8) T.nw hr (by rfl) T.e8.gm (pa_cons pe_int (pa_cons (pv 0) pa_nil)) (mCons (mC _) (mCons (mVar 0) mNil))) (pa_cons (el T.e9.Z i9 y9 G9 (kb9 F9) T.e9.nf hr (by rfl) T.e9.gm (pa_cons (pv 0) pa_nil) (mCons (mVar 0) mNil)) (pa_cons (el T.e10.Z i10 y10 G10 (kb10 F10) T.e10.nf hr (by rfl) T.e10.gm (pa_cons (pv 0) pa_nil) (mCons (mVar 0) mNil)) pa_nil))))))
      (pss_cons (ps_set (i := 1) scFields.nd rfl (.inl rfl) (pe_op op_cat (pv 1) (pe_lst (pa_cons (elK (re := fun zs => zs) T.e0.Z i0 y0 G0 (kk0 F0) (fun zs h => h) T.e0.nf hr (by rfl) T.e0.gm (pk_cons (pv 0) pk_nil) (mCons (mVar 0) mNil)) pa_nil))))
      (pss_cons (ps_set (i := 1) scFields.nd rfl (.inl rfl) (pe_op op_cat (pv 1) (pe_lst (pa_cons (elK (re := fun zs => zs) T.e1.Z i1 y1 G1 (kk1 F1) (fun zs h => h) T.e1.nf hr (by rfl) T.e1.gm (pk_cons (pv 0) pk_nil) (mCons (mVar 0) mNil)) (pa_cons (elK (re := fun zs => zs) T.e2.Z i2 y2 G2 (kk2 F2) (fun zs h => h) T.e2.nf hr (by rfl) T.e2.gm (pk_cons (pv 0) pk_nil) (mCons (mVar 0) mNil)) (pa_cons (elK (re := fun zs => zs) T.e3.Z i3 y3 G3 (kk3 F3) (fun zs h => h) T.e3.nf hr (by rfl) T.e3.gm (pk_cons (pv 0) pk_nil) (mCons (mVar 0) mNil)) pa_nil))))))
      (pss_cons (ps_set (i := 1) scFields.nd rfl (.inl rfl) (pe_op op_cat (pv 1) (pe_lst (pa_cons (elK (re := fun zs => zs) T.e4.Z i4 y4 G4 (kk4 F4) (fun zs h => h) T.e4.nf hr (by rfl) T.e4.gm (pk_cons (pv 0) pk_nil) (mCons (mVar 0) mNil)) (pa_cons (elK (re := fun zs => zs) T.e5.Z i5 y5 G5 (kk5 F5) (fun zs h => h) T.e5.nf hr (by rfl) T.e5.gm (pk_cons (pv 0) pk_nil) (mCons (mVar 0) mNil)) (pa_cons (elK (re := fun zs => zs) T.e6.Z i6 y6 G6 (kk6 F6) (fun zs h => h) T.e6.nf hr (by rfl) T.e6.gm (pk_cons (pv 0) pk_nil) (mCons (mVar 0) mNil)) pa_nil))))))
      (pss_cons (ps_set (i := 1) scFields.nd rfl (.inl rfl) (pe_op op_cat (pv 1) (pe_lst (pa_cons (elK (re := fun zs => zs) T.e7.Z i7 y7 G7 (kk7 F7) (fun zs h => h) T.e7.nf hr (by rfl) T.e7.gm (pk_cons (pv 0) pk_nil) (mCons (mVar 0) mNil)) (pa_cons (elK (re := List.reverse) T.e8.Z i8 y8 G8 (kk8 F8) (fun zs h => by rw [List.length_reverse]; exact h) T.nw hr (by rfl) T.e8.gm (pk_cons (pv 0) (pk_cons pe_int pk_nil)) (mCons (mVar 0) (mCons (mC _) mNil))) pa_nil)))))
      (pss_cons (ps_set (i := 1) scFields.nd rfl (.inl rfl) (pe_op op_cat (pv 1) (pe_lst (pa_cons (elK (re := List.reverse) T.e8.Z i8 y8 G8 (kk8 F8) (fun zs h => by rw [List.length_reverse]; exact h) T.e8.nf hr (by rfl) T.e8.gm (pk_cons pe_int (pk_cons (pv 0) pk_nil)) (mCons (mC _) (mCons (mVar 0) mNil))) pa_nil))))
      (pss_one (ps_ret (pe_op op_cat (pv 1) (pe_lst (pa_cons (elK (re := fun zs => zs) T.e9.Z i9 y9 G9 (kk9 F9) (fun zs h => h) T.e9.nf hr (by rfl) T.e9.gm (pk_cons (pv 0) pk_nil) (mCons (mVar 0) mNil)) (pa_cons (elK (re := fun zs => zs) T.e10.Z i10 y10 G10 (kk10 F10) (fun zs h => h) T.e10.nf hr (by rfl) T.e10.gm (pk_cons (pv 0) pk_nil) (mCons (mVar 0) mNil)) pa_nil)))))))))))))), ?_⟩
    refine ⟨_, rfl, rfl, o, rfl, fun H0a s0a => ⟨_, rfl, rfl, o, rfl, fun H0b s0b => ⟨_, rfl, rfl, o, rfl, fun H0c s0c => ⟨(by show 3 ≤ sizeLine; decide), fun b0 nb0 => ?_⟩⟩⟩⟩
    have S0 := s0a.trans (s0b.trans (s0c.trans (same_new (o := .lst (List.replicate 3 o)) nb0)))
    have L0 : upd H0c b0 (.lst (List.replicate 3 o)) b0 = some (.lst (List.replicate 3 o)) := upd_same
    refine ⟨_, rfl, _, rfl, rfl, o, rfl, fun H1a s1a => ⟨_, rfl, rfl, o, rfl, fun H1b s1b => ⟨(by show 2 ≤ sizeLine; decide), fun b1 nb1 => ⟨b0, b1, List.replicate 3 o, List.replicate 2 o, rfl, rfl, (same_new nb1) _ _ (s1b _ _ (s1a _ _ (L0))), upd_same, (by show 3 + 2 ≤ sizeLine; decide), fun q1 nq1 => ?_⟩⟩⟩⟩
    have S1 := S0.trans (s1a.trans (s1b.trans ((same_new (o := .lst (List.replicate 2 o)) nb1).trans (same_new (o := .lst (List.replicate 5 o)) nq1))))
    have L1 : upd (upd H1b b1 (.lst (List.replicate 2 o))) q1 (.lst (List.replicate 5 o)) q1 = some (.lst (List.replicate 5 o)) := upd_same
    refine ⟨_, rfl, _, rfl, rfl, o, rfl, fun H2a s2a => ⟨_, rfl, rfl, o, rfl, fun H2b s2b => ⟨_, rfl, rfl, o, rfl, fun H2c s2c => ⟨_, rfl, rfl, o, rfl, fun H2d s2d => ⟨(by show 4 ≤ sizeLine; decide), fun b2 nb2 => ⟨q1, b2, List.replicate 5 o, List.replicate 4 o, rfl, rfl, (same_new nb2) _ _ (s2d _ _ (s2c _ _ (s2b _ _ (s2a _ _ (L1))))), upd_same, (by show 5 + 4 ≤ sizeLine; decide), fun q2 nq2 => ?_⟩⟩⟩⟩⟩⟩
    have S2 := S1.trans (s2a.trans (s2b.trans (s2c.trans (s2d.trans ((same_new (o := .lst (List.replicate 4 o)) nb2).trans (same_new (o := .lst (List.replicate 9 o)) nq2))))))
    have L2 : upd (upd H2d b2 (.lst (List.replicate 4 o))) q2 (.lst (List.replicate 9 o)) q2 = some (.lst (List.replicate 9 o)) := upd_same
    refine ⟨_, rfl, _, rfl, rfl, o, rfl, fun H3a s3a => ⟨_, rfl, rfl, o, rfl, fun H3b s3b => ⟨_, rfl, rfl, o, rfl, fun H3c s3c => ⟨(by show 3 ≤ sizeLine; decide), fun b3 nb3 => ⟨q2, b3, List.replicate 9 o, List.replicate 3 o, rfl, rfl, (same_new nb3) _ _ (s3c _ _ (s3b _ _ (s3a _ _ (L2)))), upd_same, (by show 9 + 3 ≤ sizeLine; decide), fun q3 nq3 => ?_⟩⟩⟩⟩⟩
    have S3 := S2.trans (s3a.trans (s3b.trans (s3c.trans ((same_new (o := .lst (List.replicate 3 o)) nb3).trans (same_new (o := .lst (List.replicate 12 o)) nq3)))))
    have L3 : upd (upd H3c b3 (.lst (List.replicate 3 o))) q3 (.lst (List.replicate 12 o)) q3 = some (.lst (List.replicate 12 o)) := upd_same
    refine ⟨_, rfl, _, rfl, rfl, o, rfl, fun H4a s4a => ⟨(by show 1 ≤ sizeLine; decide), fun b4 nb4 => ⟨q3, b4, List.replicate 12 o, List.replicate 1 o, rfl, rfl, (same_new nb4) _ _ (s4a _ _ (L3)), upd_same, (by show 12 + 1 ≤ sizeLine; decide), fun q4 nq4 => ?_⟩⟩⟩
    have S4 := S3.trans (s4a.trans ((same_new (o := .lst (List.replicate 1 o)) nb4).trans (same_new (o := .lst (List.replicate 13 o)) nq4)))
    have L4 : upd (upd H4a b4 (.lst (List.replicate 1 o))) q4 (.lst (List.replicate 13 o)) q4 = some (.lst (List.replicate 13 o)) := upd_same
    refine ⟨_, rfl, _, rfl, rfl, o, rfl, fun H5a s5a => ⟨_, rfl, rfl, o, rfl, fun H5b s5b => ⟨_, rfl, rfl, o, rfl, fun H5c s5c => ⟨(by show 3 ≤ sizeLine; decide), fun b5 nb5 => ⟨q4, b5, List.replicate 13 o, List.replicate 3 o, rfl, rfl, (same_new nb5) _ _ (s5c _ _ (s5b _ _ (s5a _ _ (L4)))), upd_same, (by show 13 + 3 ≤ sizeLine; decide), fun q5 nq5 => ?_⟩⟩⟩⟩⟩
    have S5 := S4.trans (s5a.trans (s5b.trans (s5c.trans ((same_new (o := .lst (List.replicate 3 o)) nb5).trans (same_new (o := .lst (List.replicate 16 o)) nq5)))))
    have L5 : upd (upd H5c b5 (.lst (List.replicate 3 o))) q5 (.lst (List.replicate 16 o)) q5 = some (.lst (List.replicate 16 o)) := upd_same
    refine ⟨_, rfl, _, rfl, rfl, o, rfl, fun H6a s6a => ⟨_, rfl, rfl, o, rfl, fun H6b s6b => ⟨_, rfl, rfl, o, rfl, fun H6c s6c => ⟨(by show 3 ≤ sizeLine; decide), fun b6 nb6 => ⟨q5, b6, List.replicate 16 o, List.replicate 3 o, rfl, rfl, (same_new nb6) _ _ (s6c _ _ (s6b _ _ (s6a _ _ (L5)))), upd_same, (by show 16 + 3 ≤ sizeLine; decide), fun q6 nq6 => ?_⟩⟩⟩⟩⟩
    have S6 := S5.trans (s6a.trans (s6b.trans (s6c.trans ((same_new (o := .lst (List.replicate 3 o)) nb6).trans (same_new (o := .lst (List.replicate 19 o)) nq6)))))
    have L6 : upd (upd H6c b6 (.lst (List.replicate 3 o))) q6 (.lst (List.replicate 19 o)) q6 = some (.lst (List.replicate 19 o)) := upd_same
    refine ⟨_, rfl, _, rfl, rfl, o, rfl, fun H7a s7a => ⟨_, rfl, rfl, o, rfl, fun H7b s7b => ⟨(by show 2 ≤ sizeLine; decide), fun b7 nb7 => ⟨q6, b7, List.replicate 19 o, List.replicate 2 o, rfl, rfl, (same_new nb7) _ _ (s7b _ _ (s7a _ _ (L6))), upd_same, (by show 19 + 2 ≤ sizeLine; decide), fun q7 nq7 => ?_⟩⟩⟩⟩
    have S7 := S6.trans (s7a.trans (s7b.trans ((same_new (o := .lst (List.replicate 2 o)) nb7).trans (same_new (o := .lst (List.replicate 21 o)) nq7))))
    have L7 : upd (upd H7b b7 (.lst (List.replicate 2 o))) q7 (.lst (List.replicate 21 o)) q7 = some (.lst (List.replicate 21 o)) := upd_same
    refine ⟨_, rfl, _, rfl, rfl, o, rfl, fun H8a s8a => ⟨(by show 1 ≤ sizeLine; decide), fun b8 nb8 => ⟨q7, b8, List.replicate 21 o, List.replicate 1 o, rfl, rfl, (same_new nb8) _ _ (s8a _ _ (L7)), upd_same, (by show 21 + 1 ≤ sizeLine; decide), fun q8 nq8 => ?_⟩⟩⟩
    have S8 := S7.trans (s8a.trans ((same_new (o := .lst (List.replicate 1 o)) nb8).trans (same_new (o := .lst (List.replicate 22 o)) nq8)))
    have L8 : upd (upd H8a b8 (.lst (List.replicate 1 o))) q8 (.lst (List.replicate 22 o)) q8 = some (.lst (List.replicate 22 o)) := upd_same
    refine ⟨_, rfl, _, rfl, rfl, o, rfl, fun H9a s9a => ⟨_, rfl, rfl, o, rfl, fun H9b s9b => ⟨(by show 2 ≤ sizeLine; decide), fun b9 nb9 => ⟨q8, b9, List.replicate 22 o, List.replicate 2 o, rfl, rfl, (same_new nb9) _ _ (s9b _ _ (s9a _ _ (L8))), upd_same, (by show 22 + 2 ≤ sizeLine; decide), fun q9 nq9 => ?_⟩⟩⟩⟩
    exact k _ q9 (S8.trans (s9a.trans (s9b.trans ((same_new nb9).trans (same_new nq9))))) upd_same
end
end Vf

set_option Elab.async false
set_option linter.all false
set_option maxRecDepth 100000
set_option maxHeartbeats 8000000
namespace Vf
open PySem PySem.Spec PyProof.Rows L2
theorem Errs.Zn {K : PySem.W.Frag} {mg : Str → Option Value} {Cn : Nat → Addr} (T : Errs K mg Cn) : ∀ i, i < 11 → EC K (Cn i)
  | 0, _ => T.e0.Z
  | 1, _ => T.e1.Z
  | 2, _ => T.e2.Z
  | 3, _ => T.e3.Z
  | 4, _ => T.e4.Z
  | 5, _ => T.e5.Z
  | 6, _ => T.e6.Z
  | 7, _ => T.e7.Z
  | 8, _ => T.e8.Z
  | 9, _ => T.e9.Z
  | 10, _ => T.e10.Z
  | n + 11, h => absurd h (by omega)
section
variable {P : Program} {w : World} {K : PySem.W.Frag} {mg : Str → Option Value} {base : Heap} {f : Addr} {fd : FuncData} {Cn : Nat → Addr}
theorem scKinds : FnScope ["e", "some", "k"] ["e"] (defScope sKinds) := ⟨rfl, rfl, rfl, by decide +kernel, rfl, by decide +kernel, by decide +kernel⟩
theorem ok_kinds (F : Fun K "_law_kinds_of" "_law_kinds_of" sKinds f fd) (T : Errs K mg Cn) : FnOk P w K mg base CX0 1 f fd ["e"] (spKinds Cn) := by
  refine F.ok scKinds (fun vs H Q E h => ?_) (fun cdv A outer s H vs Q E hr h => ?_)
  · obtain ⟨a, i, rfl, _⟩ := h
    rfl
  · obtain ⟨a, i, rfl, hi, ⟨dx, fs, e1, e2⟩, k⟩ := h
    refine ⟨_, pss_cons (ps_set (i := 1) scKinds.nd rfl (.inr rfl) (pe_lst (pa_cons (pe_callB call_isX (by rfl) T.mi (by decide +kernel) (pa_cons (pv 0) (pa_cons (pe_glob (v := .ref (Cn 0)) (by rfl) T.e0.gm rfl) pa_nil))) (pa_cons (pe_callB call_isX (by rfl) T.mi (by decide +kernel) (pa_cons (pv 0) (pa_cons (pe_glob (v := .ref (Cn 1)) (by rfl) T.e1.gm rfl) pa_nil))) pa_nil))))
      (pss_cons (ps_set (i := 1) scKinds.nd rfl (.inr rfl) (pe_op op_cat (pv 1) (pe_lst (pa_cons (pe_callB call_isX (by rfl) T.mi (by decide +kernel) (pa_cons (pv 0) (pa_cons (pe_glob (v := .ref (Cn 2)) (by rfl) T.e2.gm rfl) pa_nil))) (pa_cons (pe_callB call_isX (by rfl) T.mi (by decide +kernel) (pa_cons (pv 0) (pa_cons (pe_glob (v := .ref (Cn 3)) (by rfl) T.e3.gm rfl) pa_nil))) pa_nil)))))
      (pss_cons (ps_set (i := 1) scKinds.nd rfl (.inr rfl) (pe_op op_cat (pv 1) (pe_lst (pa_cons (pe_callB call_isX (by rfl) T.mi (by decide +kernel) (pa_cons (pv 0) (pa_cons (pe_glob (v := .ref (Cn 4)) (by rfl) T.e4.gm rfl) pa_nil))) (pa_cons (pe_callB call_isX (by rfl) T.mi (by decide +kernel) (pa_cons (pv 0) (pa_cons (pe_glob (v := .ref (Cn 5)) (by rfl) T.e5.gm rfl) pa_nil))) pa_nil)))))
      (pss_cons (ps_set (i := 1) scKinds.nd rfl (.inr rfl) (pe_op op_cat (pv 1) (pe_lst (pa_cons (pe_callB call_isX (by rfl) T.mi (by decide +kernel) (pa_cons (pv 0) (pa_cons (pe_glob (v := .ref (Cn 6)) (by rfl) T.e6.gm rfl) pa_nil))) (pa_cons (pe_callB call_isX (by rfl) T.mi (by decide +kernel) (pa_cons (pv 0) (pa_cons (pe_glob (v := .ref (Cn 7)) (by rfl) T.e7.gm rfl) pa_nil))) pa_nil)))))
      (pss_cons (ps_set (i := 1) scKinds.nd rfl (.inr rfl) (pe_op op_cat (pv 1) (pe_lst (pa_cons (pe_callB call_isX (by rfl) T.mi (by decide +kernel) (pa_cons (pv 0) (pa_cons (pe_glob (v := .ref (Cn 8)) (by rfl) T.e8.gm rfl) pa_nil))) (pa_cons (pe_callB call_isX (by rfl) T.mi (by decide +kernel) (pa_cons (pv 0) (pa_cons (pe_glob (v := .ref (Cn 9)) (by rfl) T.e9.gm rfl) pa_nil))) (pa_cons (pe_callB call_isX (by rfl) T.mi (by decide +kernel) (pa_cons (pv 0) (pa_cons (pe_glob (v := .ref (Cn 10)) (by rfl) T.e10.gm rfl) pa_nil))) pa_nil))))))
      (pss_one (ps_ret (pe_lc (own := [("k", 2)]) (g := gName 2) (by rfl) scKinds.nd (pi_range1 rfl T.mr (pa_cons pe_int pa_nil)) (blkOk_by (own := [("k", 2)]) (N := ["e", "some", "k"]) (sc := defScope sKinds) (by decide +kernel)) (fun _ _ _ _ _ => pg_name (i := 2) scKinds.nd rfl (Or.inl rfl)) (fun _ _ _ _ _ => pts_one (pt_val (pe_ix (show IxR _ (rIxL K) from ix_list) (pv 1) (pv 2) (fun _ _ => rfl)))) (fun _ _ _ _ _ => pv 2)))))))), ?_⟩
    refine ⟨_, rfl, a, Cn i, some dx, .ref (Cn 0), .ref (Cn 0), decide (i = 0), rfl, (Same.refl _) _ _ e1, T.Zn i hi, T.ek, .own _, T.kc i 0 hi (by decide), (fun d e => ⟨fs, by cases e; exact (Same.refl _) _ _ e2⟩), _, rfl, a, Cn i, some dx, .ref (Cn 1), .ref (Cn 1), decide (i = 1), rfl, (Same.refl _) _ _ e1, T.Zn i hi, T.ek, .own _, T.kc i 1 hi (by decide), (fun d e => ⟨fs, by cases e; exact (Same.refl _) _ _ e2⟩), (by show 2 ≤ sizeLine; decide), fun b0 nb0 => ?_⟩
    have S0 : Same H _ := same_new (o := .lst [.bl (decide (i = 0)), .bl (decide (i = 1))]) nb0
    have L0 : upd H b0 (.lst [.bl (decide (i = 0)), .bl (decide (i = 1))]) b0 = some (.lst [.bl (decide (i = 0)), .bl (decide (i = 1))]) := upd_same
    refine ⟨_, rfl, _, rfl, a, Cn i, some dx, .ref (Cn 2), .ref (Cn 2), decide (i = 2), rfl, S0 _ _ e1, T.Zn i hi, T.ek, .own _, T.kc i 2 hi (by decide), (fun d e => ⟨fs, by cases e; exact S0 _ _ e2⟩), _, rfl, a, Cn i, some dx, .ref (Cn 3), .ref (Cn 3), decide (i = 3), rfl, S0 _ _ e1, T.Zn i hi, T.ek, .own _, T.kc i 3 hi (by decide), (fun d e => ⟨fs, by cases e; exact S0 _ _ e2⟩), (by show 2 ≤ sizeLine; decide), fun b1 nb1 => ⟨b0, b1, [.bl (decide (i = 0)), .bl (decide (i = 1))], [.bl (decide (i = 2)), .bl (decide (i = 3))], rfl, rfl, (same_new nb1) _ _ L0, upd_same, (by show 2 + 2 ≤ sizeLine; decide), fun q1 nq1 => ?_⟩⟩
    have S1 := S0.trans ((same_new (o := .lst [.bl (decide (i = 2)), .bl (decide (i = 3))]) nb1).trans (same_new (o := .lst [.bl (decide (i = 0)), .bl (decide (i = 1)), .bl (decide (i = 2)), .bl (decide (i = 3))]) nq1))
    have L1 : (upd (upd (upd H b0 (.lst [.bl (decide (i = 0)), .bl (decide (i = 1))])) b1 (.lst [.bl (decide (i = 2)), .bl (decide (i = 3))])) q1 (.lst [.bl (decide (i = 0)), .bl (decide (i = 1)), .bl (decide (i = 2)), .bl (decide (i = 3))])) q1 = some (.lst [.bl (decide (i = 0)), .bl (decide (i = 1)), .bl (decide (i = 2)), .bl (decide (i = 3))]) := upd_same
    refine ⟨_, rfl, _, rfl, a, Cn i, some dx, .ref (Cn 4), .ref (Cn 4), decide (i = 4), rfl, S1 _ _ e1, T.Zn i hi, T.ek, .own _, T.kc i 4 hi (by decide), (fun d e => ⟨fs, by cases e; exact S1 _ _ e2⟩), _, rfl, a, Cn i, some dx, .ref (Cn 5), .ref (Cn 5), decide (i = 5), rfl, S1 _ _ e1, T.Zn i hi, T.ek, .own _, T.kc i 5 hi (by decide), (fun d e => ⟨fs, by cases e; exact S1 _ _ e2⟩), (by show 2 ≤ sizeLine; decide), fun b2 nb2 => ⟨q1, b2, [.bl (decide (i = 0)), .bl (decide (i = 1)), .bl (decide (i = 2)), .bl (decide (i = 3))], [.bl (decide (i = 4)), .bl (decide (i = 5))], rfl, rfl, (same_new nb2) _ _ L1, upd_same, (by show 4 + 2 ≤ sizeLine; decide), fun q2 nq2 => ?_⟩⟩
    have S2 := S1.trans ((same_new (o := .lst [.bl (decide (i = 4)), .bl (decide (i = 5))]) nb2).trans (same_new (o := .lst [.bl (decide (i = 0)), .bl (decide (i = 1)), .bl (decide (i = 2)), .bl (decide (i = 3)), .bl (decide (i = 4)), .bl (decide (i = 5))]) nq2))
    have L2 : (upd (upd (upd (upd (upd H b0 (.lst [.bl (decide (i = 0)), .bl (decide (i = 1))])) b1 (.lst [.bl (decide (i = 2)), .bl (decide (i = 3))])) q1 (.lst [.bl (decide (i = 0)), .bl (decide (i = 1)), .bl (decide (i = 2)), .bl (decide (i = 3))])) b2 (.lst [.bl (decide (i = 4)), .bl (decide (i = 5))])) q2 (.lst [.bl (decide (i = 0)), .bl (decide (i = 1)), .bl (decide (i = 2)), .bl (decide (i = 3)), .bl (decide (i = 4)), .bl (decide (i = 5))])) q2 = some (.lst [.bl (decide (i = 0)), .bl (decide (i = 1)), .bl (decide (i = 2)), .bl (decide (i = 3)), .bl (decide (i = 4)), .bl (decide (i = 5))]) := upd_same
    refine ⟨_, rfl, _, rfl, a, Cn i, some dx, .ref (Cn 6), .ref (Cn 6), decide (i = 6), rfl, S2 _ _ e1, T.Zn i hi, T.ek, .own _, T.kc i 6 hi (by decide), (fun d e => ⟨fs, by cases e; exact S2 _ _ e2⟩), _, rfl, a, Cn i, some dx, .ref (Cn 7), .ref (Cn 7), decide (i = 7), rfl, S2 _ _ e1, T.Zn i hi, T.ek, .own _, T.kc i 7 hi (by decide), (fun d e => ⟨fs, by cases e; exact S2 _ _ e2⟩), (by show 2 ≤ sizeLine; decide), fun b3 nb3 => ⟨q2, b3, [.bl (decide (i = 0)), .bl (decide (i = 1)), .bl (decide (i = 2)), .bl (decide (i = 3)), .bl (decide (i = 4)), .bl (decide (i = 5))], [.bl (decide (i = 6)), .bl (decide (i = 7))], rfl, rfl, (same_new nb3) _ _ L2, upd_same, (by show 6 + 2 ≤ sizeLine; decide), fun q3 nq3 => ?_⟩⟩
    have S3 := S2.trans ((same_new (o := .lst [.bl (decide (i = 6)), .bl (decide (i = 7))]) nb3).trans (same_new (o := .lst [.bl (decide (i = 0)), .bl (decide (i = 1)), .bl (decide (i = 2)), .bl (decide (i = 3)), .bl (decide (i = 4)), .bl (decide (i = 5)), .bl (decide (i = 6)), .bl (decide (i = 7))]) nq3))
    have L3 : (upd (upd (upd (upd (upd (upd (upd H b0 (.lst [.bl (decide (i = 0)), .bl (decide (i = 1))])) b1 (.lst [.bl (decide (i = 2)), .bl (decide (i = 3))])) q1 (.lst [.bl (decide (i = 0)), .bl (decide (i = 1)), .bl (decide (i = 2)), .bl (decide (i = 3))])) b2 (.lst [.bl (decide (i = 4)), .bl (decide (i = 5))])) q2 (.lst [.bl (decide (i = 0)), .bl (decide (i = 1)), .bl (decide (i = 2)), .bl (decide (i = 3)), .bl (decide (i = 4)), .bl (decide (i = 5))])) b3 (.lst [.bl (decide (i = 6)), .bl (decide (i = 7))])) q3 (.lst [.bl (decide (i = 0)), .bl (decide (i = 1)), .bl (decide (i = 2)), .bl (decide (i = 3)), .bl (decide (i = 4)), .bl (decide (i = 5)), .bl (decide (i = 6)), .bl (decide (i = 7))])) q3 = some (.lst [.bl (decide (i = 0)), .bl (decide (i = 1)), .bl (decide (i = 2)), .bl (decide (i = 3)), .bl (decide (i = 4)), .bl (decide (i = 5)), .bl (decide (i = 6)), .bl (decide (i = 7))]) := upd_same
    refine ⟨_, rfl, _, rfl, a, Cn i, some dx, .ref (Cn 8), .ref (Cn 8), decide (i = 8), rfl, S3 _ _ e1, T.Zn i hi, T.ek, .own _, T.kc i 8 hi (by decide), (fun d e => ⟨fs, by cases e; exact S3 _ _ e2⟩), _, rfl, a, Cn i, some dx, .ref (Cn 9), .ref (Cn 9), decide (i = 9), rfl, S3 _ _ e1, T.Zn i hi, T.ek, .own _, T.kc i 9 hi (by decide), (fun d e => ⟨fs, by cases e; exact S3 _ _ e2⟩), _, rfl, a, Cn i, some dx, .ref (Cn 10), .ref (Cn 10), decide (i = 10), rfl, S3 _ _ e1, T.Zn i hi, T.ek, .own _, T.kc i 10 hi (by decide), (fun d e => ⟨fs, by cases e; exact S3 _ _ e2⟩), (by show 3 ≤ sizeLine; decide), fun b4 nb4 => ⟨q3, b4, [.bl (decide (i = 0)), .bl (decide (i = 1)), .bl (decide (i = 2)), .bl (decide (i = 3)), .bl (decide (i = 4)), .bl (decide (i = 5)), .bl (decide (i = 6)), .bl (decide (i = 7))], [.bl (decide (i = 8)), .bl (decide (i = 9)), .bl (decide (i = 10))], rfl, rfl, (same_new nb4) _ _ L3, upd_same, (by show 8 + 3 ≤ sizeLine; decide), fun q4 nq4 => ?_⟩⟩
    have S4 := S3.trans ((same_new (o := .lst [.bl (decide (i = 8)), .bl (decide (i = 9)), .bl (decide (i = 10))]) nb4).trans (same_new (o := .lst [.bl (decide (i = 0)), .bl (decide (i = 1)), .bl (decide (i = 2)), .bl (decide (i = 3)), .bl (decide (i = 4)), .bl (decide (i = 5)), .bl (decide (i = 6)), .bl (decide (i = 7)), .bl (decide (i = 8)), .bl (decide (i = 9)), .bl (decide (i = 10))]) nq4))
    have L4 : (upd (upd (upd (upd (upd (upd (upd (upd (upd H b0 (.lst [.bl (decide (i = 0)), .bl (decide (i = 1))])) b1 (.lst [.bl (decide (i = 2)), .bl (decide (i = 3))])) q1 (.lst [.bl (decide (i = 0)), .bl (decide (i = 1)), .bl (decide (i = 2)), .bl (decide (i = 3))])) b2 (.lst [.bl (decide (i = 4)), .bl (decide (i = 5))])) q2 (.lst [.bl (decide (i = 0)), .bl (decide (i = 1)), .bl (decide (i = 2)), .bl (decide (i = 3)), .bl (decide (i = 4)), .bl (decide (i = 5))])) b3 (.lst [.bl (decide (i = 6)), .bl (decide (i = 7))])) q3 (.lst [.bl (decide (i = 0)), .bl (decide (i = 1)), .bl (decide (i = 2)), .bl (decide (i = 3)), .bl (decide (i = 4)), .bl (decide (i = 5)), .bl (decide (i = 6)), .bl (decide (i = 7))])) b4 (.lst [.bl (decide (i = 8)), .bl (decide (i = 9)), .bl (decide (i = 10))])) q4 (.lst [.bl (decide (i = 0)), .bl (decide (i = 1)), .bl (decide (i = 2)), .bl (decide (i = 3)), .bl (decide (i = 4)), .bl (decide (i = 5)), .bl (decide (i = 6)), .bl (decide (i = 7)), .bl (decide (i = 8)), .bl (decide (i = 9)), .bl (decide (i = 10))])) q4 = some (.lst [.bl (decide (i = 0)), .bl (decide (i = 1)), .bl (decide (i = 2)), .bl (decide (i = 3)), .bl (decide (i = 4)), .bl (decide (i = 5)), .bl (decide (i = 6)), .bl (decide (i = 7)), .bl (decide (i = 8)), .bl (decide (i = 9)), .bl (decide (i = 10))]) := upd_same
    refine ⟨11, rfl, by decide, by decide, fun D nD => lc_range (lo := 0) (n := 11) (fun j H3 => Same _ H3 ∧ H3 D = some (.lst (if i < j then [.int (i : Int)] else []))) ⟨same_new nD, upd_same⟩ (fun j H3 hj z => ?_) (fun H3 z => ?_)⟩
    · obtain ⟨z1, z2⟩ := z
      have all : ([.bl (decide (i = 0)), .bl (decide (i = 1)), .bl (decide (i = 2)), .bl (decide (i = 3)), .bl (decide (i = 4)), .bl (decide (i = 5)), .bl (decide (i = 6)), .bl (decide (i = 7)), .bl (decide (i = 8)), .bl (decide (i = 9)), .bl (decide (i = 10))] : List V)[j]? = some (.bl (decide (i = j))) := by
        show ((List.range 11).map fun j => V.bl (decide (i = j)))[j]? = _
        rw [List.getElem?_map, List.getElem?_range hj]
        rfl
      refine ⟨rfl, _, rfl, _, rfl, q4, _, _, _, rfl, rfl, .inl (.inl (z1 _ _ L4)), (by rw [Int.zero_add]; exact atI_nat all), _, rfl, ite2 (fun c => ?_) (fun c => ?_)⟩
      · have c' : i = j := of_decide_eq_true c
        subst c'
        rw [if_neg (Nat.lt_irrefl _)] at z2
        refine ⟨_, rfl, _, z2, (by show 0 < sizeLine; decide), fun b u hb => ?_, ?_⟩
        · rw [upd_ne (ne_of_none hb nD)]
          exact z1 _ _ hb
        · rw [upd_same, if_pos (Nat.lt_succ_self _)]
          show some (HO.lst ([] ++ [V.int (0 + (i : Int))])) = _
          rw [Int.zero_add]
          rfl
      · have c' : ¬ i = j := fun e => c (decide_eq_true e)
        refine ⟨z1, ?_⟩
        rw [z2]
        by_cases lt : i < j
        · rw [if_pos lt, if_pos (by omega)]
        · rw [if_neg lt, if_neg (by omega)]
    · obtain ⟨z1, z2⟩ := z
      rw [if_pos hi] at z2
      exact k _ D (S4.trans z1) z2
end
end Vf

set_option Elab.async false
set_option linter.all false
set_option maxRecDepth 100000
set_option maxHeartbeats 8000000
namespace Vf
open PySem PySem.Spec PyProof.Rows L2
abbrev sLaw : Stmt := topS 19
/-! ### many times the same -/
theorem Ds.rep {K : PySem.W.Frag} {H : Hp} {v : V} {d : PyData} (h : Dd K H v d) : ∀ n : Nat, Ds K H (List.replicate n v) (List.replicate n d)
  | 0 => .nil
  | n + 1 => .cons h (Ds.rep h n)
theorem rep_showable {d : PyData} (h : d.showable = true) : ∀ n : Nat, PyData.showableAll (List.replicate n d) = true
  | 0 => by simp only [List.replicate, PyData.showableAll]
  | n + 1 => by simp only [List.replicate, PyData.showableAll, h, rep_showable h n, Bool.and_self]
theorem rep_depth (d : PyData) : ∀ n : Nat, PyData.depthAll (List.replicate n d) ≤ d.depth
  | 0 => by simp only [List.replicate, PyData.depthAll]; omega
  | n + 1 => by
    have := rep_depth d n
    simp only [List.replicate, PyData.depthAll]
    omega
theorem rep_sum (d : PyData) : ∀ n : Nat, ((PyData.shownAll (List.replicate n d)).map (·.length)).sum = n * d.shown.length
  | 0 => by simp [List.replicate, PyData.shownAll]
  | n + 1 => by
    simp only [List.replicate, PyData.shownAll, List.map_cons, List.sum_cons, rep_sum d n, Nat.succ_mul]
    omega
/-- data that can be shown many times -/
structure Few (K : PySem.W.Frag) (H : Hp) (v : V) (d : PyData) : Prop where
  dd : Dd K H v d
  sh : d.showable = true
  dp : d.depth ≤ 5
  ln : d.shown.length ≤ 100000
theorem Few.list {K : PySem.W.Frag} {H : Hp} {v : V} {d : PyData} (F : Few K H v d) : (PyData.list (List.replicate 24 d)).showable = true ∧ (PyData.list (List.replicate 24 d)).depth ≤ 60 ∧ (PyData.list (List.replicate 24 d)).shown.length ≤ sizeLine := by
  refine ⟨?_, ?_, ?_⟩
  · simp only [PyData.showable]
    exact rep_showable F.sh 24
  · have := rep_depth d 24
    have := F.dp
    simp only [PyData.depth]
    omega
  · simp only [PyData.shown]
    refine Nat.le_trans (listText_len_le _) ?_
    rw [rep_sum, PyData.shownAll_length, List.length_replicate, sizeLine_eq]
    have := F.ln
    omega
/-- a loop over enumerate of a list -/
theorem for_enum {K : PySem.W.Frag} {a : Addr} {xs : List V} {g : TG} {tb : TS} {D : Ends} {σ : L2.St} {H : Hp} (Pv : Nat → L2.St → Hp → Prop) (h0 : Pv 0 σ H) (hl : ∀ i σ H, i ≤ xs.length → Pv i σ H → SqL K H a xs)
    (hs : ∀ (i : Nat) x σ H T, xs[i]? = some x → Pv i σ H → H T = none → g (.ref T) σ (upd H T (.tup [.int (i : Nat), x])) fun σ2 H2 => tb { D with nx := Pv (i + 1), ct := Pv (i + 1), bk := D.nx } σ2 H2) (hd : ∀ σ H, Pv xs.length σ H → D.nx σ H) :
    ∃ W : Nat → Nat → L2.St → Hp → Prop, (∃ m, W 0 m σ H) ∧ ∀ i m σ H, W i m σ H →
      ((Ite K a).stop i H ∧ D.nx σ H) ∨ ((Ite K a).go i H ∧ ∃ N : L2.St → Hp → Prop, (∀ σ' H', N σ' H' → ∃ m', m' < m ∧ W (i + 1) m' σ' H') ∧ ∀ x H', (Ite K a).yld i H x H' → g x σ H' fun σ2 H2 => tb { D with nx := N, ct := N, bk := D.nx } σ2 H2) := by
  refine ⟨fun i m σ H => m + i = xs.length ∧ Pv i σ H, ⟨xs.length, rfl, h0⟩, fun i m σ H z => ?_⟩
  obtain ⟨e, p⟩ := z
  have q := hl i σ H (by omega) p
  cases m with
  | zero =>
    have e' : i = xs.length := by omega
    subst e'
    exact Or.inl ⟨⟨xs, q, Nat.le_refl _⟩, hd σ H p⟩
  | succ m =>
    have lt : i < xs.length := by omega
    have at_ : xs[i]? = some xs[i] := List.getElem?_eq_getElem lt
    refine Or.inr ⟨⟨xs, xs[i], q, at_⟩, Pv (i + 1), fun σ' H' p' => ⟨m, Nat.lt_succ_self _, by omega, p'⟩, fun y H' z => ?_⟩
    obtain ⟨T, x, rfl, nT, rfl, f⟩ := z
    exact hs i x σ H T (f xs q) p nT
/-! ### isinstance of an error without fields -/
def rIsO (K : PySem.W.Frag) : List V → Hp → VK → Prop := fun xs H Q => ∃ (a C : Addr) (c : V) (cv : Value) (b : Bool), xs = [.ref a, c] ∧ H a = some (ExO (.ref C) a) ∧ EC K C ∧ ECK K ∧ ClsV c cv ∧ PySem.W.kitOne K (.ref C) cv = some b ∧ Q (.bl b) H
theorem call_isO {X : Cx} : CallR X (.builtin "isinstance") (rIsO X.K) := by
  intro pins s σ H xs us Q I r h
  obtain ⟨a, C, c, cv, b, rfl, ea, T, Z, k, kk, q⟩ := h
  obtain ⟨u1, u2, rfl, r1, r2⟩ := vals2 r
  cases r1
  have e2 := k.eq r2
  subst e2
  obtain ⟨⟨oe, vs, ho, hz, hd, _⟩, _, _⟩ := I.hok a _ ea
  refine PySem.W.kia_one (kitE T Z) I.kIn ?_ kk (fun z => nomatch z) fun tk => ⟨.bl b, H, I.tok tk, rfl, q⟩
  obtain ⟨oc, od, dt, sl⟩ := oe
  obtain ⟨h1, h2⟩ := hz
  dsimp only at h1 h2 hd
  subst h1 h2 hd
  exact ⟨_, none, ho, rfl, rfl, trivial⟩
/-- what the law's walk asks besides -/
structure LawT (K : PySem.W.Frag) (mg : Str → Option Value) (Cn : Nat → Addr) (CF : Addr) : Prop where
  er : Errs K mg Cn
  gF : mg "FallError" = some (.ref CF)
  zF : EC K CF
  qF : PySem.W.excIn K CF [.type "ValueError", .type "Exception", .type "BaseException", .type "object"] "ValueError.__new__" = true
  kF : ∀ i, i < 11 → PySem.W.kitOne K (.ref (Cn i)) (.ref CF) = some (decide (i < 9))
  kV : ∀ i, i < 11 → PySem.W.kitOne K (.ref (Cn i)) (.type "ValueError") = some (decide (i < 9))
  kO : ∀ i, i < 11 → PySem.W.kitOne K (.ref (Cn i)) (.type "OverflowError") = some (decide (i = 9))
  kR : ∀ i, i < 11 → PySem.W.kitOne K (.ref (Cn i)) (.type "RuntimeError") = some (decide (i = 10))
  kFV : PySem.W.kitOne K (.ref CF) (.type "ValueError") = some true
  mV : mg "ValueError" = none
  mO : mg "OverflowError" = none
  mR : mg "RuntimeError" = none
  mp : mg "repr" = none
  me : mg "enumerate" = none
  ml : mg "len" = none
def spLaw (K : PySem.W.Frag) : Sp := fun vs H Q _ => ∃ (a : Addr) (ns : List Int), vs = [.ref a] ∧ SqL K H a (ns.map V.int) ∧ ns.length ≤ 63 ∧ ∀ H', Q (.bl true) H'
/-! data stays data -/
theorem Same.seqT {K : PySem.W.Frag} {H H' : Hp} {a : Addr} {xs : List V} (e : Same H H') (h : SqT K H a xs) : SqT K H' a xs := by
  rcases h with (h | ⟨o, h⟩) | h
  · exact Or.inl (Or.inl (e _ _ h))
  · exact Or.inl (Or.inr ⟨o, e _ _ h⟩)
  · exact Or.inr h
mutual
theorem Dd.same {K : PySem.W.Frag} {H H' : Hp} (s : Same H H') : ∀ (d : PyData) (v : V), Dd K H v d → Dd K H' v d
  | .none, _, h => by cases h; exact .n0
  | .bool b, _, h => by cases h; exact .b0 b
  | .int i, _, h => by cases h; exact .i0 i
  | .str x, _, h => by cases h; exact .s0 x
  | .list ds, _, h => by
    cases h with
    | l0 hs ha => exact .l0 (L2.Same.seq s hs) (Ds.same s ds _ ha)
  | .tuple ds, _, h => by
    cases h with
    | t0 hs ha => exact .t0 (Same.seqT s hs) (Ds.same s ds _ ha)
  | .dict kvs, _, h => by
    cases h with
    | m0 hm => exact .m0 (s _ _ hm)
theorem Ds.same {K : PySem.W.Frag} {H H' : Hp} (s : Same H H') : ∀ (ds : List PyData) (vs : List V), Ds K H vs ds → Ds K H' vs ds
  | [], _, h => by cases h; exact .nil
  | d :: ds, _, h => by
    cases h with
    | cons h1 h2 => exact .cons (Dd.same s d _ h1) (Ds.same s ds _ h2)
end
/-- what stands while the errors are gone through -/
structure Fra (H : Hp) (d l : Addr) (ns : List Int) (a b c : Int) (er : Addr) (xs : List V) (Cn : Nat → Addr) : Prop where
  dr : DrawAt H d l ns a b c
  ls : H er = some (.lst xs)
  ln : xs.length = 11
  ev : ∀ j x, xs[j]? = some x → ∃ e, x = .ref e ∧ IsEr H e (Cn j)
theorem Fra.same {H H' : Hp} {d l : Addr} {ns : List Int} {a b c : Int} {er : Addr} {xs : List V} {Cn : Nat → Addr} (F : Fra H d l ns a b c er xs Cn) (s : Same H H') : Fra H' d l ns a b c er xs Cn :=
  ⟨F.dr.but s, s _ _ F.ls, F.ln, fun j x h => by
    obtain ⟨e, e1, e2⟩ := F.ev j x h
    exact ⟨e, e1, e2.same s⟩⟩
/-- each odd thing of the menu can be shown -/
theorem odd_few {K : PySem.W.Frag} {H : Hp} {t1 l1 m1 l2 t2 : Addr} (u1 : H t1 = some (.tup [.int 1, .int 2])) (u2 : H l1 = some (.lst [])) (u3 : H m1 = some (.dK [])) (u4 : H l2 = some (.lst [.non])) (u5 : H t2 = some (.tup [.str "x", .ref l2])) :
    ∀ (j : Nat) (v : V), ([.non, .int 5, .bl true, .str "a", .ref t1, .ref l1, .ref m1, .ref t2, .int (-1), .int (10 ^ Int.toNat 29)] : List V)[j]? = some v → ∃ dd, Few K H v dd := by
  intro j v hv
  match j, hv with
  | 0, hv =>
    obtain rfl : V.non = v := Option.some.inj hv
    exact ⟨.none, .n0, by simp only [PyData.showable], by simp only [PyData.depth]; omega, by simp only [PyData.shown]; decide +kernel⟩
  | 1, hv =>
    obtain rfl : V.int 5 = v := Option.some.inj hv
    exact ⟨.int 5, .i0 5, by simp only [PyData.showable]; decide +kernel, by simp only [PyData.depth]; omega, by simp only [PyData.shown]; decide +kernel⟩
  | 2, hv =>
    obtain rfl : V.bl true = v := Option.some.inj hv
    exact ⟨.bool true, .b0 true, by simp only [PyData.showable], by simp only [PyData.depth]; omega, by simp only [PyData.shown]; decide +kernel⟩
  | 3, hv =>
    obtain rfl : V.str "a" = v := Option.some.inj hv
    exact ⟨.str "a", .s0 "a", by simp only [PyData.showable], by simp only [PyData.depth]; omega, by simp only [PyData.shown]; decide +kernel⟩
  | 4, hv =>
    obtain rfl : V.ref t1 = v := Option.some.inj hv
    exact ⟨.tuple [.int 1, .int 2], .t0 (.inl (.inl u1)) (.cons (.i0 1) (.cons (.i0 2) .nil)), by simp only [PyData.showable, PyData.showableAll]; decide +kernel, by simp only [PyData.depth, PyData.depthAll]; omega, by simp only [PyData.shown, PyData.shownAll]; decide +kernel⟩
  | 5, hv =>
    obtain rfl : V.ref l1 = v := Option.some.inj hv
    exact ⟨.list [], .l0 (.inl (.inl u2)) .nil, by simp only [PyData.showable, PyData.showableAll], by simp only [PyData.depth, PyData.depthAll]; omega, by simp only [PyData.shown, PyData.shownAll]; decide +kernel⟩
  | 6, hv =>
    obtain rfl : V.ref m1 = v := Option.some.inj hv
    exact ⟨.dict [], .m0 u3, by simp only [PyData.showable, PyData.showableKv], by simp only [PyData.depth, PyData.depthKv]; omega, by simp only [PyData.shown, PyData.shownKv]; decide +kernel⟩
  | 7, hv =>
    obtain rfl : V.ref t2 = v := Option.some.inj hv
    exact ⟨.tuple [.str "x", .list [.none]], .t0 (.inl (.inl u5)) (.cons (.s0 "x") (.cons (.l0 (.inl (.inl u4)) (.cons .n0 .nil)) .nil)), by simp only [PyData.showable, PyData.showableAll]; decide +kernel, by simp only [PyData.depth, PyData.depthAll]; omega, by simp only [PyData.shown, PyData.shownAll]; decide +kernel⟩
  | 8, hv =>
    obtain rfl : V.int (-1) = v := Option.some.inj hv
    exact ⟨.int (-1), .i0 (-1), by simp only [PyData.showable]; decide +kernel, by simp only [PyData.depth]; omega, by simp only [PyData.shown]; decide +kernel⟩
  | 9, hv =>
    obtain rfl : V.int (10 ^ Int.toNat 29) = v := Option.some.inj hv
    exact ⟨.int (10 ^ Int.toNat 29), .i0 _, by simp only [PyData.showable]; decide +kernel, by simp only [PyData.depth]; omega, by simp only [PyData.shown]; decide +kernel⟩
  | n + 10, hv => exact nomatch hv
section
variable {P : Program} {w : World} {K : PySem.W.Frag} {mg : Str → Option Value} {base : Heap} {f : Addr} {fd : FuncData} {Cn : Nat → Addr} {CF : Addr}
theorem scLaw : FnScope ["script", "draw", "turn", "odd", "errors", "k", "error", "told"] ["script"] (defScope sLaw) := ⟨rfl, rfl, rfl, by decide +kernel, rfl, by decide +kernel, by decide +kernel⟩
theorem ok_law {fB fN fP fF fK : Addr} {bB bN bP bF bK : FuncData} (F : Fun K "law" "law" sLaw f fd) (T : LawT K mg Cn CF)
    (FB : Fun K "_law_begin" "_law_begin" sBegin fB bB) (FN : Fun K "_law_next" "_law_next" sNext fN bN) (FP : Fun K "_law_pick" "_law_pick" sPick fP bP) (FF : Fun K "_law_fields" "_law_fields" sFields fF bF) (FK : Fun K "_law_kinds_of" "_law_kinds_of" sKinds fK bK)
    (gB : mg "_law_begin" = some (.ref fB)) (gN : mg "_law_next" = some (.ref fN)) (gP : mg "_law_pick" = some (.ref fP)) (gF : mg "_law_fields" = some (.ref fF)) (gK : mg "_law_kinds_of" = some (.ref fK)) :
    GOk P w K mg base CX0 4 f fd ["script"] (spLaw K) := by
  have iB := FB.binds (ps := ["script"]) fun _ _ _ _ _ _ us hl => match us, hl with | [_], _ => rfl
  have iN := FN.binds (ps := ["draw", "many_so"]) fun _ _ _ _ _ _ us hl => match us, hl with | [_, _], _ => rfl
  have iP := FP.binds (ps := ["draw", "some"]) fun _ _ _ _ _ _ us hl => match us, hl with | [_, _], _ => rfl
  have iF := FF.binds (ps := ["odd"]) fun _ _ _ _ _ _ us hl => match us, hl with | [_], _ => rfl
  have iK := FK.binds (ps := ["e"]) fun _ _ _ _ _ _ us hl => match us, hl with | [_], _ => rfl
  have GB : FnOk P w K mg base CX0 1 fB bB ["script"] (spBegin K) := ok_begin FB
  have GP : FnOk P w K mg base CX0 2 fP bP ["draw", "some"] spPick := ok_pick FP FN iN gN T.ml
  have GF : FnOk P w K mg base CX0 3 fF bF ["odd"] spFields := ok_fields FF T.er
  have GK : FnOk P w K mg base CX0 1 fK bK ["e"] (spKinds Cn) := ok_kinds FK T.er
  obtain ⟨f0, d0, i0, y0, F0⟩ := T.er.e0.ex
  have G0 := okI0 (P := P) (w := w) (mg := mg) (base := base) F0 T.er.e0.Z T.er.e0.tk
  obtain ⟨f1, d1, i1, y1, F1⟩ := T.er.e1.ex
  have G1 := okI1 (P := P) (w := w) (mg := mg) (base := base) F1 T.er.e1.Z T.er.e1.tk
  obtain ⟨f2, d2, i2, y2, F2⟩ := T.er.e2.ex
  have G2 := okI2 (P := P) (w := w) (mg := mg) (base := base) F2 T.er.e2.Z T.er.e2.tk
  obtain ⟨f3, d3, i3, y3, F3⟩ := T.er.e3.ex
  have G3 := okI3 (P := P) (w := w) (mg := mg) (base := base) F3 T.er.e3.Z T.er.e3.tk
  obtain ⟨f4, d4, i4, y4, F4⟩ := T.er.e4.ex
  have G4 := okI4 (P := P) (w := w) (mg := mg) (base := base) F4 T.er.e4.Z T.er.e4.tk
  obtain ⟨f5, d5, i5, y5, F5⟩ := T.er.e5.ex
  have G5 := okI5 (P := P) (w := w) (mg := mg) (base := base) F5 T.er.e5.Z T.er.e5.tk
  obtain ⟨f6, d6, i6, y6, F6⟩ := T.er.e6.ex
  have G6 := okI6 (P := P) (w := w) (mg := mg) (base := base) F6 T.er.e6.Z T.er.e6.tk
  obtain ⟨f7, d7, i7, y7, F7⟩ := T.er.e7.ex
  have G7 := okI7 (P := P) (w := w) (mg := mg) (base := base) F7 T.er.e7.Z T.er.e7.tk
  obtain ⟨f8, d8, i8, y8, F8⟩ := T.er.e8.ex
  have G8 := okI8 (P := P) (w := w) (mg := mg) (base := base) F8 T.er.e8.Z T.er.e8.tk T.er.tw
  obtain ⟨f9, d9, i9, y9, F9⟩ := T.er.e9.ex
  have G9 := okI9 (P := P) (w := w) (mg := mg) (base := base) F9 T.er.e9.Z T.er.e9.tk
  obtain ⟨f10, d10, i10, y10, F10⟩ := T.er.e10.ex
  have G10 := okI10 (P := P) (w := w) (mg := mg) (base := base) F10 T.er.e10.Z T.er.e10.tk
  refine gok F scLaw (fun vs H Q E h => ?_) (fun cdv A outer s H vs Q E hg hr h => ?_)
  · obtain ⟨a, ns, rfl, _⟩ := h
    rfl
  · obtain ⟨sc, ns, rfl, hS, hlen, k⟩ := h
    have hg : (A.deeper (envOfC "law" (defScope sLaw) s.heap.objs.size f cdv)).guards = some [] := hg
    have hu2 : (A.deeper (envOfC "law" (defScope sLaw) s.heap.objs.size f cdv)).units + 100 < cLine := by
      have := hr.un
      omega
    refine ⟨_, pss_cons (ps_set (i := 1) scLaw.nd rfl (.inl rfl) (pe_call GB (hr.mono (by decide)) (by rfl) gB FB.kp iB .nil pass0 (pa_cons (pv 0) pa_nil)))
      (pss_cons (ps_for PassesOwn.never rfl (pi_range1 rfl T.er.mr (pa_cons pe_int pa_nil)) (pg_name (i := 2) scLaw.nd rfl (.inl rfl))
        (pss_cons (ps_set (i := 3) scLaw.nd rfl (.inl rfl) (pe_call GP (hr.mono (by decide)) (by rfl) gP FP.kp iP .nil pass0 (pa_cons (pv 1) (pa_cons (pe_lst (pa_cons pe_non (pa_cons pe_int (pa_cons pe_bl (pa_cons pe_str (pa_cons (pe_tup (pa_cons pe_int (pa_cons pe_int pa_nil))) (pa_cons (pe_lst pa_nil) (pa_cons pe_dnewK (pa_cons (pe_tup (pa_cons pe_str (pa_cons (pe_lst (pa_cons pe_non pa_nil)) pa_nil))) (pa_cons (pe_un un_neg pe_int) (pa_cons (pe_op op_pow pe_int pe_int) pa_nil))))))))))) pa_nil))))
        (pss_cons (ps_if (pt_cmpR op_ne (pe_callB (call_repr hg hu2) (by rfl) T.mp (by decide +kernel) (pa_cons (pe_call GF hr (by rfl) gF FF.kp iF .nil pass0 (pa_cons (pv 3) pa_nil)) pa_nil)) (pe_callB (call_repr hg hu2) (by rfl) T.mp (by decide +kernel) (pa_cons (pe_op op_rep (pe_lst (pa_cons (pv 3) pa_nil)) pe_int) pa_nil)) (nomark _)) (pss_one (ps_ret pe_bl)) pss_nil)
        (pss_cons (ps_set (i := 4) scLaw.nd rfl (.inl rfl) (pe_lst (pa_cons (elNew T.er.e0.Z i0 y0 G0 (kb0 F0) (hr.mono (by decide)) (by rfl) T.er.e0.gm (pa_cons (pv 3) pa_nil) (mCons (mVar 3) mNil)) (pa_cons (elNew T.er.e1.Z i1 y1 G1 (kb1 F1) (hr.mono (by decide)) (by rfl) T.er.e1.gm (pa_cons (pv 3) pa_nil) (mCons (mVar 3) mNil)) (pa_cons (elNew T.er.e2.Z i2 y2 G2 (kb2 F2) (hr.mono (by decide)) (by rfl) T.er.e2.gm (pa_cons (pv 3) pa_nil) (mCons (mVar 3) mNil)) pa_nil)))))
        (pss_cons (ps_set (i := 4) scLaw.nd rfl (.inl rfl) (pe_op op_cat (pv 4) (pe_lst (pa_cons (elNew T.er.e3.Z i3 y3 G3 (kb3 F3) (hr.mono (by decide)) (by rfl) T.er.e3.gm (pa_cons (pv 3) pa_nil) (mCons (mVar 3) mNil)) (pa_cons (elNew T.er.e4.Z i4 y4 G4 (kb4 F4) (hr.mono (by decide)) (by rfl) T.er.e4.gm (pa_cons (pv 3) pa_nil) (mCons (mVar 3) mNil)) (pa_cons (elNew T.er.e5.Z i5 y5 G5 (kb5 F5) (hr.mono (by decide)) (by rfl) T.er.e5.gm (pa_cons (pv 3) pa_nil) (mCons (mVar 3) mNil)) pa_nil))))))
        (pss_cons (ps_set (i := 4) scLaw.nd rfl (.inl rfl) (pe_op op_cat (pv 4) (pe_lst (pa_cons (elNew T.er.e6.Z i6 y6 G6 (kb6 F6) (hr.mono (by decide)) (by rfl) T.er.e6.gm (pa_cons (pv 3) pa_nil) (mCons (mVar 3) mNil)) (pa_cons (elNew T.er.e7.Z i7 y7 G7 (kb7 F7) (hr.mono (by decide)) (by rfl) T.er.e7.gm (pa_cons (pv 3) pa_nil) (mCons (mVar 3) mNil)) (pa_cons (elNew T.er.e8.Z i8 y8 G8 (kb8 F8) (hr.mono (by decide)) (by rfl) T.er.e8.gm (pa_cons (pv 3) (pa_cons (pv 3) pa_nil)) (mCons (mVar 3) (mCons (mVar 3) mNil))) pa_nil))))))
        (pss_cons (ps_set (i := 4) scLaw.nd rfl (.inl rfl) (pe_op op_cat (pv 4) (pe_lst (pa_cons (elNew T.er.e9.Z i9 y9 G9 (kb9 F9) (hr.mono (by decide)) (by rfl) T.er.e9.gm (pa_cons (pv 3) pa_nil) (mCons (mVar 3) mNil)) (pa_cons (elNew T.er.e10.Z i10 y10 G10 (kb10 F10) (hr.mono (by decide)) (by rfl) T.er.e10.gm (pa_cons (pv 3) pa_nil) (mCons (mVar 3) mNil)) pa_nil)))))
        (pss_one (ps_for PassesOwn.never rfl (pi_enum (by rfl) T.me (pa_cons (pv 4) pa_nil)) (pg_tup rfl (pgs_cons (pg_name (i := 5) scLaw.nd rfl (.inl rfl)) (pgs_cons (pg_name (i := 6) scLaw.nd rfl (.inl rfl)) pgs_nil)))
        (pss_cons (ps_set (i := 7) scLaw.nd rfl (.inl rfl) (pe_lst (pa_cons (pe_callB call_isX (by rfl) T.er.mi (by decide +kernel) (pa_cons (pv 6) (pa_cons (pe_glob (v := .ref CF) (by rfl) T.gF rfl) pa_nil))) (pa_cons (pe_callB call_isX (by rfl) T.er.mi (by decide +kernel) (pa_cons (pv 6) (pa_cons (pe_bltn (v := .ty "ValueError") (u := .type "ValueError") (by rfl) T.mV (by decide +kernel) rfl) pa_nil))) pa_nil))))
        (pss_cons (ps_set (i := 7) scLaw.nd rfl (.inl rfl) (pe_op op_cat (pv 7) (pe_lst (pa_cons (pe_callB call_isX (by rfl) T.er.mi (by decide +kernel) (pa_cons (pv 6) (pa_cons (pe_bltn (v := .ty "OverflowError") (u := .type "OverflowError") (by rfl) T.mO (by decide +kernel) rfl) pa_nil))) (pa_cons (pe_callB call_isX (by rfl) T.er.mi (by decide +kernel) (pa_cons (pv 6) (pa_cons (pe_bltn (v := .ty "RuntimeError") (u := .type "RuntimeError") (by rfl) T.mR (by decide +kernel) rfl) pa_nil))) pa_nil)))))
        (pss_one (ps_if (PW.pt (pw_or (pt_cmpR (op_neD hr.units) (pe_call GK (hr.mono (by decide)) (by rfl) gK FK.kp iK .nil pass0 (pa_cons (pv 6) pa_nil)) (pe_lst (pa_cons (pv 5) pa_nil)) (nomark _)) (pw_or1 (pt_cmpR (op_neD hr.units) (pv 7) (pe_lst (pa_cons (pe_cmpR op_lt (pv 5) pe_int (nomark _)) (pa_cons (pe_cmpR op_lt (pv 5) pe_int (nomark _)) (pa_cons (pe_cmpR op_eq (pv 5) pe_int (nomark _)) (pa_cons (pe_cmpR op_eq (pv 5) pe_int (nomark _)) pa_nil))))) (nomark _))))) (pss_one (ps_ret pe_bl)) pss_nil)))))))))))))
      (pss_one (ps_ret (pe_callB call_isO (by rfl) T.er.mi (by decide +kernel) (pa_cons (pe_exc1 PySem.F.excBase_ValueError T.qF T.gF T.zF.kC (by rfl) pe_str) (pa_cons (pe_bltn (v := .ty "ValueError") (u := .type "ValueError") (by rfl) T.mV (by decide +kernel) rfl) pa_nil)))))), ?_⟩
    refine ⟨_, rfl, sc, ns, rfl, hS, hlen, fun d l H1 s1 nd nl D => ?_⟩
    refine ⟨3, rfl, by decide, by decide, for_range (lo := 0) (n := 3) (fun i σ H3 => ∃ (a b c : Int) (y2 y3 y4 y5 y6 y7 : Option V), σ = [some (.ref sc), some (.ref d), y2, y3, y4, y5, y6, y7] ∧ DrawAt H3 d l (ns ++ [0]) a b c ∧ a ≤ i) ⟨0, 0, 0, none, none, none, none, none, none, rfl, D, Int.le_refl _⟩ (fun i σ H3 hi z => ?_) (fun σ H3 z => ?_)⟩
    · -- a turn
      obtain ⟨a, b, c, y2, y3, y4, y5, y6, y7, rfl, D3, ha⟩ := z
      have pw : CPow 10 29 := ⟨by decide, by decide, by decide⟩
      -- odd = _law_pick(draw, [..])
      refine ⟨_, rfl, (by show 2 ≤ sizeLine; decide), fun t1 nt1 => ⟨(by show 0 ≤ sizeLine; decide), fun l1 nl1 => fun m1 nm1 => ⟨(by show 1 ≤ sizeLine; decide), fun l2 nl2 => ⟨(by show 2 ≤ sizeLine; decide), fun t2 nt2 => ⟨_, rfl, _, _, rfl, rfl, pw, (by show 10 ≤ sizeLine; decide), fun L nL => ?_⟩⟩⟩⟩⟩
      have q1 := same_new (o := .tup [.int 1, .int 2]) nt1
      have q2 := same_new (o := .lst []) nl1
      have q3 := same_new (o := .dK []) nm1
      have q4 := same_new (o := .lst [.non]) nl2
      have q5 := same_new (o := .tup [.str "x", .ref l2]) nt2
      have q6 := same_new (o := .lst [.non, .int 5, .bl true, .str "a", .ref t1, .ref l1, .ref m1, .ref t2, .int (-1), .int (10 ^ Int.toNat 29)]) nL
      have D4 := (((((D3.but q1).but q2).but q3).but q4).but q5).but q6
      refine ⟨d, l, L, ns ++ [0], a, b, c, _, rfl, D4, (by omega), upd_same, (by show 1 ≤ 10; decide), (by show 10 < 536870912; decide), fun j v a' b' c' H' hv kb D' h' => ?_⟩
      have u1 : H' t1 = some (.tup [.int 1, .int 2]) := by
        have z := q6 _ _ (q5 _ _ (q4 _ _ (q3 _ _ (q2 _ _ (upd_same (H := H3) (a := t1) (o := .tup [.int 1, .int 2]))))))
        exact kb _ _ z (ne_of z D4.dc (by intro z; cases z))
      have u2 : H' l1 = some (.lst []) := by
        have z := q6 _ _ (q5 _ _ (q4 _ _ (q3 _ _ (upd_same (H := upd H3 t1 (.tup [.int 1, .int 2])) (a := l1) (o := .lst [])))))
        exact kb _ _ z (ne_of z D4.dc (by intro z; cases z))
      have u3 : H' m1 = some (.dK []) := by
        have z := q6 _ _ (q5 _ _ (q4 _ _ (upd_same (H := upd (upd H3 t1 (.tup [.int 1, .int 2])) l1 (.lst [])) (a := m1) (o := .dK []))))
        exact kb _ _ z (ne_of z D4.dc (by intro z; cases z))
      have u4 : H' l2 = some (.lst [.non]) := by
        have z := q6 _ _ (q5 _ _ (upd_same (H := upd (upd (upd H3 t1 (.tup [.int 1, .int 2])) l1 (.lst [])) m1 (.dK [])) (a := l2) (o := .lst [.non])))
        exact kb _ _ z (ne_of z D4.dc (by intro z; cases z))
      have u5 : H' t2 = some (.tup [.str "x", .ref l2]) := by
        have z := q6 _ _ (upd_same (H := upd (upd (upd (upd H3 t1 (.tup [.int 1, .int 2])) l1 (.lst [])) m1 (.dK [])) l2 (.lst [.non])) (a := t2) (o := .tup [.str "x", .ref l2]))
        exact kb _ _ z (ne_of z D4.dc (by intro z; cases z))
      obtain ⟨dd, Fw⟩ : ∃ dd, Few K H' v dd := odd_few u1 u2 u3 u4 u5 j v hv
      obtain ⟨w1, w2, w3⟩ := Fw.list
      -- if repr(_law_fields(odd)) != repr([odd] * 24)
      refine ⟨_, rfl, v, rfl, fun H4 p s4 hp => ⟨.ref p, _, rfl, .l0 (.inl (.inl hp)) (Ds.rep (Dd.same s4 _ _ Fw.dd) 24), w1, w2, w3, _, rfl, (by show 1 ≤ sizeLine; decide), fun q nq => ⟨q, 24, [v], rfl, rfl, upd_same, by decide, by decide, (by show 1 * 24 ≤ sizeLine; decide), fun r nr => ?_⟩⟩⟩
      have s5 := s4.trans ((same_new (o := .lst [v]) nq).trans (same_new (o := .lst (List.replicate 24 v)) nr))
      refine ⟨.ref r, _, rfl, .l0 (xs := List.replicate 24 v) (.inl (.inl upd_same)) (Ds.rep (Dd.same s5 _ _ Fw.dd) 24), w1, w2, w3, rfl, _, rfl, ite2 (fun cc => absurd cc (by simp)) (fun _ => ?_)⟩
      have D5 := D'.but s5
      refine ⟨_, rfl, rfl, fun x0 HE0 nx0 se0 er0 => ⟨_, rfl, rfl, fun x1 HE1 nx1 se1 er1 => ⟨_, rfl, rfl, fun x2 HE2 nx2 se2 er2 => ⟨(by show 3 ≤ sizeLine; decide), fun eb0 neb0 => ?_⟩⟩⟩⟩
      have sl0 := same_new (o := .lst [.ref x0, .ref x1, .ref x2]) neb0
      have EL0 : (upd HE2 eb0 (.lst [.ref x0, .ref x1, .ref x2])) eb0 = some (.lst [.ref x0, .ref x1, .ref x2]) := upd_same
      refine ⟨_, rfl, _, rfl, rfl, fun x3 HE3 nx3 se3 er3 => ⟨_, rfl, rfl, fun x4 HE4 nx4 se4 er4 => ⟨_, rfl, rfl, fun x5 HE5 nx5 se5 er5 => ⟨(by show 3 ≤ sizeLine; decide), fun eb1 neb1 => ⟨eb0, eb1, [.ref x0, .ref x1, .ref x2], [.ref x3, .ref x4, .ref x5], rfl, rfl, (same_new neb1) _ _ (se5 _ _ (se4 _ _ (se3 _ _ (EL0)))), upd_same, (by show 3 + 3 ≤ sizeLine; decide), fun eq1 neq1 => ?_⟩⟩⟩⟩⟩
      have sl1 := (same_new (o := .lst [.ref x3, .ref x4, .ref x5]) neb1).trans (same_new (o := .lst [.ref x0, .ref x1, .ref x2, .ref x3, .ref x4, .ref x5]) neq1)
      have EL1 : (upd (upd HE5 eb1 (.lst [.ref x3, .ref x4, .ref x5])) eq1 (.lst [.ref x0, .ref x1, .ref x2, .ref x3, .ref x4, .ref x5])) eq1 = some (.lst [.ref x0, .ref x1, .ref x2, .ref x3, .ref x4, .ref x5]) := upd_same
      refine ⟨_, rfl, _, rfl, rfl, fun x6 HE6 nx6 se6 er6 => ⟨_, rfl, rfl, fun x7 HE7 nx7 se7 er7 => ⟨_, rfl, _, rfl, rfl, fun x8 HE8 nx8 se8 er8 => ⟨(by show 3 ≤ sizeLine; decide), fun eb2 neb2 => ⟨eq1, eb2, [.ref x0, .ref x1, .ref x2, .ref x3, .ref x4, .ref x5], [.ref x6, .ref x7, .ref x8], rfl, rfl, (same_new neb2) _ _ (se8 _ _ (se7 _ _ (se6 _ _ (EL1)))), upd_same, (by show 6 + 3 ≤ sizeLine; decide), fun eq2 neq2 => ?_⟩⟩⟩⟩⟩
      have sl2 := (same_new (o := .lst [.ref x6, .ref x7, .ref x8]) neb2).trans (same_new (o := .lst [.ref x0, .ref x1, .ref x2, .ref x3, .ref x4, .ref x5, .ref x6, .ref x7, .ref x8]) neq2)
      have EL2 : (upd (upd HE8 eb2 (.lst [.ref x6, .ref x7, .ref x8])) eq2 (.lst [.ref x0, .ref x1, .ref x2, .ref x3, .ref x4, .ref x5, .ref x6, .ref x7, .ref x8])) eq2 = some (.lst [.ref x0, .ref x1, .ref x2, .ref x3, .ref x4, .ref x5, .ref x6, .ref x7, .ref x8]) := upd_same
      refine ⟨_, rfl, _, rfl, rfl, fun x9 HE9 nx9 se9 er9 => ⟨_, rfl, rfl, fun x10 HE10 nx10 se10 er10 => ⟨(by show 2 ≤ sizeLine; decide), fun eb3 neb3 => ⟨eq2, eb3, [.ref x0, .ref x1, .ref x2, .ref x3, .ref x4, .ref x5, .ref x6, .ref x7, .ref x8], [.ref x9, .ref x10], rfl, rfl, (same_new neb3) _ _ (se10 _ _ (se9 _ _ (EL2))), upd_same, (by show 9 + 2 ≤ sizeLine; decide), fun eq3 neq3 => ?_⟩⟩⟩⟩
      have sl3 := (same_new (o := .lst [.ref x9, .ref x10]) neb3).trans (same_new (o := .lst [.ref x0, .ref x1, .ref x2, .ref x3, .ref x4, .ref x5, .ref x6, .ref x7, .ref x8, .ref x9, .ref x10]) neq3)
      have EL3 : (upd (upd HE10 eb3 (.lst [.ref x9, .ref x10])) eq3 (.lst [.ref x0, .ref x1, .ref x2, .ref x3, .ref x4, .ref x5, .ref x6, .ref x7, .ref x8, .ref x9, .ref x10])) eq3 = some (.lst [.ref x0, .ref x1, .ref x2, .ref x3, .ref x4, .ref x5, .ref x6, .ref x7, .ref x8, .ref x9, .ref x10]) := upd_same
      have D6 := (((((((((((((((D5).but se0).but se1).but se2).but sl0).but se3).but se4).but se5).but sl1).but se6).but se7).but se8).but sl2).but se9).but se10).but sl3
      have Fr : Fra _ d l (ns ++ [0]) a' b' c' eq3 [.ref x0, .ref x1, .ref x2, .ref x3, .ref x4, .ref x5, .ref x6, .ref x7, .ref x8, .ref x9, .ref x10] Cn := ⟨D6, EL3, rfl, fun j x h => match j, h with
        | 0, h => ⟨x0, (Option.some.inj h).symm, ((((((((((((((er0).same se1).same se2).same sl0).same se3).same se4).same se5).same sl1).same se6).same se7).same se8).same sl2).same se9).same se10).same sl3⟩
        | 1, h => ⟨x1, (Option.some.inj h).symm, (((((((((((((er1).same se2).same sl0).same se3).same se4).same se5).same sl1).same se6).same se7).same se8).same sl2).same se9).same se10).same sl3⟩
        | 2, h => ⟨x2, (Option.some.inj h).symm, ((((((((((((er2).same sl0).same se3).same se4).same se5).same sl1).same se6).same se7).same se8).same sl2).same se9).same se10).same sl3⟩
        | 3, h => ⟨x3, (Option.some.inj h).symm, ((((((((((er3).same se4).same se5).same sl1).same se6).same se7).same se8).same sl2).same se9).same se10).same sl3⟩
        | 4, h => ⟨x4, (Option.some.inj h).symm, (((((((((er4).same se5).same sl1).same se6).same se7).same se8).same sl2).same se9).same se10).same sl3⟩
        | 5, h => ⟨x5, (Option.some.inj h).symm, ((((((((er5).same sl1).same se6).same se7).same se8).same sl2).same se9).same se10).same sl3⟩
        | 6, h => ⟨x6, (Option.some.inj h).symm, ((((((er6).same se7).same se8).same sl2).same se9).same se10).same sl3⟩
        | 7, h => ⟨x7, (Option.some.inj h).symm, (((((er7).same se8).same sl2).same se9).same se10).same sl3⟩
        | 8, h => ⟨x8, (Option.some.inj h).symm, ((((er8).same sl2).same se9).same se10).same sl3⟩
        | 9, h => ⟨x9, (Option.some.inj h).symm, ((er9).same se10).same sl3⟩
        | 10, h => ⟨x10, (Option.some.inj h).symm, (er10).same sl3⟩
        | n + 11, h => nomatch h⟩
      -- for k, error in enumerate(errors)
      refine ⟨_, rfl, eq3, [.ref x0, .ref x1, .ref x2, .ref x3, .ref x4, .ref x5, .ref x6, .ref x7, .ref x8, .ref x9, .ref x10], rfl, .inl (.inl EL3), for_enum (xs := [.ref x0, .ref x1, .ref x2, .ref x3, .ref x4, .ref x5, .ref x6, .ref x7, .ref x8, .ref x9, .ref x10]) (fun j σ H6 => ∃ (y5 y6 y7 : Option V), σ = [some (.ref sc), some (.ref d), some (.int (0 + i)), some v, some (.ref eq3), y5, y6, y7] ∧ Fra H6 d l (ns ++ [0]) a' b' c' eq3 [.ref x0, .ref x1, .ref x2, .ref x3, .ref x4, .ref x5, .ref x6, .ref x7, .ref x8, .ref x9, .ref x10] Cn) ⟨_, _, _, rfl, Fr⟩ (fun j σ H6 _ z => ?_) (fun j x σ H6 Tp hx z nT => ?_) (fun σ H6 z => ?_)⟩
      · obtain ⟨_, _, _, _, Fr⟩ := z
        exact .inl (.inl Fr.ls)
      · obtain ⟨y5, y6, y7, rfl, Fr⟩ := z
        have hj : j < 11 := (List.getElem?_eq_some_iff.mp hx).1
        obtain ⟨e, rfl, Er⟩ := Fr.ev j x hx
        refine ⟨Tp, [.int (j : Int), .ref e], rfl, .inl (.inl upd_same), rfl, .int (j : Int), [.ref e], rfl, .ref e, [], rfl, rfl, ?_⟩
        have n1 := same_new (o := .tup [.int (j : Int), .ref e]) nT
        obtain ⟨dx, fs, e1, e2⟩ := Er.same n1
        have Zj := T.er.Zn j hj
        -- told
        refine ⟨_, rfl, e, Cn j, some dx, .ref CF, .ref CF, decide (j < 9), rfl, e1, Zj, T.er.ek, .own _, T.kF j hj, (fun d e => ⟨fs, by cases e; exact e2⟩), _, rfl, e, Cn j, some dx, .ty "ValueError", .type "ValueError", decide (j < 9), rfl, e1, Zj, T.er.ek, .ty _, T.kV j hj, (fun d e => ⟨fs, by cases e; exact e2⟩), (by show 2 ≤ sizeLine; decide), fun b1 nb1 => ?_⟩
        have n2 := same_new (o := .lst [.bl (decide (j < 9)), .bl (decide (j < 9))]) nb1
        refine ⟨_, rfl, _, rfl, e, Cn j, some dx, .ty "OverflowError", .type "OverflowError", decide (j = 9), rfl, n2 _ _ e1, Zj, T.er.ek, .ty _, T.kO j hj, (fun d e => ⟨fs, by cases e; exact n2 _ _ e2⟩), _, rfl, e, Cn j, some dx, .ty "RuntimeError", .type "RuntimeError", decide (j = 10), rfl, n2 _ _ e1, Zj, T.er.ek, .ty _, T.kR j hj, (fun d e => ⟨fs, by cases e; exact n2 _ _ e2⟩), (by show 2 ≤ sizeLine; decide), fun b2 nb2 => ⟨b1, b2, [.bl (decide (j < 9)), .bl (decide (j < 9))], [.bl (decide (j = 9)), .bl (decide (j = 10))], rfl, rfl, (same_new nb2) _ _ upd_same, upd_same, (by show 2 + 2 ≤ sizeLine; decide), fun b3 nb3 => ?_⟩⟩
        have n3 := (same_new (o := .lst [.bl (decide (j = 9)), .bl (decide (j = 10))]) nb2).trans (same_new (o := .lst [.bl (decide (j < 9)), .bl (decide (j < 9)), .bl (decide (j = 9)), .bl (decide (j = 10))]) nb3)
        have L3 : (upd (upd (upd (upd H6 Tp (.tup [.int (j : Int), .ref e])) b1 (.lst [.bl (decide (j < 9)), .bl (decide (j < 9))])) b2 (.lst [.bl (decide (j = 9)), .bl (decide (j = 10))])) b3 (.lst [.bl (decide (j < 9)), .bl (decide (j < 9)), .bl (decide (j = 9)), .bl (decide (j = 10))])) b3 = some (.lst [.bl (decide (j < 9)), .bl (decide (j < 9)), .bl (decide (j = 9)), .bl (decide (j = 10))]) := upd_same
        -- if _law_kinds_of(error) != [k] or told != [..]
        refine ⟨_, rfl, e, j, rfl, hj, (Er.same n1).same (n2.trans n3), fun H8 p8 s8 hp8 => ⟨_, rfl, (by show 1 ≤ sizeLine; decide), fun q8 nq8 => ⟨.list [.int (j : Int)], .list [.int (j : Int)], .lst (.inl (.inl ((same_new nq8) _ _ hp8))) (.cons (.int _) .nil), .lst (.inl (.inl upd_same)) (.cons (.int _) .nil), rfl, rfl, _, rfl, ite2 (fun cc => ?_) (fun _ => ?_)⟩⟩⟩
        · rw [SeqAt.eqv_refl _ rfl] at cc
          cases cc
        · refine ⟨_, rfl, _, rfl, _, _, rfl, rfl, _, rfl, _, _, rfl, rfl, _, rfl, rfl, _, rfl, rfl, (by show 4 ≤ sizeLine; decide), fun q9 nq9 => ?_⟩
          have g1 : decide ((j : Int) < 9) = decide (j < 9) := by
            rw [Bool.eq_iff_iff, decide_eq_true_iff, decide_eq_true_iff]
            omega
          have g2 : decide (V.int (j : Int) = V.int 9) = decide (j = 9) := by
            rw [Bool.eq_iff_iff, decide_eq_true_iff, decide_eq_true_iff, V.int.injEq]
            omega
          have g3 : decide (V.int (j : Int) = V.int 10) = decide (j = 10) := by
            rw [Bool.eq_iff_iff, decide_eq_true_iff, decide_eq_true_iff, V.int.injEq]
            omega
          have n4 := s8.trans ((same_new (o := .lst [.int (j : Int)]) nq8).trans (same_new (o := .lst [.bl (decide ((j : Int) < 9)), .bl (decide ((j : Int) < 9)), .bl (decide (V.int (j : Int) = V.int 9)), .bl (decide (V.int (j : Int) = V.int 10))]) nq9))
          have L9 : (upd (upd H8 q8 (.lst [.int (j : Int)])) q9 (.lst [.bl (decide ((j : Int) < 9)), .bl (decide ((j : Int) < 9)), .bl (decide (V.int (j : Int) = V.int 9)), .bl (decide (V.int (j : Int) = V.int 10))])) q9 = some (.lst [.bl (decide (j < 9)), .bl (decide (j < 9)), .bl (decide (j = 9)), .bl (decide (j = 10))]) := by
            rw [upd_same, g1, g2, g3]
          refine ⟨.list [.bool (decide (j < 9)), .bool (decide (j < 9)), .bool (decide (j = 9)), .bool (decide (j = 10))], .list [.bool (decide (j < 9)), .bool (decide (j < 9)), .bool (decide (j = 9)), .bool (decide (j = 10))], .lst (.inl (.inl (n4 _ _ L3))) (.cons (.bl _) (.cons (.bl _) (.cons (.bl _) (.cons (.bl _) .nil)))), .lst (.inl (.inl L9)) (.cons (.bl _) (.cons (.bl _) (.cons (.bl _) (.cons (.bl _) .nil)))), rfl, rfl, _, rfl, ite2 (fun cc => ?_) (fun _ => ?_)⟩
          · rw [SeqAt.eqv_refl _ rfl] at cc
            cases cc
          · exact ⟨_, _, _, rfl, Fr.same (n1.trans (n2.trans (n3.trans n4)))⟩
      · obtain ⟨y5, y6, y7, rfl, Fr⟩ := z
        exact ⟨a', b', c', _, _, _, _, _, _, rfl, Fr.dr, by omega⟩
    · -- return isinstance(FallError("x"), ValueError)
      refine fun a na => ⟨a, CF, .ty "ValueError", .type "ValueError", true, rfl, upd_same, T.zF, T.er.ek, .ty _, T.kFV, k _⟩
end
end Vf

set_option Elab.async false
set_option linter.all false
set_option maxRecDepth 100000
set_option maxHeartbeats 8000000
namespace Vf
open PySem PySem.Spec PyProof.Rows L2
abbrev veT : List Value := [.type "ValueError", .type "Exception", .type "BaseException", .type "object"]
abbrev ovT : List Value := [.type "OverflowError", .type "ArithmeticError", .type "Exception", .type "BaseException", .type "object"]
abbrev rtT : List Value := [.type "RuntimeError", .type "Exception", .type "BaseException", .type "object"]
/-- an own class's chain, as the written part tells it -/
def Chain (K : PySem.W.Frag) (C : Addr) (bm : List Value) : Prop := ∃ cd, PySem.W.clsIn K C = some cd ∧ cd.mro = .ref C :: bm
section
variable {K : PySem.W.Frag} {C D : Addr} {bm : List Value}
theorem Chain.of {n0 q0 : Str} {N : Addr} {bs : List Value} {dct : Bool} {sl : List Str} {below : List Value} {ab : Bool} {cl : Option Bool} {od : Option Addr} {m0 m1 m2 m3 m5 : Option Value} {nI : String} (h : K.lookup C = some (excClassObj n0 q0 C N bs bm dct sl below ab cl od m0 m1 m2 m3 m5 nI)) : Chain K C bm := by
  refine ⟨{ name := n0, bases := bs, mro := .ref C :: bm, ns := N, qualname := q0, hasDict := dct, slotNames := sl, subclasses := below, abstract := ab, collection := cl, hasDel := false }, ?_, rfl⟩
  unfold PySem.W.clsIn
  rw [h]
theorem Chain.sub (h : Chain K C bm) (c : Value) : PySem.W.subIn K (.ref C) c = some ((Value.ref C :: bm).contains c) := by
  obtain ⟨cd, h1, h2⟩ := h
  show PySem.W.mroIn K C c = _
  unfold PySem.W.mroIn
  rw [h1, Option.bind_some, h2]
  rfl
theorem Chain.own (h : Chain K C bm) (h2 : ∃ b2, Chain K D b2) (ht : PySem.W.typeIn K (.ref D) = some (.type "type")) : PySem.W.kitOne K (.ref C) (.ref D) = some ((Value.ref C :: bm).contains (.ref D)) := by
  unfold PySem.W.kitOne
  by_cases e : (Value.ref C == Value.ref D) = true
  · rw [if_pos e, List.contains_cons, Bool.or_eq_true_iff.mpr (Or.inl (by rw [beq_iff_eq] at e ⊢; exact e.symm))]
  · rw [if_neg e]
    obtain ⟨b2, cd, c1, _⟩ := h2
    have q : ((PySem.W.clsIn K D).isSome && PySem.W.typeIn K (.ref D) == some (.type "type")) = true := by
      rw [c1, ht]
      rfl
    show (if ((PySem.W.clsIn K D).isSome && PySem.W.typeIn K (.ref D) == some (.type "type")) = true then PySem.W.subIn K (.ref C) (.ref D) else none) = _
    rw [if_pos q, h.sub]
theorem Chain.blt {T : String} (h : Chain K C bm) (hm : PySem.W.kitMeta T = true) : PySem.W.kitOne K (.ref C) (.type T) = some ((Value.ref C :: bm).contains (.type T)) := by
  unfold PySem.W.kitOne
  rw [if_neg (by intro z; cases (beq_iff_eq.mp z))]
  show (if PySem.W.kitMeta T = true then PySem.W.subIn K (.ref C) (.type T) else none) = _
  rw [if_pos hm, h.sub]
end
/-- the end of a law row by the written part alone -/
theorem walkGK {l : PySem.W.OpenLaw} {n k : Nat} {q : Program} {loose : List Str} {XP : (Str → Option Value) → Heap → Prop} {YP : World → Heap → Prop} {d : DefRec} {K : Params → PySem.W.Frag} {sp : PySem.W.Frag → Sp} {x : Str}
    (hn : l.most = some n) (hn2 : n ≤ sizeLine) (hdf : d.params.defaults = []) (hr : Room k callerA) (hY : ∀ (w : World) (h : Heap), YP w h → (K w.params).In h)
    (F : ∀ (w : World) (mg : Str → Option Value) (fa : Addr) (h : Heap), (K w.params).In h → h.Ns mainGlobals mg → mg d.name = some (.ref fa) →
      ∃ fd : FuncData, (∀ (s : Shared) (u : Value), BindsTo s fd ⟨[u], []⟩ [(x, u)]) ∧ ∀ base : Heap, (K w.params).In base → base.Ns mainGlobals mg → GOk l.prog w (K w.params) mg base CX0 k fa fd [x] (sp (K w.params)))
    (hsp : ∀ (K : PySem.W.Frag) (H : Hp) (a : Addr) (ns : List Int), ns.length ≤ n → SqL K H a (ns.map V.int) → sp K [.ref a] H (fun v _ => v = .bl true) fun _ _ _ => False) :
    PySem.W.WalkO q loose XP YP l.row.toRowW d [] (fun f vs => PySem.call f vs) :=
  walkG (K := K) (T := fun _ => CX0) (sp := fun w => sp (K w.params)) hn hn2 hdf hr hY F (fun w H a ns h1 h2 => hsp (K w.params) H a ns h1 h2) fun _ _ _ _ _ z => z
/-- the chain of a FallError's heir holds FallError -/
theorem kF_t {C CF : Addr} (_ : C ≠ CF) : (Value.ref C :: (.ref CF :: veT)).contains (.ref CF) = true := by
  rw [List.contains_cons, List.contains_cons, beq_self_eq_true, Bool.true_or, Bool.or_true]
theorem ref_ne {C D : Addr} (h : C ≠ D) : (Value.ref D == Value.ref C) = false := by
  refine Bool.eq_false_iff.mpr fun z => h ?_
  exact (Value.ref.inj (beq_iff_eq.mp z)).symm
theorem kF_o {C CF : Addr} (h : C ≠ CF) : (Value.ref C :: ovT).contains (.ref CF) = false := by
  rw [List.contains_cons, ref_ne h]
  rfl
theorem kF_r {C CF : Addr} (h : C ≠ CF) : (Value.ref C :: rtT).contains (.ref CF) = false := by
  rw [List.contains_cons, ref_ne h]
  rfl
theorem ne_last {C0 C1 C2 C3 C4 C5 C6 C7 C8 C9 C10 CF : Addr} (nd : ([C0, C1, C2, C3, C4, C5, C6, C7, C8, C9, C10, CF] : List Addr).Nodup) (i : Nat) (hi : i < 11) (hl : i < ([C0, C1, C2, C3, C4, C5, C6, C7, C8, C9, C10, CF] : List Addr).length) : ([C0, C1, C2, C3, C4, C5, C6, C7, C8, C9, C10, CF] : List Addr)[i]'hl ≠ CF := fun z => by
  have h2 : 11 < ([C0, C1, C2, C3, C4, C5, C6, C7, C8, C9, C10, CF] : List Addr).length := by
    show 11 < 12
    omega
  have q : i = 11 := (List.getElem_inj (h₀ := hl) (h₁ := h2) nd).mp z
  omega
/-- each of eleven classes is itself alone among them -/
theorem kit_all {K : PySem.W.Frag} {C0 C1 C2 C3 C4 C5 C6 C7 C8 C9 C10 CF : Addr} (h0 : Chain K C0 (.ref CF :: veT)) (h1 : Chain K C1 (.ref CF :: veT)) (h2 : Chain K C2 (.ref CF :: veT)) (h3 : Chain K C3 (.ref CF :: veT)) (h4 : Chain K C4 (.ref CF :: veT)) (h5 : Chain K C5 (.ref CF :: veT)) (h6 : Chain K C6 (.ref CF :: veT)) (h7 : Chain K C7 (.ref CF :: veT)) (h8 : Chain K C8 (.ref CF :: veT)) (h9 : Chain K C9 ovT) (h10 : Chain K C10 rtT) (t0 : PySem.W.typeIn K (.ref C0) = some (.type "type")) (t1 : PySem.W.typeIn K (.ref C1) = some (.type "type")) (t2 : PySem.W.typeIn K (.ref C2) = some (.type "type")) (t3 : PySem.W.typeIn K (.ref C3) = some (.type "type")) (t4 : PySem.W.typeIn K (.ref C4) = some (.type "type")) (t5 : PySem.W.typeIn K (.ref C5) = some (.type "type")) (t6 : PySem.W.typeIn K (.ref C6) = some (.type "type")) (t7 : PySem.W.typeIn K (.ref C7) = some (.type "type")) (t8 : PySem.W.typeIn K (.ref C8) = some (.type "type")) (t9 : PySem.W.typeIn K (.ref C9) = some (.type "type")) (t10 : PySem.W.typeIn K (.ref C10) = some (.type "type"))
    (nd : ([C0, C1, C2, C3, C4, C5, C6, C7, C8, C9, C10, CF] : List Addr).Nodup) (i j : Nat) (hi : i < 11) (hj : j < 11) :
    PySem.W.kitOne K (.ref ([C0, C1, C2, C3, C4, C5, C6, C7, C8, C9, C10].getD i CF)) (.ref ([C0, C1, C2, C3, C4, C5, C6, C7, C8, C9, C10].getD j CF)) = some (decide (i = j)) := by
  have ch : ∀ i, i < 11 → ∃ bm, Chain K ([C0, C1, C2, C3, C4, C5, C6, C7, C8, C9, C10].getD i CF) bm ∧ (bm = .ref CF :: veT ∨ bm = ovT ∨ bm = rtT)
    | 0, _ => ⟨_, h0, .inl rfl⟩
    | 1, _ => ⟨_, h1, .inl rfl⟩
    | 2, _ => ⟨_, h2, .inl rfl⟩
    | 3, _ => ⟨_, h3, .inl rfl⟩
    | 4, _ => ⟨_, h4, .inl rfl⟩
    | 5, _ => ⟨_, h5, .inl rfl⟩
    | 6, _ => ⟨_, h6, .inl rfl⟩
    | 7, _ => ⟨_, h7, .inl rfl⟩
    | 8, _ => ⟨_, h8, .inl rfl⟩
    | 9, _ => ⟨_, h9, .inr (.inl rfl)⟩
    | 10, _ => ⟨_, h10, .inr (.inr rfl)⟩
    | n + 11, h => absurd h (by omega)
  have tt : ∀ i, i < 11 → PySem.W.typeIn K (.ref ([C0, C1, C2, C3, C4, C5, C6, C7, C8, C9, C10].getD i CF)) = some (.type "type")
    | 0, _ => t0
    | 1, _ => t1
    | 2, _ => t2
    | 3, _ => t3
    | 4, _ => t4
    | 5, _ => t5
    | 6, _ => t6
    | 7, _ => t7
    | 8, _ => t8
    | 9, _ => t9
    | 10, _ => t10
    | n + 11, h => absurd h (by omega)
  have gt : ∀ i, i < 11 → ([C0, C1, C2, C3, C4, C5, C6, C7, C8, C9, C10, CF] : List Addr)[i]? = some ([C0, C1, C2, C3, C4, C5, C6, C7, C8, C9, C10].getD i CF)
    | 0, _ => rfl
    | 1, _ => rfl
    | 2, _ => rfl
    | 3, _ => rfl
    | 4, _ => rfl
    | 5, _ => rfl
    | 6, _ => rfl
    | 7, _ => rfl
    | 8, _ => rfl
    | 9, _ => rfl
    | 10, _ => rfl
    | n + 11, h => absurd h (by omega)
  have inj : ∀ i j, i < 12 → j < 12 → ([C0, C1, C2, C3, C4, C5, C6, C7, C8, C9, C10, CF] : List Addr)[i]? = ([C0, C1, C2, C3, C4, C5, C6, C7, C8, C9, C10, CF] : List Addr)[j]? → i = j := fun i j a b e => by
    have a' : i < ([C0, C1, C2, C3, C4, C5, C6, C7, C8, C9, C10, CF] : List Addr).length := a
    have b' : j < ([C0, C1, C2, C3, C4, C5, C6, C7, C8, C9, C10, CF] : List Addr).length := b
    rw [List.getElem?_eq_getElem a', List.getElem?_eq_getElem b'] at e
    exact (List.getElem_inj nd).mp (Option.some.inj e)
  obtain ⟨bm, c1, c2⟩ := ch i hi
  obtain ⟨b2, d1, _⟩ := ch j hj
  rw [c1.own ⟨b2, d1⟩ (tt j hj)]
  refine congrArg some ?_
  have nF : [C0, C1, C2, C3, C4, C5, C6, C7, C8, C9, C10].getD j CF ≠ CF := fun z => by
    have q := inj j 11 (by omega) (by omega) ((gt j hj).trans (congrArg some z))
    omega
  have tail : bm.contains (.ref ([C0, C1, C2, C3, C4, C5, C6, C7, C8, C9, C10].getD j CF)) = false := by
    rcases c2 with rfl | rfl | rfl
    · rw [List.contains_cons, ref_ne (Ne.symm nF)]
      rfl
    · rfl
    · rfl
  rw [List.contains_cons, tail, Bool.or_false]
  by_cases e : i = j
  · subst e
    rw [beq_self_eq_true]
    exact (decide_eq_true rfl).symm
  · rw [ref_ne fun z => e (inj i j (by omega) (by omega) ((gt i hi).trans ((congrArg some z).trans (gt j hj).symm)))]
    exact (decide_eq_false e).symm
/-- the facts of the top, gathered -/
theorem all_mk {P : Program} {w : World} {K : PySem.W.Frag} {h : Heap} {mg : Str → Option Value} {fa C0 C1 C2 C3 C4 C5 C6 C7 C8 C9 C10 CF f0 f1 f2 f3 f4 f5 f6 f7 f8 f9 f10 fB fN fP fD fK fL : Addr} (X : K.In h) (G : h.Ns mainGlobals mg) (hfa : mg "law" = some (.ref fa))
    {n0 q0 : Str} {N0 : Addr} {bs0 : List Value} {sn0 : List Str} {sb0 : List Value} {ab0 : Bool} {cl0 : Option Bool} {dd0 : Option Addr} {u00 u01 u02 u03 u05 : Option Value} {od0 an0 : Option Addr} {fs0 : Array (Option Value)} {oc0 kv0 dc0 pm0 cd0 ct0 : Value} {n1 q1 : Str} {N1 : Addr} {bs1 : List Value} {sn1 : List Str} {sb1 : List Value} {ab1 : Bool} {cl1 : Option Bool} {dd1 : Option Addr} {u10 u11 u12 u13 u15 : Option Value} {od1 an1 : Option Addr} {fs1 : Array (Option Value)} {oc1 kv1 dc1 pm1 cd1 ct1 : Value} {n2 q2 : Str} {N2 : Addr} {bs2 : List Value} {sn2 : List Str} {sb2 : List Value} {ab2 : Bool} {cl2 : Option Bool} {dd2 : Option Addr} {u20 u21 u22 u23 u25 : Option Value} {od2 an2 : Option Addr} {fs2 : Array (Option Value)} {oc2 kv2 dc2 pm2 cd2 ct2 : Value} {n3 q3 : Str} {N3 : Addr} {bs3 : List Value} {sn3 : List Str} {sb3 : List Value} {ab3 : Bool} {cl3 : Option Bool} {dd3 : Option Addr} {u30 u31 u32 u33 u35 : Option Value} {od3 an3 : Option Addr} {fs3 : Array (Option Value)} {oc3 kv3 dc3 pm3 cd3 ct3 : Value} {n4 q4 : Str} {N4 : Addr} {bs4 : List Value} {sn4 : List Str} {sb4 : List Value} {ab4 : Bool} {cl4 : Option Bool} {dd4 : Option Addr} {u40 u41 u42 u43 u45 : Option Value} {od4 an4 : Option Addr} {fs4 : Array (Option Value)} {oc4 kv4 dc4 pm4 cd4 ct4 : Value} {n5 q5 : Str} {N5 : Addr} {bs5 : List Value} {sn5 : List Str} {sb5 : List Value} {ab5 : Bool} {cl5 : Option Bool} {dd5 : Option Addr} {u50 u51 u52 u53 u55 : Option Value} {od5 an5 : Option Addr} {fs5 : Array (Option Value)} {oc5 kv5 dc5 pm5 cd5 ct5 : Value} {n6 q6 : Str} {N6 : Addr} {bs6 : List Value} {sn6 : List Str} {sb6 : List Value} {ab6 : Bool} {cl6 : Option Bool} {dd6 : Option Addr} {u60 u61 u62 u63 u65 : Option Value} {od6 an6 : Option Addr} {fs6 : Array (Option Value)} {oc6 kv6 dc6 pm6 cd6 ct6 : Value} {n7 q7 : Str} {N7 : Addr} {bs7 : List Value} {sn7 : List Str} {sb7 : List Value} {ab7 : Bool} {cl7 : Option Bool} {dd7 : Option Addr} {u70 u71 u72 u73 u75 : Option Value} {od7 an7 : Option Addr} {fs7 : Array (Option Value)} {oc7 kv7 dc7 pm7 cd7 ct7 : Value} {n8 q8 : Str} {N8 : Addr} {bs8 : List Value} {sn8 : List Str} {sb8 : List Value} {ab8 : Bool} {cl8 : Option Bool} {dd8 : Option Addr} {u80 u81 u82 u83 u85 : Option Value} {od8 an8 : Option Addr} {fs8 : Array (Option Value)} {oc8 kv8 dc8 pm8 cd8 ct8 : Value} {n9 q9 : Str} {N9 : Addr} {bs9 : List Value} {sn9 : List Str} {sb9 : List Value} {ab9 : Bool} {cl9 : Option Bool} {dd9 : Option Addr} {u90 u91 u92 u93 u95 : Option Value} {od9 an9 : Option Addr} {fs9 : Array (Option Value)} {oc9 kv9 dc9 pm9 cd9 ct9 : Value} {n10 q10 : Str} {N10 : Addr} {bs10 : List Value} {sn10 : List Str} {sb10 : List Value} {ab10 : Bool} {cl10 : Option Bool} {dd10 : Option Addr} {u100 u101 u102 u103 u105 : Option Value} {od10 an10 : Option Addr} {fs10 : Array (Option Value)} {oc10 kv10 dc10 pm10 cd10 ct10 : Value} {nF qF : Str} {NF : Addr} {bsF : List Value} {snF : List Str} {sbF : List Value} {abF : Bool} {clF : Option Bool} {ddF : Option Addr} {uF0 uF1 uF2 uF3 uF5 : Option Value} {odB anB : Option Addr} {fsB : Array (Option Value)} {ocB kvB dcB pmB cdB ctB : Value} {odN anN : Option Addr} {fsN : Array (Option Value)} {ocN kvN dcN pmN cdN ctN : Value} {odP anP : Option Addr} {fsP : Array (Option Value)} {ocP kvP dcP pmP cdP ctP : Value} {odD anD : Option Addr} {fsD : Array (Option Value)} {ocD kvD dcD pmD cdD ctD : Value} {odK anK : Option Addr} {fsK : Array (Option Value)} {ocK kvK dcK pmK cdK ctK : Value} {odL anL : Option Addr} {fsL : Array (Option Value)} {ocL kvL dcL pmL cdL ctL : Value}
    (aC0 : PySem.W.nsIn K mainGlobals "BadDrawing" = some (some (.ref C0)))
    (lC0 : K.lookup C0 = some (excClassObj n0 q0 C0 N0 bs0 (.ref CF :: veT) true sn0 sb0 ab0 cl0 dd0 u00 u01 u02 u03 u05 "ValueError.__new__"))
    (sa0 : PySem.W.findIn K (.ref C0) "__setattr__" = some (some (.builtin "object.__setattr__")))
    (ga0 : PySem.W.findIn K (.ref C0) "__getattribute__" = some (some (.builtin "BaseException.__getattribute__")))
    (gg0 : PySem.W.findIn K (.ref C0) "__getattr__" = some none)
    (ex0 : PySem.W.subIn K (.ref C0) (.type "BaseException") = some true)
    (ty0 : PySem.W.typeIn K (.ref C0) = some (.type "type"))
    (kC0 : PySem.W.keepIn K (.ref C0) = true)
    (hd0 : PySem.W.hasDictIn K C0 = true)
    (ca0 : PySem.W.findIn K (.ref C0) "__class__" = some (some (.builtin "object.__class__")))
    (mo0 : PySem.W.mroIn K C0 (.type "object") = some true)
    (iC0 : PySem.W.findIn K (.ref C0) "__init__" = some (some (.ref f0)))
    (tI0 : PySem.W.typeIn K (.ref f0) = some (.type "function"))
    (lI0 : K.lookup f0 = some ⟨oc0, od0, .func (PySem.W.fnOf "__init__" "BadDrawing.__init__" (defArgs sI0) (defBody sI0) (defScope sI0) .none kv0 dc0 pm0 an0 cd0 ct0), fs0⟩)
    (cI0 : PySem.W.codeIn K cd0 "BadDrawing.__init__" = true)
    (kI0 : PySem.W.keepIn K (.ref f0) = true)
    (nf0 : PySem.W.findIn K (.ref C0) "place" = some none)
    (tk0 : PySem.W.takerIn K C0 "place" = some none)
    (aC1 : PySem.W.nsIn K mainGlobals "BadCompany" = some (some (.ref C1)))
    (lC1 : K.lookup C1 = some (excClassObj n1 q1 C1 N1 bs1 (.ref CF :: veT) true sn1 sb1 ab1 cl1 dd1 u10 u11 u12 u13 u15 "ValueError.__new__"))
    (sa1 : PySem.W.findIn K (.ref C1) "__setattr__" = some (some (.builtin "object.__setattr__")))
    (ga1 : PySem.W.findIn K (.ref C1) "__getattribute__" = some (some (.builtin "BaseException.__getattribute__")))
    (gg1 : PySem.W.findIn K (.ref C1) "__getattr__" = some none)
    (ex1 : PySem.W.subIn K (.ref C1) (.type "BaseException") = some true)
    (ty1 : PySem.W.typeIn K (.ref C1) = some (.type "type"))
    (kC1 : PySem.W.keepIn K (.ref C1) = true)
    (hd1 : PySem.W.hasDictIn K C1 = true)
    (ca1 : PySem.W.findIn K (.ref C1) "__class__" = some (some (.builtin "object.__class__")))
    (mo1 : PySem.W.mroIn K C1 (.type "object") = some true)
    (iC1 : PySem.W.findIn K (.ref C1) "__init__" = some (some (.ref f1)))
    (tI1 : PySem.W.typeIn K (.ref f1) = some (.type "function"))
    (lI1 : K.lookup f1 = some ⟨oc1, od1, .func (PySem.W.fnOf "__init__" "BadCompany.__init__" (defArgs sI1) (defBody sI1) (defScope sI1) .none kv1 dc1 pm1 an1 cd1 ct1), fs1⟩)
    (cI1 : PySem.W.codeIn K cd1 "BadCompany.__init__" = true)
    (kI1 : PySem.W.keepIn K (.ref f1) = true)
    (nf1 : PySem.W.findIn K (.ref C1) "number" = some none)
    (tk1 : PySem.W.takerIn K C1 "number" = some none)
    (aC2 : PySem.W.nsIn K mainGlobals "BadMove" = some (some (.ref C2)))
    (lC2 : K.lookup C2 = some (excClassObj n2 q2 C2 N2 bs2 (.ref CF :: veT) true sn2 sb2 ab2 cl2 dd2 u20 u21 u22 u23 u25 "ValueError.__new__"))
    (sa2 : PySem.W.findIn K (.ref C2) "__setattr__" = some (some (.builtin "object.__setattr__")))
    (ga2 : PySem.W.findIn K (.ref C2) "__getattribute__" = some (some (.builtin "BaseException.__getattribute__")))
    (gg2 : PySem.W.findIn K (.ref C2) "__getattr__" = some none)
    (ex2 : PySem.W.subIn K (.ref C2) (.type "BaseException") = some true)
    (ty2 : PySem.W.typeIn K (.ref C2) = some (.type "type"))
    (kC2 : PySem.W.keepIn K (.ref C2) = true)
    (hd2 : PySem.W.hasDictIn K C2 = true)
    (ca2 : PySem.W.findIn K (.ref C2) "__class__" = some (some (.builtin "object.__class__")))
    (mo2 : PySem.W.mroIn K C2 (.type "object") = some true)
    (iC2 : PySem.W.findIn K (.ref C2) "__init__" = some (some (.ref f2)))
    (tI2 : PySem.W.typeIn K (.ref f2) = some (.type "function"))
    (lI2 : K.lookup f2 = some ⟨oc2, od2, .func (PySem.W.fnOf "__init__" "BadMove.__init__" (defArgs sI2) (defBody sI2) (defScope sI2) .none kv2 dc2 pm2 an2 cd2 ct2), fs2⟩)
    (cI2 : PySem.W.codeIn K cd2 "BadMove.__init__" = true)
    (kI2 : PySem.W.keepIn K (.ref f2) = true)
    (nf2 : PySem.W.findIn K (.ref C2) "given" = some none)
    (tk2 : PySem.W.takerIn K C2 "given" = some none)
    (aC3 : PySem.W.nsIn K mainGlobals "BadNumber" = some (some (.ref C3)))
    (lC3 : K.lookup C3 = some (excClassObj n3 q3 C3 N3 bs3 (.ref CF :: veT) true sn3 sb3 ab3 cl3 dd3 u30 u31 u32 u33 u35 "ValueError.__new__"))
    (sa3 : PySem.W.findIn K (.ref C3) "__setattr__" = some (some (.builtin "object.__setattr__")))
    (ga3 : PySem.W.findIn K (.ref C3) "__getattribute__" = some (some (.builtin "BaseException.__getattribute__")))
    (gg3 : PySem.W.findIn K (.ref C3) "__getattr__" = some none)
    (ex3 : PySem.W.subIn K (.ref C3) (.type "BaseException") = some true)
    (ty3 : PySem.W.typeIn K (.ref C3) = some (.type "type"))
    (kC3 : PySem.W.keepIn K (.ref C3) = true)
    (hd3 : PySem.W.hasDictIn K C3 = true)
    (ca3 : PySem.W.findIn K (.ref C3) "__class__" = some (some (.builtin "object.__class__")))
    (mo3 : PySem.W.mroIn K C3 (.type "object") = some true)
    (iC3 : PySem.W.findIn K (.ref C3) "__init__" = some (some (.ref f3)))
    (tI3 : PySem.W.typeIn K (.ref f3) = some (.type "function"))
    (lI3 : K.lookup f3 = some ⟨oc3, od3, .func (PySem.W.fnOf "__init__" "BadNumber.__init__" (defArgs sI3) (defBody sI3) (defScope sI3) .none kv3 dc3 pm3 an3 cd3 ct3), fs3⟩)
    (cI3 : PySem.W.codeIn K cd3 "BadNumber.__init__" = true)
    (kI3 : PySem.W.keepIn K (.ref f3) = true)
    (nf3 : PySem.W.findIn K (.ref C3) "given" = some none)
    (tk3 : PySem.W.takerIn K C3 "given" = some none)
    (aC4 : PySem.W.nsIn K mainGlobals "BadPoint" = some (some (.ref C4)))
    (lC4 : K.lookup C4 = some (excClassObj n4 q4 C4 N4 bs4 (.ref CF :: veT) true sn4 sb4 ab4 cl4 dd4 u40 u41 u42 u43 u45 "ValueError.__new__"))
    (sa4 : PySem.W.findIn K (.ref C4) "__setattr__" = some (some (.builtin "object.__setattr__")))
    (ga4 : PySem.W.findIn K (.ref C4) "__getattribute__" = some (some (.builtin "BaseException.__getattribute__")))
    (gg4 : PySem.W.findIn K (.ref C4) "__getattr__" = some none)
    (ex4 : PySem.W.subIn K (.ref C4) (.type "BaseException") = some true)
    (ty4 : PySem.W.typeIn K (.ref C4) = some (.type "type"))
    (kC4 : PySem.W.keepIn K (.ref C4) = true)
    (hd4 : PySem.W.hasDictIn K C4 = true)
    (ca4 : PySem.W.findIn K (.ref C4) "__class__" = some (some (.builtin "object.__class__")))
    (mo4 : PySem.W.mroIn K C4 (.type "object") = some true)
    (iC4 : PySem.W.findIn K (.ref C4) "__init__" = some (some (.ref f4)))
    (tI4 : PySem.W.typeIn K (.ref f4) = some (.type "function"))
    (lI4 : K.lookup f4 = some ⟨oc4, od4, .func (PySem.W.fnOf "__init__" "BadPoint.__init__" (defArgs sI4) (defBody sI4) (defScope sI4) .none kv4 dc4 pm4 an4 cd4 ct4), fs4⟩)
    (cI4 : PySem.W.codeIn K cd4 "BadPoint.__init__" = true)
    (kI4 : PySem.W.keepIn K (.ref f4) = true)
    (nf4 : PySem.W.findIn K (.ref C4) "given" = some none)
    (tk4 : PySem.W.takerIn K C4 "given" = some none)
    (aC5 : PySem.W.nsIn K mainGlobals "BadStep" = some (some (.ref C5)))
    (lC5 : K.lookup C5 = some (excClassObj n5 q5 C5 N5 bs5 (.ref CF :: veT) true sn5 sb5 ab5 cl5 dd5 u50 u51 u52 u53 u55 "ValueError.__new__"))
    (sa5 : PySem.W.findIn K (.ref C5) "__setattr__" = some (some (.builtin "object.__setattr__")))
    (ga5 : PySem.W.findIn K (.ref C5) "__getattribute__" = some (some (.builtin "BaseException.__getattribute__")))
    (gg5 : PySem.W.findIn K (.ref C5) "__getattr__" = some none)
    (ex5 : PySem.W.subIn K (.ref C5) (.type "BaseException") = some true)
    (ty5 : PySem.W.typeIn K (.ref C5) = some (.type "type"))
    (kC5 : PySem.W.keepIn K (.ref C5) = true)
    (hd5 : PySem.W.hasDictIn K C5 = true)
    (ca5 : PySem.W.findIn K (.ref C5) "__class__" = some (some (.builtin "object.__class__")))
    (mo5 : PySem.W.mroIn K C5 (.type "object") = some true)
    (iC5 : PySem.W.findIn K (.ref C5) "__init__" = some (some (.ref f5)))
    (tI5 : PySem.W.typeIn K (.ref f5) = some (.type "function"))
    (lI5 : K.lookup f5 = some ⟨oc5, od5, .func (PySem.W.fnOf "__init__" "BadStep.__init__" (defArgs sI5) (defBody sI5) (defScope sI5) .none kv5 dc5 pm5 an5 cd5 ct5), fs5⟩)
    (cI5 : PySem.W.codeIn K cd5 "BadStep.__init__" = true)
    (kI5 : PySem.W.keepIn K (.ref f5) = true)
    (nf5 : PySem.W.findIn K (.ref C5) "given" = some none)
    (tk5 : PySem.W.takerIn K C5 "given" = some none)
    (aC6 : PySem.W.nsIn K mainGlobals "BadPaper" = some (some (.ref C6)))
    (lC6 : K.lookup C6 = some (excClassObj n6 q6 C6 N6 bs6 (.ref CF :: veT) true sn6 sb6 ab6 cl6 dd6 u60 u61 u62 u63 u65 "ValueError.__new__"))
    (sa6 : PySem.W.findIn K (.ref C6) "__setattr__" = some (some (.builtin "object.__setattr__")))
    (ga6 : PySem.W.findIn K (.ref C6) "__getattribute__" = some (some (.builtin "BaseException.__getattribute__")))
    (gg6 : PySem.W.findIn K (.ref C6) "__getattr__" = some none)
    (ex6 : PySem.W.subIn K (.ref C6) (.type "BaseException") = some true)
    (ty6 : PySem.W.typeIn K (.ref C6) = some (.type "type"))
    (kC6 : PySem.W.keepIn K (.ref C6) = true)
    (hd6 : PySem.W.hasDictIn K C6 = true)
    (ca6 : PySem.W.findIn K (.ref C6) "__class__" = some (some (.builtin "object.__class__")))
    (mo6 : PySem.W.mroIn K C6 (.type "object") = some true)
    (iC6 : PySem.W.findIn K (.ref C6) "__init__" = some (some (.ref f6)))
    (tI6 : PySem.W.typeIn K (.ref f6) = some (.type "function"))
    (lI6 : K.lookup f6 = some ⟨oc6, od6, .func (PySem.W.fnOf "__init__" "BadPaper.__init__" (defArgs sI6) (defBody sI6) (defScope sI6) .none kv6 dc6 pm6 an6 cd6 ct6), fs6⟩)
    (cI6 : PySem.W.codeIn K cd6 "BadPaper.__init__" = true)
    (kI6 : PySem.W.keepIn K (.ref f6) = true)
    (nf6 : PySem.W.findIn K (.ref C6) "part" = some none)
    (tk6 : PySem.W.takerIn K C6 "part" = some none)
    (aC7 : PySem.W.nsIn K mainGlobals "BadLog" = some (some (.ref C7)))
    (lC7 : K.lookup C7 = some (excClassObj n7 q7 C7 N7 bs7 (.ref CF :: veT) true sn7 sb7 ab7 cl7 dd7 u70 u71 u72 u73 u75 "ValueError.__new__"))
    (sa7 : PySem.W.findIn K (.ref C7) "__setattr__" = some (some (.builtin "object.__setattr__")))
    (ga7 : PySem.W.findIn K (.ref C7) "__getattribute__" = some (some (.builtin "BaseException.__getattribute__")))
    (gg7 : PySem.W.findIn K (.ref C7) "__getattr__" = some none)
    (ex7 : PySem.W.subIn K (.ref C7) (.type "BaseException") = some true)
    (ty7 : PySem.W.typeIn K (.ref C7) = some (.type "type"))
    (kC7 : PySem.W.keepIn K (.ref C7) = true)
    (hd7 : PySem.W.hasDictIn K C7 = true)
    (ca7 : PySem.W.findIn K (.ref C7) "__class__" = some (some (.builtin "object.__class__")))
    (mo7 : PySem.W.mroIn K C7 (.type "object") = some true)
    (iC7 : PySem.W.findIn K (.ref C7) "__init__" = some (some (.ref f7)))
    (tI7 : PySem.W.typeIn K (.ref f7) = some (.type "function"))
    (lI7 : K.lookup f7 = some ⟨oc7, od7, .func (PySem.W.fnOf "__init__" "BadLog.__init__" (defArgs sI7) (defBody sI7) (defScope sI7) .none kv7 dc7 pm7 an7 cd7 ct7), fs7⟩)
    (cI7 : PySem.W.codeIn K cd7 "BadLog.__init__" = true)
    (kI7 : PySem.W.keepIn K (.ref f7) = true)
    (nf7 : PySem.W.findIn K (.ref C7) "number" = some none)
    (tk7 : PySem.W.takerIn K C7 "number" = some none)
    (aC8 : PySem.W.nsIn K mainGlobals "BadText" = some (some (.ref C8)))
    (lC8 : K.lookup C8 = some (excClassObj n8 q8 C8 N8 bs8 (.ref CF :: veT) true sn8 sb8 ab8 cl8 dd8 u80 u81 u82 u83 u85 "ValueError.__new__"))
    (sa8 : PySem.W.findIn K (.ref C8) "__setattr__" = some (some (.builtin "object.__setattr__")))
    (ga8 : PySem.W.findIn K (.ref C8) "__getattribute__" = some (some (.builtin "BaseException.__getattribute__")))
    (gg8 : PySem.W.findIn K (.ref C8) "__getattr__" = some none)
    (ex8 : PySem.W.subIn K (.ref C8) (.type "BaseException") = some true)
    (ty8 : PySem.W.typeIn K (.ref C8) = some (.type "type"))
    (kC8 : PySem.W.keepIn K (.ref C8) = true)
    (hd8 : PySem.W.hasDictIn K C8 = true)
    (ca8 : PySem.W.findIn K (.ref C8) "__class__" = some (some (.builtin "object.__class__")))
    (mo8 : PySem.W.mroIn K C8 (.type "object") = some true)
    (iC8 : PySem.W.findIn K (.ref C8) "__init__" = some (some (.ref f8)))
    (tI8 : PySem.W.typeIn K (.ref f8) = some (.type "function"))
    (lI8 : K.lookup f8 = some ⟨oc8, od8, .func (PySem.W.fnOf "__init__" "BadText.__init__" (defArgs sI8) (defBody sI8) (defScope sI8) .none kv8 dc8 pm8 an8 cd8 ct8), fs8⟩)
    (cI8 : PySem.W.codeIn K cd8 "BadText.__init__" = true)
    (kI8 : PySem.W.keepIn K (.ref f8) = true)
    (nf8 : PySem.W.findIn K (.ref C8) "line" = some none)
    (tk8 : PySem.W.takerIn K C8 "line" = some none)
    (nw : PySem.W.findIn K (.ref C8) "word" = some none)
    (tw : PySem.W.takerIn K C8 "word" = some none)
    (aC9 : PySem.W.nsIn K mainGlobals "TooMany" = some (some (.ref C9)))
    (lC9 : K.lookup C9 = some (excClassObj n9 q9 C9 N9 bs9 ovT true sn9 sb9 ab9 cl9 dd9 u90 u91 u92 u93 u95 "OverflowError.__new__"))
    (sa9 : PySem.W.findIn K (.ref C9) "__setattr__" = some (some (.builtin "object.__setattr__")))
    (ga9 : PySem.W.findIn K (.ref C9) "__getattribute__" = some (some (.builtin "BaseException.__getattribute__")))
    (gg9 : PySem.W.findIn K (.ref C9) "__getattr__" = some none)
    (ex9 : PySem.W.subIn K (.ref C9) (.type "BaseException") = some true)
    (ty9 : PySem.W.typeIn K (.ref C9) = some (.type "type"))
    (kC9 : PySem.W.keepIn K (.ref C9) = true)
    (hd9 : PySem.W.hasDictIn K C9 = true)
    (ca9 : PySem.W.findIn K (.ref C9) "__class__" = some (some (.builtin "object.__class__")))
    (mo9 : PySem.W.mroIn K C9 (.type "object") = some true)
    (iC9 : PySem.W.findIn K (.ref C9) "__init__" = some (some (.ref f9)))
    (tI9 : PySem.W.typeIn K (.ref f9) = some (.type "function"))
    (lI9 : K.lookup f9 = some ⟨oc9, od9, .func (PySem.W.fnOf "__init__" "TooMany.__init__" (defArgs sI9) (defBody sI9) (defScope sI9) .none kv9 dc9 pm9 an9 cd9 ct9), fs9⟩)
    (cI9 : PySem.W.codeIn K cd9 "TooMany.__init__" = true)
    (kI9 : PySem.W.keepIn K (.ref f9) = true)
    (nf9 : PySem.W.findIn K (.ref C9) "most" = some none)
    (tk9 : PySem.W.takerIn K C9 "most" = some none)
    (aC10 : PySem.W.nsIn K mainGlobals "NothingLeft" = some (some (.ref C10)))
    (lC10 : K.lookup C10 = some (excClassObj n10 q10 C10 N10 bs10 rtT true sn10 sb10 ab10 cl10 dd10 u100 u101 u102 u103 u105 "RuntimeError.__new__"))
    (sa10 : PySem.W.findIn K (.ref C10) "__setattr__" = some (some (.builtin "object.__setattr__")))
    (ga10 : PySem.W.findIn K (.ref C10) "__getattribute__" = some (some (.builtin "BaseException.__getattribute__")))
    (gg10 : PySem.W.findIn K (.ref C10) "__getattr__" = some none)
    (ex10 : PySem.W.subIn K (.ref C10) (.type "BaseException") = some true)
    (ty10 : PySem.W.typeIn K (.ref C10) = some (.type "type"))
    (kC10 : PySem.W.keepIn K (.ref C10) = true)
    (hd10 : PySem.W.hasDictIn K C10 = true)
    (ca10 : PySem.W.findIn K (.ref C10) "__class__" = some (some (.builtin "object.__class__")))
    (mo10 : PySem.W.mroIn K C10 (.type "object") = some true)
    (iC10 : PySem.W.findIn K (.ref C10) "__init__" = some (some (.ref f10)))
    (tI10 : PySem.W.typeIn K (.ref f10) = some (.type "function"))
    (lI10 : K.lookup f10 = some ⟨oc10, od10, .func (PySem.W.fnOf "__init__" "NothingLeft.__init__" (defArgs sI10) (defBody sI10) (defScope sI10) .none kv10 dc10 pm10 an10 cd10 ct10), fs10⟩)
    (cI10 : PySem.W.codeIn K cd10 "NothingLeft.__init__" = true)
    (kI10 : PySem.W.keepIn K (.ref f10) = true)
    (nf10 : PySem.W.findIn K (.ref C10) "many" = some none)
    (tk10 : PySem.W.takerIn K C10 "many" = some none)
    (aCF : PySem.W.nsIn K mainGlobals "FallError" = some (some (.ref CF)))
    (lCF : K.lookup CF = some (excClassObj nF qF CF NF bsF veT true snF sbF abF clF ddF uF0 uF1 uF2 uF3 uF5 "ValueError.__new__"))
    (saF : PySem.W.findIn K (.ref CF) "__setattr__" = some (some (.builtin "object.__setattr__")))
    (gaF : PySem.W.findIn K (.ref CF) "__getattribute__" = some (some (.builtin "BaseException.__getattribute__")))
    (ggF : PySem.W.findIn K (.ref CF) "__getattr__" = some none)
    (exF : PySem.W.subIn K (.ref CF) (.type "BaseException") = some true)
    (tyF : PySem.W.typeIn K (.ref CF) = some (.type "type"))
    (kCF : PySem.W.keepIn K (.ref CF) = true)
    (hdF : PySem.W.hasDictIn K CF = true)
    (caF : PySem.W.findIn K (.ref CF) "__class__" = some (some (.builtin "object.__class__")))
    (moF : PySem.W.mroIn K CF (.type "object") = some true)
    (qF : PySem.W.excIn K CF veT "ValueError.__new__" = true)
    (hn : PySem.W.specialIn K (.builtin "object.__class__") "__get__" = some (some (.builtin "getset_descriptor.__get__")))
    (ht : PySem.W.takesIn K (.builtin "object.__class__") = some true)
    (aB : PySem.W.nsIn K mainGlobals "_law_begin" = some (some (.ref fB)))
    (lIB : K.lookup fB = some ⟨ocB, odB, .func (PySem.W.fnOf "_law_begin" "_law_begin" (defArgs sBegin) (defBody sBegin) (defScope sBegin) .none kvB dcB pmB anB cdB ctB), fsB⟩)
    (cIB : PySem.W.codeIn K cdB "_law_begin" = true)
    (kIB : PySem.W.keepIn K (.ref fB) = true)
    (aN : PySem.W.nsIn K mainGlobals "_law_next" = some (some (.ref fN)))
    (lIN : K.lookup fN = some ⟨ocN, odN, .func (PySem.W.fnOf "_law_next" "_law_next" (defArgs sNext) (defBody sNext) (defScope sNext) .none kvN dcN pmN anN cdN ctN), fsN⟩)
    (cIN : PySem.W.codeIn K cdN "_law_next" = true)
    (kIN : PySem.W.keepIn K (.ref fN) = true)
    (aP : PySem.W.nsIn K mainGlobals "_law_pick" = some (some (.ref fP)))
    (lIP : K.lookup fP = some ⟨ocP, odP, .func (PySem.W.fnOf "_law_pick" "_law_pick" (defArgs sPick) (defBody sPick) (defScope sPick) .none kvP dcP pmP anP cdP ctP), fsP⟩)
    (cIP : PySem.W.codeIn K cdP "_law_pick" = true)
    (kIP : PySem.W.keepIn K (.ref fP) = true)
    (aD : PySem.W.nsIn K mainGlobals "_law_fields" = some (some (.ref fD)))
    (lID : K.lookup fD = some ⟨ocD, odD, .func (PySem.W.fnOf "_law_fields" "_law_fields" (defArgs sFields) (defBody sFields) (defScope sFields) .none kvD dcD pmD anD cdD ctD), fsD⟩)
    (cID : PySem.W.codeIn K cdD "_law_fields" = true)
    (kID : PySem.W.keepIn K (.ref fD) = true)
    (aK : PySem.W.nsIn K mainGlobals "_law_kinds_of" = some (some (.ref fK)))
    (lIK : K.lookup fK = some ⟨ocK, odK, .func (PySem.W.fnOf "_law_kinds_of" "_law_kinds_of" (defArgs sKinds) (defBody sKinds) (defScope sKinds) .none kvK dcK pmK anK cdK ctK), fsK⟩)
    (cIK : PySem.W.codeIn K cdK "_law_kinds_of" = true)
    (kIK : PySem.W.keepIn K (.ref fK) = true)
    (aL : PySem.W.nsIn K mainGlobals "law" = some (some (.ref fL)))
    (lIL : K.lookup fL = some ⟨ocL, odL, .func (PySem.W.fnOf "law" "law" (defArgs sLaw) (defBody sLaw) (defScope sLaw) .none kvL dcL pmL anL cdL ctL), fsL⟩)
    (cIL : PySem.W.codeIn K cdL "law" = true)
    (kIL : PySem.W.keepIn K (.ref fL) = true)
    (z_isinstance : PySem.W.nsIn K mainGlobals "isinstance" = some none)
    (z_range : PySem.W.nsIn K mainGlobals "range" = some none)
    (z_ValueError : PySem.W.nsIn K mainGlobals "ValueError" = some none)
    (z_OverflowError : PySem.W.nsIn K mainGlobals "OverflowError" = some none)
    (z_RuntimeError : PySem.W.nsIn K mainGlobals "RuntimeError" = some none)
    (z_repr : PySem.W.nsIn K mainGlobals "repr" = some none)
    (z_enumerate : PySem.W.nsIn K mainGlobals "enumerate" = some none)
    (z_len : PySem.W.nsIn K mainGlobals "len" = some none)
    (nodup : ([C0, C1, C2, C3, C4, C5, C6, C7, C8, C9, C10, CF] : List Addr).Nodup) :
    ∃ fd : FuncData, (∀ (s : Shared) (v : Value), BindsTo s fd ⟨[v], []⟩ [("script", v)]) ∧ ∀ base : Heap, K.In base → base.Ns mainGlobals mg → GOk P w K mg base CX0 4 fa fd ["script"] (spLaw K) := by
  have e := hfa.symm.trans (PySem.W.mg_of X G aL)
  cases e
  have Z0 : EC K C0 := ⟨⟨_, _, _, _, _, _, _, _, _, _, _, _, _, _, _, _, _, _, _, PySem.F.excBase_ValueError, PySem.F.store_ValueError, (by first | rfl | decide +kernel), lC0⟩, sa0, ga0, gg0, ex0, ty0, kC0, hd0, ca0, mo0⟩
  have h0 := Chain.of lC0
  have Z1 : EC K C1 := ⟨⟨_, _, _, _, _, _, _, _, _, _, _, _, _, _, _, _, _, _, _, PySem.F.excBase_ValueError, PySem.F.store_ValueError, (by first | rfl | decide +kernel), lC1⟩, sa1, ga1, gg1, ex1, ty1, kC1, hd1, ca1, mo1⟩
  have h1 := Chain.of lC1
  have Z2 : EC K C2 := ⟨⟨_, _, _, _, _, _, _, _, _, _, _, _, _, _, _, _, _, _, _, PySem.F.excBase_ValueError, PySem.F.store_ValueError, (by first | rfl | decide +kernel), lC2⟩, sa2, ga2, gg2, ex2, ty2, kC2, hd2, ca2, mo2⟩
  have h2 := Chain.of lC2
  have Z3 : EC K C3 := ⟨⟨_, _, _, _, _, _, _, _, _, _, _, _, _, _, _, _, _, _, _, PySem.F.excBase_ValueError, PySem.F.store_ValueError, (by first | rfl | decide +kernel), lC3⟩, sa3, ga3, gg3, ex3, ty3, kC3, hd3, ca3, mo3⟩
  have h3 := Chain.of lC3
  have Z4 : EC K C4 := ⟨⟨_, _, _, _, _, _, _, _, _, _, _, _, _, _, _, _, _, _, _, PySem.F.excBase_ValueError, PySem.F.store_ValueError, (by first | rfl | decide +kernel), lC4⟩, sa4, ga4, gg4, ex4, ty4, kC4, hd4, ca4, mo4⟩
  have h4 := Chain.of lC4
  have Z5 : EC K C5 := ⟨⟨_, _, _, _, _, _, _, _, _, _, _, _, _, _, _, _, _, _, _, PySem.F.excBase_ValueError, PySem.F.store_ValueError, (by first | rfl | decide +kernel), lC5⟩, sa5, ga5, gg5, ex5, ty5, kC5, hd5, ca5, mo5⟩
  have h5 := Chain.of lC5
  have Z6 : EC K C6 := ⟨⟨_, _, _, _, _, _, _, _, _, _, _, _, _, _, _, _, _, _, _, PySem.F.excBase_ValueError, PySem.F.store_ValueError, (by first | rfl | decide +kernel), lC6⟩, sa6, ga6, gg6, ex6, ty6, kC6, hd6, ca6, mo6⟩
  have h6 := Chain.of lC6
  have Z7 : EC K C7 := ⟨⟨_, _, _, _, _, _, _, _, _, _, _, _, _, _, _, _, _, _, _, PySem.F.excBase_ValueError, PySem.F.store_ValueError, (by first | rfl | decide +kernel), lC7⟩, sa7, ga7, gg7, ex7, ty7, kC7, hd7, ca7, mo7⟩
  have h7 := Chain.of lC7
  have Z8 : EC K C8 := ⟨⟨_, _, _, _, _, _, _, _, _, _, _, _, _, _, _, _, _, _, _, PySem.F.excBase_ValueError, PySem.F.store_ValueError, (by first | rfl | decide +kernel), lC8⟩, sa8, ga8, gg8, ex8, ty8, kC8, hd8, ca8, mo8⟩
  have h8 := Chain.of lC8
  have Z9 : EC K C9 := ⟨⟨_, _, _, _, _, _, _, _, _, _, _, _, _, _, _, _, _, _, _, PySem.F.excBase_OverflowError, PySem.F.store_OverflowError, (by first | rfl | decide +kernel), lC9⟩, sa9, ga9, gg9, ex9, ty9, kC9, hd9, ca9, mo9⟩
  have h9 := Chain.of lC9
  have Z10 : EC K C10 := ⟨⟨_, _, _, _, _, _, _, _, _, _, _, _, _, _, _, _, _, _, _, PySem.F.excBase_RuntimeError, PySem.F.store_RuntimeError, (by first | rfl | decide +kernel), lC10⟩, sa10, ga10, gg10, ex10, ty10, kC10, hd10, ca10, mo10⟩
  have h10 := Chain.of lC10
  have ZF : EC K CF := ⟨⟨_, _, _, _, _, _, _, _, _, _, _, _, _, _, _, _, _, _, _, PySem.F.excBase_ValueError, PySem.F.store_ValueError, (by first | rfl | decide +kernel), lCF⟩, saF, gaF, ggF, exF, tyF, kCF, hdF, caF, moF⟩
  have hF := Chain.of lCF
  have F0 := fun_mk (st := sI0) lI0 cI0 kI0
  have F1 := fun_mk (st := sI1) lI1 cI1 kI1
  have F2 := fun_mk (st := sI2) lI2 cI2 kI2
  have F3 := fun_mk (st := sI3) lI3 cI3 kI3
  have F4 := fun_mk (st := sI4) lI4 cI4 kI4
  have F5 := fun_mk (st := sI5) lI5 cI5 kI5
  have F6 := fun_mk (st := sI6) lI6 cI6 kI6
  have F7 := fun_mk (st := sI7) lI7 cI7 kI7
  have F8 := fun_mk (st := sI8) lI8 cI8 kI8
  have F9 := fun_mk (st := sI9) lI9 cI9 kI9
  have F10 := fun_mk (st := sI10) lI10 cI10 kI10
  have FB := fun_mk (st := sBegin) lIB cIB kIB
  have FN := fun_mk (st := sNext) lIN cIN kIN
  have FP := fun_mk (st := sPick) lIP cIP kIP
  have FD := fun_mk (st := sFields) lID cID kID
  have FK := fun_mk (st := sKinds) lIK cIK kIK
  have FL := fun_mk (st := sLaw) lIL cIL kIL
  have T : LawT K mg (fun i => [C0, C1, C2, C3, C4, C5, C6, C7, C8, C9, C10].getD i CF) CF := by
    refine { er := ?_, gF := PySem.W.mg_of X G aCF, zF := ZF, qF := qF, kF := ?_, kV := ?_, kO := ?_, kR := ?_, kFV := ?_, mV := PySem.W.mg_none_of X G z_ValueError, mO := PySem.W.mg_none_of X G z_OverflowError, mR := PySem.W.mg_none_of X G z_RuntimeError, mp := PySem.W.mg_none_of X G z_repr, me := PySem.W.mg_none_of X G z_enumerate, ml := PySem.W.mg_none_of X G z_len }
    · refine { e0 := ⟨PySem.W.mg_of X G aC0, Z0, ⟨f0, _, iC0, tI0, F0⟩, nf0, tk0⟩, e1 := ⟨PySem.W.mg_of X G aC1, Z1, ⟨f1, _, iC1, tI1, F1⟩, nf1, tk1⟩, e2 := ⟨PySem.W.mg_of X G aC2, Z2, ⟨f2, _, iC2, tI2, F2⟩, nf2, tk2⟩, e3 := ⟨PySem.W.mg_of X G aC3, Z3, ⟨f3, _, iC3, tI3, F3⟩, nf3, tk3⟩, e4 := ⟨PySem.W.mg_of X G aC4, Z4, ⟨f4, _, iC4, tI4, F4⟩, nf4, tk4⟩, e5 := ⟨PySem.W.mg_of X G aC5, Z5, ⟨f5, _, iC5, tI5, F5⟩, nf5, tk5⟩, e6 := ⟨PySem.W.mg_of X G aC6, Z6, ⟨f6, _, iC6, tI6, F6⟩, nf6, tk6⟩, e7 := ⟨PySem.W.mg_of X G aC7, Z7, ⟨f7, _, iC7, tI7, F7⟩, nf7, tk7⟩, e8 := ⟨PySem.W.mg_of X G aC8, Z8, ⟨f8, _, iC8, tI8, F8⟩, nf8, tk8⟩, e9 := ⟨PySem.W.mg_of X G aC9, Z9, ⟨f9, _, iC9, tI9, F9⟩, nf9, tk9⟩, e10 := ⟨PySem.W.mg_of X G aC10, Z10, ⟨f10, _, iC10, tI10, F10⟩, nf10, tk10⟩, nw := nw, tw := tw, ek := ⟨hn, ht⟩, kc := ?_, mi := PySem.W.mg_none_of X G z_isinstance, mr := PySem.W.mg_none_of X G z_range }
      intro i j hi hj
      exact kit_all h0 h1 h2 h3 h4 h5 h6 h7 h8 h9 h10 ty0 ty1 ty2 ty3 ty4 ty5 ty6 ty7 ty8 ty9 ty10 nodup i j hi hj
    · intro i hi
      match i, hi with
      | 0, _ => exact (h0.own ⟨_, hF⟩ tyF).trans (congrArg some (kF_t (show C0 ≠ CF from ne_last nodup 0 (by decide) (by show 0 < 12; decide))))
      | 1, _ => exact (h1.own ⟨_, hF⟩ tyF).trans (congrArg some (kF_t (show C1 ≠ CF from ne_last nodup 1 (by decide) (by show 1 < 12; decide))))
      | 2, _ => exact (h2.own ⟨_, hF⟩ tyF).trans (congrArg some (kF_t (show C2 ≠ CF from ne_last nodup 2 (by decide) (by show 2 < 12; decide))))
      | 3, _ => exact (h3.own ⟨_, hF⟩ tyF).trans (congrArg some (kF_t (show C3 ≠ CF from ne_last nodup 3 (by decide) (by show 3 < 12; decide))))
      | 4, _ => exact (h4.own ⟨_, hF⟩ tyF).trans (congrArg some (kF_t (show C4 ≠ CF from ne_last nodup 4 (by decide) (by show 4 < 12; decide))))
      | 5, _ => exact (h5.own ⟨_, hF⟩ tyF).trans (congrArg some (kF_t (show C5 ≠ CF from ne_last nodup 5 (by decide) (by show 5 < 12; decide))))
      | 6, _ => exact (h6.own ⟨_, hF⟩ tyF).trans (congrArg some (kF_t (show C6 ≠ CF from ne_last nodup 6 (by decide) (by show 6 < 12; decide))))
      | 7, _ => exact (h7.own ⟨_, hF⟩ tyF).trans (congrArg some (kF_t (show C7 ≠ CF from ne_last nodup 7 (by decide) (by show 7 < 12; decide))))
      | 8, _ => exact (h8.own ⟨_, hF⟩ tyF).trans (congrArg some (kF_t (show C8 ≠ CF from ne_last nodup 8 (by decide) (by show 8 < 12; decide))))
      | 9, _ => exact (h9.own ⟨_, hF⟩ tyF).trans (congrArg some (kF_o (show C9 ≠ CF from ne_last nodup 9 (by decide) (by show 9 < 12; decide))))
      | 10, _ => exact (h10.own ⟨_, hF⟩ tyF).trans (congrArg some (kF_r (show C10 ≠ CF from ne_last nodup 10 (by decide) (by show 10 < 12; decide))))
      | n + 11, h => exact absurd h (by omega)
    · intro i hi
      match i, hi with
      | 0, _ => exact (h0.blt (by decide +kernel)).trans (congrArg some (by rfl))
      | 1, _ => exact (h1.blt (by decide +kernel)).trans (congrArg some (by rfl))
      | 2, _ => exact (h2.blt (by decide +kernel)).trans (congrArg some (by rfl))
      | 3, _ => exact (h3.blt (by decide +kernel)).trans (congrArg some (by rfl))
      | 4, _ => exact (h4.blt (by decide +kernel)).trans (congrArg some (by rfl))
      | 5, _ => exact (h5.blt (by decide +kernel)).trans (congrArg some (by rfl))
      | 6, _ => exact (h6.blt (by decide +kernel)).trans (congrArg some (by rfl))
      | 7, _ => exact (h7.blt (by decide +kernel)).trans (congrArg some (by rfl))
      | 8, _ => exact (h8.blt (by decide +kernel)).trans (congrArg some (by rfl))
      | 9, _ => exact (h9.blt (by decide +kernel)).trans (congrArg some (by rfl))
      | 10, _ => exact (h10.blt (by decide +kernel)).trans (congrArg some (by rfl))
      | n + 11, h => exact absurd h (by omega)
    · intro i hi
      match i, hi with
      | 0, _ => exact (h0.blt (by decide +kernel)).trans (congrArg some (by rfl))
      | 1, _ => exact (h1.blt (by decide +kernel)).trans (congrArg some (by rfl))
      | 2, _ => exact (h2.blt (by decide +kernel)).trans (congrArg some (by rfl))
      | 3, _ => exact (h3.blt (by decide +kernel)).trans (congrArg some (by rfl))
      | 4, _ => exact (h4.blt (by decide +kernel)).trans (congrArg some (by rfl))
      | 5, _ => exact (h5.blt (by decide +kernel)).trans (congrArg some (by rfl))
      | 6, _ => exact (h6.blt (by decide +kernel)).trans (congrArg some (by rfl))
      | 7, _ => exact (h7.blt (by decide +kernel)).trans (congrArg some (by rfl))
      | 8, _ => exact (h8.blt (by decide +kernel)).trans (congrArg some (by rfl))
      | 9, _ => exact (h9.blt (by decide +kernel)).trans (congrArg some (by rfl))
      | 10, _ => exact (h10.blt (by decide +kernel)).trans (congrArg some (by rfl))
      | n + 11, h => exact absurd h (by omega)
    · intro i hi
      match i, hi with
      | 0, _ => exact (h0.blt (by decide +kernel)).trans (congrArg some (by rfl))
      | 1, _ => exact (h1.blt (by decide +kernel)).trans (congrArg some (by rfl))
      | 2, _ => exact (h2.blt (by decide +kernel)).trans (congrArg some (by rfl))
      | 3, _ => exact (h3.blt (by decide +kernel)).trans (congrArg some (by rfl))
      | 4, _ => exact (h4.blt (by decide +kernel)).trans (congrArg some (by rfl))
      | 5, _ => exact (h5.blt (by decide +kernel)).trans (congrArg some (by rfl))
      | 6, _ => exact (h6.blt (by decide +kernel)).trans (congrArg some (by rfl))
      | 7, _ => exact (h7.blt (by decide +kernel)).trans (congrArg some (by rfl))
      | 8, _ => exact (h8.blt (by decide +kernel)).trans (congrArg some (by rfl))
      | 9, _ => exact (h9.blt (by decide +kernel)).trans (congrArg some (by rfl))
      | 10, _ => exact (h10.blt (by decide +kernel)).trans (congrArg some (by rfl))
      | n + 11, h => exact absurd h (by omega)
    · exact (hF.blt (by decide +kernel)).trans (congrArg some (by rfl))
  exact ⟨PySem.W.fnOf "law" "law" (defArgs sLaw) (defBody sLaw) (defScope sLaw) .none kvL dcL pmL anL cdL ctL, fun s v => .of_eq rfl, fun base _ _ => ok_law FL T FB FN FP FD FK (PySem.W.mg_of X G aB) (PySem.W.mg_of X G aN) (PySem.W.mg_of X G aP) (PySem.W.mg_of X G aD) (PySem.W.mg_of X G aK)⟩
end Vf
set_option Elab.async false
set_option linter.all false
set_option maxRecDepth 100000
open PySem PySem.W PyProof.Rows
set_option maxRecDepth 100000 in
set_option maxHeartbeats 0 in
theorem PySem.Challenge.cw_fallcuts_k01_errors_made_holds : PySem.Challenge.rw_fallcuts_k01_errors_made.Holds := by
  w_on; o_law; k_head; (case hw => w_witness2)
  k_fill
  refine Vf.walkGK (l := PySem.Challenge.rw_fallcuts_k01_errors_made) (n := 63) (k := 4) (x := "script") (sp := Vf.spLaw) rfl (by decide) rfl ⟨rfl, by decide, by decide⟩ (fun w h Y => PySem.W.kIn_of Y) ?F fun K H a ns hl hS => ⟨a, ns, rfl, hS, hl, fun _ => rfl⟩
  case F =>
    intro w mg fa h KX G hmg
    refine' Vf.all_mk KX G hmg ?aC0 ?lC0 ?sa0 ?ga0 ?gg0 ?ex0 ?ty0 ?kC0 ?hd0 ?ca0 ?mo0 ?iC0 ?tI0 ?lI0 ?cI0 ?kI0 ?nf0 ?tk0 ?aC1 ?lC1 ?sa1 ?ga1 ?gg1 ?ex1 ?ty1 ?kC1 ?hd1 ?ca1 ?mo1 ?iC1 ?tI1 ?lI1 ?cI1 ?kI1 ?nf1 ?tk1 ?aC2 ?lC2 ?sa2 ?ga2 ?gg2 ?ex2 ?ty2 ?kC2 ?hd2 ?ca2 ?mo2 ?iC2 ?tI2 ?lI2 ?cI2 ?kI2 ?nf2 ?tk2 ?aC3 ?lC3 ?sa3 ?ga3 ?gg3 ?ex3 ?ty3 ?kC3 ?hd3 ?ca3 ?mo3 ?iC3 ?tI3 ?lI3 ?cI3 ?kI3 ?nf3 ?tk3 ?aC4 ?lC4 ?sa4 ?ga4 ?gg4 ?ex4 ?ty4 ?kC4 ?hd4 ?ca4 ?mo4 ?iC4 ?tI4 ?lI4 ?cI4 ?kI4 ?nf4 ?tk4 ?aC5 ?lC5 ?sa5 ?ga5 ?gg5 ?ex5 ?ty5 ?kC5 ?hd5 ?ca5 ?mo5 ?iC5 ?tI5 ?lI5 ?cI5 ?kI5 ?nf5 ?tk5 ?aC6 ?lC6 ?sa6 ?ga6 ?gg6 ?ex6 ?ty6 ?kC6 ?hd6 ?ca6 ?mo6 ?iC6 ?tI6 ?lI6 ?cI6 ?kI6 ?nf6 ?tk6 ?aC7 ?lC7 ?sa7 ?ga7 ?gg7 ?ex7 ?ty7 ?kC7 ?hd7 ?ca7 ?mo7 ?iC7 ?tI7 ?lI7 ?cI7 ?kI7 ?nf7 ?tk7 ?aC8 ?lC8 ?sa8 ?ga8 ?gg8 ?ex8 ?ty8 ?kC8 ?hd8 ?ca8 ?mo8 ?iC8 ?tI8 ?lI8 ?cI8 ?kI8 ?nf8 ?tk8 ?nw ?tw ?aC9 ?lC9 ?sa9 ?ga9 ?gg9 ?ex9 ?ty9 ?kC9 ?hd9 ?ca9 ?mo9 ?iC9 ?tI9 ?lI9 ?cI9 ?kI9 ?nf9 ?tk9 ?aC10 ?lC10 ?sa10 ?ga10 ?gg10 ?ex10 ?ty10 ?kC10 ?hd10 ?ca10 ?mo10 ?iC10 ?tI10 ?lI10 ?cI10 ?kI10 ?nf10 ?tk10 ?aCF ?lCF ?saF ?gaF ?ggF ?exF ?tyF ?kCF ?hdF ?caF ?moF ?qF ?hn ?ht ?aB ?lIB ?cIB ?kIB ?aN ?lIN ?cIN ?kIN ?aP ?lIP ?cIP ?kIP ?aD ?lID ?cID ?kID ?aK ?lIK ?cIK ?kIK ?aL ?lIL ?cIL ?kIL ?z_isinstance ?z_range ?z_ValueError ?z_OverflowError ?z_RuntimeError ?z_repr ?z_enumerate ?z_len ?nodup
    (case aC0 => k_is)
    (case lC0 => k_is)
    (case sa0 => k_is)
    (case ga0 => k_is)
    (case gg0 => k_is)
    (case ex0 => k_is)
    (case ty0 => k_is)
    (case kC0 => k_is)
    (case hd0 => k_is)
    (case ca0 => k_is)
    (case mo0 => k_is)
    (case iC0 => k_is)
    (case tI0 => k_is)
    (case lI0 => k_is)
    (case cI0 => k_is)
    (case kI0 => k_is)
    (case nf0 => k_is)
    (case tk0 => k_is)
    (case aC1 => k_is)
    (case lC1 => k_is)
    (case sa1 => k_is)
    (case ga1 => k_is)
    (case gg1 => k_is)
    (case ex1 => k_is)
    (case ty1 => k_is)
    (case kC1 => k_is)
    (case hd1 => k_is)
    (case ca1 => k_is)
    (case mo1 => k_is)
    (case iC1 => k_is)
    (case tI1 => k_is)
    (case lI1 => k_is)
    (case cI1 => k_is)
    (case kI1 => k_is)
    (case nf1 => k_is)
    (case tk1 => k_is)
    (case aC2 => k_is)
    (case lC2 => k_is)
    (case sa2 => k_is)
    (case ga2 => k_is)
    (case gg2 => k_is)
    (case ex2 => k_is)
    (case ty2 => k_is)
    (case kC2 => k_is)
    (case hd2 => k_is)
    (case ca2 => k_is)
    (case mo2 => k_is)
    (case iC2 => k_is)
    (case tI2 => k_is)
    (case lI2 => k_is)
    (case cI2 => k_is)
    (case kI2 => k_is)
    (case nf2 => k_is)
    (case tk2 => k_is)
    (case aC3 => k_is)
    (case lC3 => k_is)
    (case sa3 => k_is)
    (case ga3 => k_is)
    (case gg3 => k_is)
    (case ex3 => k_is)
    (case ty3 => k_is)
    (case kC3 => k_is)
    (case hd3 => k_is)
    (case ca3 => k_is)
    (case mo3 => k_is)
    (case iC3 => k_is)
    (case tI3 => k_is)
    (case lI3 => k_is)
    (case cI3 => k_is)
    (case kI3 => k_is)
    (case nf3 => k_is)
    (case tk3 => k_is)
    (case aC4 => k_is)
    (case lC4 => k_is)
    (case sa4 => k_is)
    (case ga4 => k_is)
    (case gg4 => k_is)
    (case ex4 => k_is)
    (case ty4 => k_is)
    (case kC4 => k_is)
    (case hd4 => k_is)
    (case ca4 => k_is)
    (case mo4 => k_is)
    (case iC4 => k_is)
    (case tI4 => k_is)
    (case lI4 => k_is)
    (case cI4 => k_is)
    (case kI4 => k_is)
    (case nf4 => k_is)
    (case tk4 => k_is)
    (case aC5 => k_is)
    (case lC5 => k_is)
    (case sa5 => k_is)
    (case ga5 => k_is)
    (case gg5 => k_is)
    (case ex5 => k_is)
    (case ty5 => k_is)
    (case kC5 => k_is)
    (case hd5 => k_is)
    (case ca5 => k_is)
    (case mo5 => k_is)
    (case iC5 => k_is)
    (case tI5 => k_is)
    (case lI5 => k_is)
    (case cI5 => k_is)
    (case kI5 => k_is)
    (case nf5 => k_is)
    (case tk5 => k_is)
    (case aC6 => k_is)
    (case lC6 => k_is)
    (case sa6 => k_is)
    (case ga6 => k_is)
    (case gg6 => k_is)
    (case ex6 => k_is)
    (case ty6 => k_is)
    (case kC6 => k_is)
    (case hd6 => k_is)
    (case ca6 => k_is)
    (case mo6 => k_is)
    (case iC6 => k_is)
    (case tI6 => k_is)
    (case lI6 => k_is)
    (case cI6 => k_is)
    (case kI6 => k_is)
    (case nf6 => k_is)
    (case tk6 => k_is)
    (case aC7 => k_is)
    (case lC7 => k_is)
    (case sa7 => k_is)
    (case ga7 => k_is)
    (case gg7 => k_is)
    (case ex7 => k_is)
    (case ty7 => k_is)
    (case kC7 => k_is)
    (case hd7 => k_is)
    (case ca7 => k_is)
    (case mo7 => k_is)
    (case iC7 => k_is)
    (case tI7 => k_is)
    (case lI7 => k_is)
    (case cI7 => k_is)
    (case kI7 => k_is)
    (case nf7 => k_is)
    (case tk7 => k_is)
    (case aC8 => k_is)
    (case lC8 => k_is)
    (case sa8 => k_is)
    (case ga8 => k_is)
    (case gg8 => k_is)
    (case ex8 => k_is)
    (case ty8 => k_is)
    (case kC8 => k_is)
    (case hd8 => k_is)
    (case ca8 => k_is)
    (case mo8 => k_is)
    (case iC8 => k_is)
    (case tI8 => k_is)
    (case lI8 => k_is)
    (case cI8 => k_is)
    (case kI8 => k_is)
    (case nf8 => k_is)
    (case tk8 => k_is)
    (case nw => k_is)
    (case tw => k_is)
    (case aC9 => k_is)
    (case lC9 => k_is)
    (case sa9 => k_is)
    (case ga9 => k_is)
    (case gg9 => k_is)
    (case ex9 => k_is)
    (case ty9 => k_is)
    (case kC9 => k_is)
    (case hd9 => k_is)
    (case ca9 => k_is)
    (case mo9 => k_is)
    (case iC9 => k_is)
    (case tI9 => k_is)
    (case lI9 => k_is)
    (case cI9 => k_is)
    (case kI9 => k_is)
    (case nf9 => k_is)
    (case tk9 => k_is)
    (case aC10 => k_is)
    (case lC10 => k_is)
    (case sa10 => k_is)
    (case ga10 => k_is)
    (case gg10 => k_is)
    (case ex10 => k_is)
    (case ty10 => k_is)
    (case kC10 => k_is)
    (case hd10 => k_is)
    (case ca10 => k_is)
    (case mo10 => k_is)
    (case iC10 => k_is)
    (case tI10 => k_is)
    (case lI10 => k_is)
    (case cI10 => k_is)
    (case kI10 => k_is)
    (case nf10 => k_is)
    (case tk10 => k_is)
    (case aCF => k_is)
    (case lCF => k_is)
    (case saF => k_is)
    (case gaF => k_is)
    (case ggF => k_is)
    (case exF => k_is)
    (case tyF => k_is)
    (case kCF => k_is)
    (case hdF => k_is)
    (case caF => k_is)
    (case moF => k_is)
    (case qF => k_exc)
    (case hn => k_is)
    (case ht => k_is)
    (case aB => k_is)
    (case lIB => k_is)
    (case cIB => k_is)
    (case kIB => k_is)
    (case aN => k_is)
    (case lIN => k_is)
    (case cIN => k_is)
    (case kIN => k_is)
    (case aP => k_is)
    (case lIP => k_is)
    (case cIP => k_is)
    (case kIP => k_is)
    (case aD => k_is)
    (case lID => k_is)
    (case cID => k_is)
    (case kID => k_is)
    (case aK => k_is)
    (case lIK => k_is)
    (case cIK => k_is)
    (case kIK => k_is)
    (case aL => k_is)
    (case lIL => k_is)
    (case cIL => k_is)
    (case kIL => k_is)
    (case z_isinstance => k_is)
    (case z_range => k_is)
    (case z_ValueError => k_is)
    (case z_OverflowError => k_is)
    (case z_RuntimeError => k_is)
    (case z_repr => k_is)
    (case z_enumerate => k_is)
    (case z_len => k_is)
    (case nodup => decide)
