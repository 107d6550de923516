import PyProof.Rows.All
import Wide.All
import OpenK.AllK
import Wide.FinOn
import HandS.ForMost
import HandS.Star
import HandS.More
import HandS.Sort
import HandS.SortRule
import HandS.SortInts
import HandS.IsInst
import HandS.TupAny
import HandS.Wide
import HandS.WideMore
import HandS.ListItems
import HandS.Flow
import HandS.DictEq
import HandS.SlotsOwn
import KE.KOpsOwn
import KE.KRevSl
import PyProof.ListRange
import HandS.Base
import HandS.ExcIs
import HandS.ExcField
import HandS.ExcInit
import HandS.TryMany
import HandS.WordsExc
import HandS.Style
import KE.RegKIsAll
import PySem.Challenge.RW_oneedition_k37_spans_of_any_values
set_option Elab.async false
set_option linter.all false
set_option maxRecDepth 100000
set_option maxHeartbeats 4000000
/-! Rules of our own over the hand layer: operators of an own class, sorted over dicts and tuples of any length, dicts compared, ranges, t[::-1]. -/
namespace Sps
open PySem PySem.Spec PyProof.Rows L2
section
variable {X : Cx} {CX : CXT} {n : Nat} {C g : Addr} {sp : Sp} {E : XK}

/-- a & b and its like: both instances of the class at C -/
def rBin (C : Addr) (sp : Sp) (E : XK) : R2 := fun x y H Q => ∃ a dx fs b dy gs, x = .ref a ∧ y = .ref b ∧ H a = some (.ins C dx fs) ∧ H b = some (.ins C dy gs) ∧ sp [x, y] H Q E
theorem op_bin {op : Operator} (hc : PySem.W.selfFirst X.K C = true) (hs : PySem.W.findIn X.K (.ref C) (PySem.dunder op.info.2) = some (some (.ref g))) (hf : PySem.W.isFn X.K (.ref g) = true)
    (F : FnR X.prog X.w X.K X.mg X.base CX n g sp) (hr : Room n X.A) (hx : Passes CX X E) : OpR X (binaryOp op) (rBin C sp E) := by
  intro pins s σ H x y v u Q I rx ry h
  obtain ⟨a, dx, fs, b, dy, gs, rfl, rfl, ha, hb, q⟩ := h
  cases (show v = Value.ref a from rx)
  cases (show u = Value.ref b from ry)
  obtain ⟨mA, OA, _⟩ := ins_get I.hok ha
  obtain ⟨_, JA, _⟩ := OA.look
  obtain ⟨mB, OB, _⟩ := ins_get I.hok hb
  obtain ⟨_, JB, _⟩ := OB.look
  obtain ⟨m, hF⟩ := I.fr
  refine PySem.W.binop_K hF I.ok.mod.kin JA JB.type hc hs hf ?_
  refine wpAny_mono (wpAny_call (run_fnR (us := [.ref a, .ref b]) (vs := [.ref a, .ref b]) F hr hx I (.cons rfl (.cons rfl .nil)) q)) (fun w s' z => ?_) fun _ _ e => e
  obtain ⟨z', H', I', rz, qz⟩ := z
  exact SlX.cmpback rz ⟨z', H', I', rz, qz⟩

/-- a == y by the class's own def: y of any type that is told -/
def rEqO (K : PySem.W.Frag) (C : Addr) (sp : Sp) (E : XK) : R2 := fun x y H Q => ∃ a dx fs, x = .ref a ∧ H a = some (.ins C dx fs) ∧
  ((∃ b dy gs, y = .ref b ∧ H b = some (.ins C dy gs) ∧ PySem.W.notFirst K C (.ref C) = true) ∨ (∃ b ys, y = .ref b ∧ H b = some (.tup ys) ∧ PySem.W.notFirst K C (.type "tuple") = true) ∨ (∃ i, y = .int i ∧ PySem.W.notFirst K C (.type "int") = true)) ∧ sp [x, y] H Q E
theorem op_eqO (hs : PySem.W.findIn X.K (.ref C) "__eq__" = some (some (.ref g))) (hf : PySem.W.isFn X.K (.ref g) = true)
    (F : FnR X.prog X.w X.K X.mg X.base CX n g sp) (hr : Room n X.A) (hx : Passes CX X E) : OpR X (compareOp .Eq) (rEqO X.K C sp E) := by
  intro pins s σ H x y v u Q I rx ry h
  obtain ⟨a, dx, fs, rfl, ha, hy, q⟩ := h
  cases (show v = Value.ref a from rx)
  obtain ⟨mA, OA, _⟩ := ins_get I.hok ha
  obtain ⟨_, JA, _⟩ := OA.look
  obtain ⟨m, hF⟩ := I.fr
  have core : ∀ (tb : Value), PySem.W.Looks (model X.prog X.w) s.heap (typeOf u) tb → PySem.W.notFirst X.K C tb = true → wpAny (model X.prog X.w) X.A (compareOp .Eq (.ref a) u) (EP X pins σ Q) X.xe s := by
    intro tb hb hn
    show wpAny (model X.prog X.w) X.A (richCompare .Eq (.ref a) u) _ _ s
    refine PySem.W.cmp_K (op := .Eq) (tb := tb) hr.units0 hF I.ok.mod.kin JA hb hn hs hf ?_
    refine wpAny_mono (wpAny_call (run_fnR (us := [.ref a, u]) (vs := [.ref a, y]) F hr hx I (.cons rfl (.cons ry .nil)) q)) (fun w s' z => ?_) fun _ _ e => e
    obtain ⟨z', H', I', rz, qz⟩ := z
    exact SlX.cmpback rz ⟨z', H', I', rz, qz⟩
  rcases hy with ⟨b, dy, gs, rfl, hb, hn⟩ | ⟨b, ys, rfl, hb, hn⟩ | ⟨i, rfl, hn⟩
  · cases (show u = Value.ref b from ry)
    obtain ⟨mB, OB, _⟩ := ins_get I.hok hb
    obtain ⟨_, JB, _⟩ := OB.look
    exact core _ JB.type hn
  · cases (show u = Value.ref b from ry)
    obtain ⟨_, _, _, o, h1, h2, _⟩ := (show ObjOk X.prog X.w H s.heap b (.tup ys) from I.hok b _ hb)
    have hT : PySem.W.Looks (model X.prog X.w) s.heap (typeOf (.ref b)) o.cls := (PySem.W.Looks.ld h1).andThen .now
    rw [h2] at hT
    exact core _ hT hn
  · obtain ⟨t, e⟩ := (show ∃ t, u = Value.int i t from ry)
    subst e
    exact core _ (PySem.W.Looks.of_pure rfl) hn

/-- len(a) by the class's own def -/
def rLenO (C : Addr) (sp : Sp) (E : XK) : List V → Hp → VK → Prop := fun xs H Q => ∃ a dx fs, xs = [.ref a] ∧ H a = some (.ins C dx fs) ∧ sp [.ref a] H (fun v H' => ∃ i : Int, v = .int i ∧ 0 ≤ i ∧ i < 2 ^ 63 ∧ Q (.int i) H') E
theorem call_lenO (hs : PySem.W.findIn X.K (.ref C) "__len__" = some (some (.ref g))) (hf : PySem.W.isFn X.K (.ref g) = true)
    (F : FnR X.prog X.w X.K X.mg X.base CX n g sp) (hr : Room (n + 1) X.A) (hx : Passes CX X E) : CallR X (.builtin "len") (rLenO C sp E) := by
  intro pins s σ H xs us Q I r h
  obtain ⟨a, dx, fs, rfl, ha, q⟩ := h
  obtain ⟨u, rfl, ru⟩ := r.one
  cases (show u = Value.ref a from ru)
  obtain ⟨mA, OA, _⟩ := ins_get I.hok ha
  obtain ⟨_, JA, _⟩ := OA.look
  obtain ⟨m, hF⟩ := I.fr
  refine PySem.W.len_K hF I.ok.mod.kin JA hs hf ?_
  refine wpAny_mono (wpAny_call (SlX.run_at (us := [.ref a]) (ws := [.ref a]) F hr.in1 I.env0.in1 hx I (.cons rfl .nil) q)) (fun w s' z => ?_) fun _ _ e => e
  obtain ⟨z', H', I', rz, i, rfl, h0, h1, qz⟩ := z
  obtain ⟨t, e⟩ := (show ∃ t, w = Value.int i t from rz)
  subst e
  exact ⟨⟨h0, h1⟩, .int i, H', I'.tok _, ⟨_, rfl⟩, qz⟩

/-! ### sorted -/
/-- sorted(d), d a dict of ints, of any length -/
def rSortD : List V → Hp → VK → Prop := fun xs H Q => ∃ (a : Addr) (kvs : List (Key × V)) (ks : List Int), xs = [.ref a] ∧ Rd H a (.dK kvs) ∧ kvs.map (·.1) = ks.map Sum.inl ∧
  ∀ (ys : List Int) (p : Addr), ys.Perm ks → ys.Pairwise (· ≤ ·) → H p = none → Q (.ref p) (upd H p (.lst (ys.map V.int)))
theorem call_sortD (hcalm : X.calm = true) : CallR X (.builtin "sorted") rSortD := by
  intro pins s σ H xs us Q I r q
  obtain ⟨a, kvs, ks, ex, hd, hks, q⟩ := q
  subst ex
  obtain ⟨u, eu, rx⟩ := vals1 r
  subst eu
  cases rx
  obtain ⟨z, lo, vs, rel, dd⟩ := dk_rd I.hok hd
  obtain ⟨ep, hat⟩ := dd.dictAt
  have hkeys : vs.map (·.1) = ks.map Sum.inl := rel.keys.symm.trans hks
  have hl : vs.length = ks.length := by
    have e := congrArg List.length hkeys
    rw [List.length_map, List.length_map] at e
    exact e
  have hl2 : kvs.length = ks.length := by
    have e := congrArg List.length hks
    rw [List.length_map, List.length_map] at e
    exact e
  have h16 : vs.length ≤ sizeLine := by rw [hl, ← hl2]; exact z
  refine Calls.call_function_entry PyProof.Rows.kind_sorted PyProof.Rows.plain_sorted PyProof.Rows.entry_sorted (PyProof.Rows.args_sorted1 _) ?_
  unfold Builtin.«sorted»
  refine wpAny_bind (m := checkCount "sorted" 1 1 _) (wpAny_pure ?_)
  refine wpAny_bind (PySem.W.kdu_collect (A := X.A.in1) (PySem.W.kdl_dict (knd := mixKind X.prog X.w) (kvs := vs) (ep := ep) lo) (I.ok.hd hcalm) hat h16 fun h' tk acc hk hacc => ?_)
  have hal : acc.toList.length = ks.length := by rw [Array.length_toList, hacc.1, hl]
  have hS : IntsAre acc.toList ks := ints_each hal fun j v e => by
    obtain ⟨k, x, e1, e2⟩ := hacc.2 j v (by rw [← Array.getElem?_toList]; exact e)
    have e3 : (vs.map (·.1))[j]? = some k := by rw [List.getElem?_map, e1]; rfl
    rw [hkeys, List.getElem?_map] at e3
    cases e4 : ks[j]? with
    | none => rw [e4] at e3; cases e3
    | some y =>
      rw [e4] at e3
      have e5 : Sum.inl y = k := Option.some.inj e3
      subst e5
      rcases keyIs_shape (show keyIs (Sum.inl y) v = true from e2) with ⟨i, t, ek, ev⟩ | ⟨z, t, ek, ev⟩
      · cases ek
        exact ⟨y, t, rfl, ev⟩
      · cases ek
  have I1 : Inv X pins σ H { s with heap := h', toks := tk } := I.kept hk
  have hal2 : acc.toList.length ≤ sizeLine := by rw [hal, ← hl2]; exact z
  refine wpAny_bind (wpAny_newList ?_ hal2)
  have hoL : (h'.push (seqObj "list" acc.toList.toArray 0)).get? h'.objs.size = some (seqObj "list" acc.toList.toArray 0) := Heap.get?_push_size _ rfl
  show wpAny _ _ _ _ _ { s with heap := h'.push (seqObj "list" acc.toList.toArray 0), toks := tk }
  refine wpAny_bind (wpAny_holding (wpAny_call_entry PyProof.Rows.slot_list_sort ⟨_, hoL, rfl⟩ PyProof.Rows.entry_list_sort
    (SrtO.list_sort_ord SrtO.swo_int hoL hal2 (fun h2 => SrtO.ints_sortable hS h2) fun out g1 g2 => ⟨.none, rfl, ?_⟩) (PyProof.Rows.args_list_sort _)))
  obtain ⟨k1, k2, k3⟩ := SrtO.ints_out hS g1 g2
  obtain ⟨e', he'⟩ := PyProof.Rows.sortedHeap_at (vs := acc.toList) (out := out.toArray) hoL
  have hlen : ((out.map SrtO.iv).map V.int).length ≤ sizeLine := by
    rw [List.length_map, k2.length_eq, ← hl2]
    exact z
  refine wpAny_pure ⟨_, rfl, .ref h'.objs.size, upd H h'.objs.size (.lst ((out.map SrtO.iv).map V.int)), I1.laid (t' := tk) (fun b u e => ?_) (Nat.le_refl _)
    (show ObjOk X.prog X.w _ _ _ (.lst ((out.map SrtO.iv).map V.int)) from ⟨hlen, out, e', vals_of_ints k1, he'⟩), rfl, q _ _ k2 k3 (I1.hok.fresh (Nat.le_refl _))⟩
  have hb : b < h'.objs.size := Heap.lt_size e
  rw [PyProof.Rows.sortedHeap_old (Nat.ne_of_lt hb) (by rw [size_push']; exact Nat.lt_succ_of_lt hb)]
  exact Heap.get?_push_of_some _ e

/-- sorted(t), t a tuple of pairs of ints, of any length -/
def rSortT (K : PySem.W.Frag) : List V → Hp → VK → Prop := fun vs H Q => ∃ (a : Addr) (xs : List V) (k : V → Int × Int), vs = [V.ref a] ∧ SqT K H a xs ∧ (∀ x ∈ xs, ∃ t, x = V.ref t ∧ H t = some (.tup [.int (k x).1, .int (k x).2])) ∧
  ∀ ys p, SrtO.Srtd (ltP k) ys → ys.Perm xs → H p = none → Q (.ref p) (upd H p (.lst ys))
theorem call_sortT : CallR X (.builtin "sorted") (rSortT X.K) := by
  intro pins s σ H vs us Q I r h
  obtain ⟨a, xs, k, rfl, hs, hx, q⟩ := h
  obtain ⟨its, rv, ⟨o, ho, hc, n, hd⟩, hz⟩ := I.tuple hs
  obtain ⟨u, rfl, ru⟩ := vals1 r
  obtain rfl : u = Value.ref a := ru
  obtain ⟨e1, e2⟩ := refs_back rv fun x m => by
    obtain ⟨t, e, _⟩ := hx x m
    exact ⟨t, e⟩
  have hp : ∀ v ∈ its, Srt.IsPair s.heap v (k (backV v)).1 (k (backV v)).2 := fun v hv => by
    obtain ⟨t, rfl⟩ := e2 v hv
    have hm : V.ref t ∈ xs := by rw [e1]; exact List.mem_map.mpr ⟨_, hv, rfl⟩
    obtain ⟨t', e, ht⟩ := hx _ hm
    cases e
    obtain ⟨_, its2, r2, o2, ho2, hc2, n2, hd2⟩ := I.hok _ _ ht
    obtain ⟨u1, u2, rfl, ri, rj⟩ := vals2 r2
    obtain ⟨t1, rfl⟩ := ri
    obtain ⟨t2, rfl⟩ := rj
    exact ⟨t, o2, t1, t2, n2, rfl, ho2, hc2, hd2⟩
  have hz2 : its.length ≤ sizeLine := by rw [← rv.length]; exact hz
  refine Calls.call_function_entry PyProof.Rows.kind_sorted PyProof.Rows.plain_sorted PyProof.Rows.entry_sorted (PyProof.Rows.args_sorted1 _) ?_
  unfold Builtin.«sorted»
  refine wpAny_bind (m := checkCount "sorted" 1 1 _) (wpAny_pure ?_)
  refine wpAny_bind (wpAny_collect_seq a (.inr rfl) ho hc hd (fun h' hk => ?_) (by rw [List.size_toArray]; exact hz2))
  have et : its.toArray.toList = its := by simp
  rw [et]
  have I1 : Inv X pins σ H { s with heap := h' } := I.kept (t' := s.toks) hk
  refine wpAny_bind (wpAny_newList ?_ hz2)
  have hoL : (h'.push (seqObj "list" its.toArray 0)).get? h'.objs.size = some (seqObj "list" its.toArray 0) := Heap.get?_push_size _ rfl
  show wpAny _ _ _ _ _ { s with heap := h'.push (seqObj "list" its.toArray 0) }
  refine wpAny_bind (wpAny_holding (wpAny_call_entry PyProof.Rows.slot_list_sort ⟨_, hoL, rfl⟩ PyProof.Rows.entry_list_sort
    (SrtO.list_sort_ord (SrtO.swo_lex fun u => k (backV u)) hoL hz2 (fun h2 => SrtO.pairs_sortableO (by omega) (fun v hv => (hp v hv).keeps fun b o e _ => Heap.get?_push_of_some _ (hk b o e)) fun o e => ?_) fun out g1 g2 => ⟨.none, rfl, ?_⟩) (PyProof.Rows.args_list_sort _)))
  · have e' : some o = some (seqObj "list" its.toArray 0) := e.symm.trans hoL
    cases e'
    intro c
    exact absurd (Value.type.inj c) (by decide)
  · have h3 : ∀ u ∈ out, ∃ a, u = Value.ref a := fun u hu => e2 u (g2.perm.mem_iff.mp hu)
    obtain ⟨ep, he'⟩ := PyProof.Rows.sortedHeap_at (vs := its) (out := out.toArray) hoL
    have hb : SrtO.Stb (ltP k) (out.map backV) xs := by
      rw [e1]
      exact SrtO.Stb.map (ltP_swo k) backV g2
    have hlen : (out.map backV).length ≤ sizeLine := by
      rw [hb.len]
      exact hz
    refine wpAny_pure ⟨_, rfl, .ref h'.objs.size, upd H h'.objs.size (.lst (out.map backV)), I1.laid (t' := s.toks) (fun b u e => ?_) (Nat.le_refl _)
      (show ObjOk X.prog X.w _ _ _ (.lst (out.map backV)) from ⟨hlen, out, ep, vals_back h3, he'⟩), rfl, q _ _ (SrtO.srtd_map g1) hb.perm (I1.hok.fresh (Nat.le_refl _))⟩
    have hb : b < h'.objs.size := Heap.lt_size e
    rw [PyProof.Rows.sortedHeap_old (Nat.ne_of_lt hb) (by rw [size_push']; exact Nat.lt_succ_of_lt hb)]
    exact Heap.get?_push_of_some _ e

/-! ### dicts compared -/
/-- how d == e comes out, where every value is True -/
def sameKeys (ka kb : List (Key × V)) : Bool := ka.length == kb.length && ka.all fun p => (valV kb p.1).isSome
def rEqDB : R2 := fun x y H Q => ∃ a b ka kb, x = .ref a ∧ y = .ref b ∧ H a = some (.dK ka) ∧ H b = some (.dK kb) ∧ (∀ p ∈ ka, p.2 = V.bl true) ∧ (∀ p ∈ kb, p.2 = V.bl true) ∧ Q (.bl (sameKeys ka kb)) H
theorem valV_val {kb : List (Key × V)} {k : Key} {v : V} (h : ∀ p ∈ kb, p.2 = V.bl true) (e : valV kb k = some v) : v = V.bl true := by
  unfold valV at e
  cases q : kb.find? fun kv => decide (kv.1 = k) with
  | none => rw [q] at e; cases e
  | some p =>
    rw [q] at e
    have e2 : p.2 = v := Option.some.inj e
    rw [← e2]
    exact h p (List.mem_of_find?_eq_some q)
theorem hits_any {A : Around} {s : Shared} {kb : List (Key × V)} {vb : List (Key × Value)} (hb : ∀ p ∈ kb, p.2 = V.bl true) (rb : KV kb vb) {ka : List (Key × V)} {va : List (Key × Value)} (ra : KV ka va) :
    (∀ p ∈ ka, p.2 = V.bl true) → PySem.W.KeqHits A s vb va (ka.all fun p => (valV kb p.1).isSome) := by
  unfold KV at ra
  induction ra with
  | nil => intro _; exact .nil
  | @cons p q ps qs h t ih =>
    intro hp
    obtain ⟨h1, h2⟩ := h
    obtain ⟨k, v⟩ := q
    have h1' : p.1 = k := h1
    have ev := hp p List.mem_cons_self
    rw [List.all_cons]
    cases e : valV kb p.1 with
    | none =>
      have rr := rb.val p.1
      rw [e] at rr
      cases e3 : valueAt vb p.1 with
      | some y => rw [e3] at rr; exact rr.elim
      | none =>
        rw [h1'] at e3
        show PySem.W.KeqHits A s vb ((k, v) :: qs) (false && _)
        rw [Bool.false_and]
        exact .miss e3
    | some y0 =>
      have ey := valV_val hb e
      subst ey
      have rr : RelO (some (V.bl true)) (valueAt vb p.1) := by rw [← e]; exact rb.val p.1
      obtain ⟨y, hy, ry⟩ := rr.some_of
      rw [h1'] at hy
      rw [ev] at h2
      show PySem.W.KeqHits A s vb ((k, v) :: qs) (true && _)
      exact .hit hy (eqAt_same h2 ry rfl) (ih fun p' hm => hp p' (List.mem_cons_of_mem _ hm))
theorem op_eqDB (hu : X.A.units < cLine) : OpR X (compareOp .Eq) rEqDB := by
  intro pins s σ H x y v u Q I rx ry h
  obtain ⟨a, b, ka, kb, rfl, rfl, ea, eb, ha, hb, q⟩ := h
  obtain rfl : v = Value.ref a := rx
  obtain rfl : u = Value.ref b := ry
  obtain ⟨_, ya, va, ra, da⟩ := (show ObjOk X.prog X.w H s.heap a (.dK ka) from I.hok a _ ea)
  obtain ⟨_, yb, vb, rb, db⟩ := (show ObjOk X.prog X.w H s.heap b (.dK kb) from I.hok b _ eb)
  have hl : va.length = ka.length := ra.length.symm
  have hl2 : vb.length = kb.length := rb.length.symm
  exact PySem.W.keq_eq (knd := mixKind X.prog X.w) (r := ka.all fun p => (valV kb p.1).isSome) ya yb da db hu (fun _ => hits_any hb rb ra ha) (fin_bl I q (by rw [hl, hl2]; rfl))

/-! ### t[::-1] of a tuple -/
theorem adjust_back (n : Nat) : Builtin.Slice.sliceAdjust none none (-1) (n : Int) = ((n : Int) - 1, -1) := by
  unfold Builtin.Slice.sliceAdjust
  rfl
theorem places_back (n : Nat) : Builtin.Slice.slicePlaces ((n : Int) - 1) (-1) (-1) = n := by
  unfold Builtin.Slice.slicePlaces
  have h1 : ¬ ((-1 : Int) > 0) := by decide
  have h2 : (- (-1) : Int) = 1 := by decide
  simp only [h1, if_false, h2, Int.ediv_one]
  split <;> omega
theorem pick_back (xs : Array Value) : ((List.range xs.size).filterMap fun (m : Nat) => xs[((xs.size : Int) - 1 + (m : Int) * (-1)).toNat]?) = xs.toList.reverse := by
  have e : ((List.range xs.size).filterMap fun (m : Nat) => xs[((xs.size : Int) - 1 + (m : Int) * (-1)).toNat]?) = ((List.range xs.size).map fun k => xs.size - 1 - k).filterMap (xs[·]?) := by
    rw [List.filterMap_map]
    have aux : ∀ l : List Nat, (∀ m ∈ l, m < xs.size) → (l.filterMap fun (m : Nat) => xs[((xs.size : Int) - 1 + (m : Int) * (-1)).toNat]?) = l.filterMap ((xs[·]?) ∘ fun k => xs.size - 1 - k) := by
      intro l hl
      induction l with
      | nil => rfl
      | cons m l ih =>
        have hm := hl m List.mem_cons_self
        have e2 : ((xs.size : Int) - 1 + (m : Int) * (-1)).toNat = xs.size - 1 - m := by omega
        rw [List.filterMap_cons, List.filterMap_cons, ih (fun k hk => hl k (List.mem_cons_of_mem _ hk)), e2]
        rfl
    exact aux _ fun m hm => List.mem_range.mp hm
  rw [e, PySem.W.krv_range, List.filterMap_reverse, PySem.W.krv_all]
section
variable {prog : Program} {w : World} {A : Around} {E : Value → Shared → Prop} {s : Shared}
theorem getItem_back {t sl : Addr} {items : Array Value} {u : Tok} {Q : Value → Shared → Prop} (ht : IsTup s.heap t items) (hs : s.heap.IsSliceOf sl .none .none (.int (-1) u))
    (h : Q (.ref s.heap.objs.size) { s with heap := s.heap.push { cls := .type "tuple", data := .seq items.toList.reverse.toArray } })
    (hsz : items.size ≤ sizeLine) : wpAny (model prog w) A (getItem (.ref t) (.ref sl)) Q E s := by
  have hok : sizeOk (.seq items.toList.reverse.toArray) := by
    show items.toList.reverse.toArray.size ≤ sizeLine
    rw [List.size_toArray, List.length_reverse, Array.length_toList]
    exact hsz
  obtain ⟨os, hos, hcs, hds⟩ := id hs
  have hTs : s.TypeIs (.ref sl) "slice" := ⟨os, hos, hcs⟩
  unfold getItem
  try with_reducible refine wpAny_holding ?_
  first | refine wpAny_bind (wpAny_pure ?_) | skip
  refine wpAny_bind (wpAny_sequenceKey ht.typeIs (by decide) ?_)
  refine wpAny_bind (wpAny_callSpecial?_slot (name := Str.ofString "__getitem__") ht.typeIs PyProof.Rows.slot_tuple_getitem
    (wpAny_call_entry PyProof.Rows.slot_tuple_getitem ht.typeIs entry_tuple_getitem ?_ (args_tuple_getitem _ _)))
  show wpAny _ _ (Builtin.Tuple.tupleItemsOf (.ref t) >>= _) _ _ s
  refine wpAny_bind (tupleItemsOf_ ht ?_)
  refine wpAny_bind (wpAny_typeOf hTs ?_)
  rw [if_pos (by decide)]
  refine wpAny_bind ?_
  unfold Builtin.Slice.sliceApplied Builtin.Slice.sliceFields
  refine wpAny_bind (wpAny_bind (wpAny_field hos hds (x := .none) rfl (wpAny_bind (wpAny_field hos hds (x := .none) rfl (wpAny_bind (wpAny_field hos hds (x := .int (-1) u) rfl (wpAny_pure ?_)))))))
  refine wpAny_bind (slicePart_int ?_)
  show wpAny _ _ (if ((-1 : Int) == 0) = true then _ else _) _ _ s
  rw [if_neg (by decide)]
  refine wpAny_bind (slicePart_none (wpAny_bind (slicePart_none (wpAny_bind (wpAny_pure ?_)))))
  show wpAny _ _ (match Builtin.Slice.sliceAdjust none none (-1) (items.size : Int) with | (lo, hi) => pure (lo, (-1 : Int), Builtin.Slice.slicePlaces lo hi (-1))) _ _ s
  rw [adjust_back]
  show wpAny _ _ (pure ((items.size : Int) - 1, (-1 : Int), Builtin.Slice.slicePlaces ((items.size : Int) - 1) (-1) (-1))) _ _ s
  rw [places_back]
  refine wpAny_pure ?_
  have hno : ¬ ((((items.size : Int) - 1) == 0 && (-1 : Int) == 1 && items.size == items.size) = true) := by
    intro q
    rw [Bool.and_eq_true, Bool.and_eq_true] at q
    exact absurd (eq_of_beq q.1.2) (by decide)
  show wpAny _ _ (if (((items.size : Int) - 1) == 0 && (-1 : Int) == 1 && items.size == items.size) = true then _ else _) _ _ s
  rw [if_neg hno, pick_back]
  first
    | exact wpAny_bind (m := Builtin.Tuple.tupleExact _) (wpAny_newObj_type (wpAny_pure ⟨_, rfl, wpAny_pure h⟩) hok)
    | exact wpAny_bind (m := Builtin.Tuple.tupleExact _) (wpAny_newObj_type (wpAny_bind (wpAny_pure (wpAny_pure ⟨_, rfl, wpAny_pure h⟩))) hok)
    | exact wpAny_bind (wpAny_bind (m := Builtin.Tuple.tupleExact _) (wpAny_newObj_type (wpAny_pure (wpAny_pure ⟨_, rfl, wpAny_pure h⟩)) hok))
    | exact wpAny_bind (wpAny_bind (m := Builtin.Tuple.tupleExact _) (wpAny_newObj_type (wpAny_pure ⟨_, rfl, wpAny_pure h⟩) hok))
end
def tRevT (K : PySem.W.Frag) (te : TE) : TE := fun σ H Q => te σ H fun x H1 => ∃ a xs, x = .ref a ∧ SqT K H1 a xs ∧ ∀ p, H1 p = none → Q (.ref p) (upd H1 p (.tup xs.reverse))
theorem pe_revT {e : Expr} {te : TE} {k : Nat} {p1 p2 p3 pos : Pos} (he : PE X e te) : PE X (.Subscript e (.Slice none none (some (.UnaryOp .USub (.Constant (.int 1) k p1) p2)) p3) pos) (tRevT X.K te) := by
  refine ⟨fun pins s σ H Q I h => ?_⟩
  refine Subscript_ (thn (he.run pins s σ H _ I h) fun v s1 ⟨x, H1, I1, r1, q1⟩ => ?_)
  obtain ⟨a, xs, ex, hx, q⟩ := q1
  subst ex
  cases r1
  have hst : PO X (some (.UnaryOp .USub (.Constant (.int 1) k p1) p2)) (tPart (tUn (rU fun i => .int (-i)) (tC (.int 1)))) := po_some (pe_un un_neg pe_int)
  refine wpAny_Slice (thn (po_none.run pins s1 σ H1 (fun o H2 => o = none ∧ H2 = H1) I1 ⟨rfl, rfl⟩) fun vl s2 ⟨l, H2, I2, pl, el, e2⟩ => ?_)
  subst el e2
  refine thn (po_none.run pins s2 σ H2 (fun o H3 => o = none ∧ H3 = H2) I2 ⟨rfl, rfl⟩) fun vu s3 ⟨u, H3, I3, pu, eu, e3⟩ => ?_
  subst eu e3
  refine thn (hst.run pins s3 σ H3 (fun o H4 => o = some (-1) ∧ H4 = H3) I3 ⟨1, rfl, -1, rfl, rfl, rfl⟩) fun vs s4 ⟨o, H4, I4, ps, eo, e4⟩ => ?_
  subst eo e4
  cases pl
  cases pu
  generalize em : some (-1 : Int) = om at ps
  cases ps with
  | none => cases em
  | int i t =>
    have ei : i = -1 := (Option.some.inj em).symm
    subst ei
    have I5 : Inv X pins σ H4 { s4 with heap := s4.heap.push { cls := .type "slice", data := .fields #[.none, .none, .int (-1) t] } } := I4.kept (t' := s4.toks) fun b ob q => Heap.get?_push_of_some _ q
    obtain ⟨its, r, ht, hz⟩ := I5.tuple hx
    have hlen := r.length
    show wpAny (model X.prog X.w) X.A (subscriptTail e (.Slice none none (some (.UnaryOp .USub (.Constant (.int 1) k p1) p2)) p3) (.ref a) (.ref s4.heap.objs.size)) (EP X pins σ Q) X.xe { s4 with heap := s4.heap.push { cls := .type "slice", data := .fields #[.none, .none, .int (-1) t] } }
    refine tail_any (ops := [.ref a, .ref s4.heap.objs.size]) ht.typeIs (PyProof.Rows.slot_tuple_getitem.lookup) ?_ (by with_unfolding_all rfl)
    refine getItem_back ht (Heap.IsSliceOf.new _ .none .none (.int (-1) t)) ?_ (by rw [List.size_toArray]; omega)
    refine ⟨.ref _, _, I5.laid (t' := s4.toks) (o := .tup xs.reverse) (fun b ob q => Heap.get?_push_of_some _ q) (Nat.le_refl _) ?_, rfl, q _ (I5.hok.fresh (Nat.le_refl _))⟩
    refine ⟨by rw [List.length_reverse]; exact hz, _, r.reverse, _, Heap.get?_push_size _ rfl, rfl, 0, ?_⟩
    simp

/-! ### range(n) as a value, its length -/
theorem cr_range1 : CallR X (.type "range") (fun vs H Q => ∃ j, vs = [V.int j] ∧ ∀ p, H p = none → Q (.ref p) (upd H p (.rng 0 j))) := by
  intro pins s σ H vs us Q I r h
  obtain ⟨j, rfl, q⟩ := h
  obtain ⟨u, rfl, ru⟩ := vals1 r
  obtain ⟨t, rfl⟩ := ru
  refine call_range_1 ⟨.ref s.heap.objs.size, upd H s.heap.objs.size (.rng 0 j), I.laid (t' := s.toks + 1 + 1) (fun b o e => Heap.get?_push_of_some _ e) (Nat.le_refl _) ?_, rfl, q _ (I.hok.fresh (Nat.le_refl _))⟩
  exact ⟨s.toks, t, s.toks + 1, Heap.get?_push_size _ rfl⟩
theorem call_lenRg : CallR X (.builtin "len") (fun xs H Q => ∃ (a : Addr) (n : Nat), xs = [.ref a] ∧ H a = some (.rng 0 (n : Int)) ∧ (n : Int) < 2 ^ 62 ∧ Q (.int n) H) := by
  intro pins s σ H xs us Q I r h
  obtain ⟨a, n, rfl, ha, hn, q⟩ := h
  obtain ⟨u, rfl, ru⟩ := vals1 r
  obtain rfl : u = Value.ref a := ru
  obtain ⟨t, v, w', e⟩ := I.hok a _ ha
  refine call_len_range (n := n) (show IsRange s.heap a 0 n 1 t v w' from e) ?_ (by omega) ⟨.int n, H, I.tok _, ⟨_, rfl⟩, q⟩
  rw [rangeSize_one]
  split <;> omega

/-! ### a power of any size that fits -/
theorem op_powW : OpR X (binaryOp .Pow) (rI (fun i j => 0 ≤ j ∧ (Builtin.Int.intBits i : Int) * j ≤ 2 ^ 27) fun i j => .int (i ^ j.toNat)) := opI fun _ _ _ _ _ _ _ hc q => pow_int hc.1 hc.2 q
end
end Sps
set_option Elab.async false
set_option linter.all false
set_option maxRecDepth 100000
set_option maxHeartbeats 4000000
/-! Sets of positions as lists of pairs: plain mathematics. -/
namespace Sps
abbrev Pr := Int × Int
def inP (x : Int) (p : Pr) : Prop := p.1 ≤ x ∧ x < p.2
def inS (x : Int) (ps : List Pr) : Prop := ∃ p, p ∈ ps ∧ inP x p
def okP (p : Pr) : Prop := 0 ≤ p.1 ∧ p.1 < p.2 ∧ p.2 ≤ 1000000
/-- each pair is one, they ascend and neither overlap nor touch -/
structure Norm (ps : List Pr) : Prop where
  ok : ∀ p ∈ ps, okP p
  asc : ps.Pairwise fun p q => p.2 < q.1
theorem inS_nil {x : Int} : ¬ inS x [] := fun ⟨_, h, _⟩ => by cases h
theorem inS_cons {x : Int} {p : Pr} {ps : List Pr} : inS x (p :: ps) ↔ inP x p ∨ inS x ps := by
  constructor
  · rintro ⟨q, hq, hx⟩
    rcases List.mem_cons.mp hq with e | h
    · exact .inl (e ▸ hx)
    · exact .inr ⟨q, h, hx⟩
  · rintro (h | ⟨q, hq, hx⟩)
    · exact ⟨p, List.mem_cons_self, h⟩
    · exact ⟨q, List.mem_cons_of_mem _ hq, hx⟩
theorem inS_append {x : Int} {ps qs : List Pr} : inS x (ps ++ qs) ↔ inS x ps ∨ inS x qs := by
  constructor
  · rintro ⟨q, hq, hx⟩
    rcases List.mem_append.mp hq with h | h
    · exact .inl ⟨q, h, hx⟩
    · exact .inr ⟨q, h, hx⟩
  · rintro (⟨q, hq, hx⟩ | ⟨q, hq, hx⟩)
    · exact ⟨q, List.mem_append.mpr (.inl hq), hx⟩
    · exact ⟨q, List.mem_append.mpr (.inr hq), hx⟩
theorem inS_one {x : Int} {p : Pr} : inS x [p] ↔ inP x p := by
  rw [inS_cons]
  exact ⟨fun h => h.elim id fun z => (inS_nil z).elim, .inl⟩
theorem Norm.nil : Norm [] := ⟨fun _ h => (by cases h), List.Pairwise.nil⟩
theorem Norm.tail {p : Pr} {ps : List Pr} (h : Norm (p :: ps)) : Norm ps := ⟨fun q m => h.ok q (List.mem_cons_of_mem _ m), (List.pairwise_cons.mp h.asc).2⟩
theorem Norm.head {p : Pr} {ps : List Pr} (h : Norm (p :: ps)) : ∀ q ∈ ps, p.2 < q.1 := (List.pairwise_cons.mp h.asc).1
theorem Norm.snoc {ps : List Pr} {p : Pr} (h : Norm ps) (hp : okP p) (hl : ∀ q ∈ ps, q.2 < p.1) : Norm (ps ++ [p]) := by
  refine ⟨fun q m => ?_, ?_⟩
  · rcases List.mem_append.mp m with m | m
    · exact h.ok q m
    · rw [List.mem_singleton.mp m]; exact hp
  · refine List.pairwise_append.mpr ⟨h.asc, List.pairwise_singleton _ _, fun a ha b hb => ?_⟩
    rw [List.mem_singleton.mp hb]
    exact hl a ha
/-- two such lists with the same positions are one -/
theorem Norm.uniq : ∀ {ps qs : List Pr}, Norm ps → Norm qs → (∀ x, inS x ps ↔ inS x qs) → ps = qs
  | [], [], _, _, _ => rfl
  | [], q :: qs, _, hq, h => by
    have k := hq.ok q List.mem_cons_self
    exact (inS_nil ((h q.1).mpr (inS_cons.mpr (.inl ⟨Int.le_refl _, k.2.1⟩)))).elim
  | p :: ps, [], hp, _, h => by
    have k := hp.ok p List.mem_cons_self
    exact (inS_nil ((h p.1).mp (inS_cons.mpr (.inl ⟨Int.le_refl _, k.2.1⟩)))).elim
  | p :: ps, q :: qs, hp, hq, h => by
    have kp := hp.ok p List.mem_cons_self
    have kq := hq.ok q List.mem_cons_self
    have lo : ∀ {r : Pr} {rs : List Pr} {x : Int}, Norm (r :: rs) → inS x rs → r.2 < x := fun {r rs x} hn ⟨t, mt, hx⟩ => by
      have a := hn.head t mt
      have b := hx.1
      omega
    have c1 := inS_cons.mp ((h p.1).mp (inS_cons.mpr (.inl ⟨Int.le_refl _, kp.2.1⟩)))
    have c2 := inS_cons.mp ((h q.1).mpr (inS_cons.mpr (.inl ⟨Int.le_refl _, kq.2.1⟩)))
    have e1 : p.1 = q.1 := by
      have a1 : q.1 ≤ p.1 := by
        rcases c1 with c | c
        · exact c.1
        · have := lo hq c; have := kq.2.1; omega
      have a2 : p.1 ≤ q.1 := by
        rcases c2 with c | c
        · exact c.1
        · have := lo hp c; have := kp.2.1; omega
      omega
    -- neither ends ahead of the other one
    have nolt : ∀ {r s : Pr} {rs ss : List Pr}, Norm (r :: rs) → Norm (s :: ss) → (∀ x, inS x (s :: ss) → inS x (r :: rs)) → r.1 = s.1 → ¬ r.2 < s.2 := fun {r s rs ss} hr hs hh e lt => by
      have kr := (hr.ok r List.mem_cons_self).2.1
      have a := hh r.2 (inS_cons.mpr (.inl ⟨by omega, lt⟩))
      rcases inS_cons.mp a with c | c
      · have := c.2; omega
      · have := lo hr c; omega
    have e2 : p.2 = q.2 := by
      have a := nolt hp hq (fun x => (h x).mpr) e1
      have b := nolt hq hp (fun x => (h x).mp) e1.symm
      omega
    have e : p = q := Prod.ext e1 e2
    subst e
    have t : ps = qs := Norm.uniq hp.tail hq.tail fun x => by
      constructor
      · intro hx
        rcases inS_cons.mp ((h x).mp (inS_cons.mpr (.inr hx))) with c | c
        · have := lo hp hx; have := c.2; omega
        · exact c
      · intro hx
        rcases inS_cons.mp ((h x).mpr (inS_cons.mpr (.inr hx))) with c | c
        · have := lo hq hx; have := c.2; omega
        · exact c
    rw [t]

/-! ### one turn of merging: the last one grows, or a new one follows -/
/-- what holds of what was found, when what is left to come begins at z or later -/
structure Mrg (fs pre : List Pr) (z : Int) : Prop where
  norm : Norm fs
  same : ∀ x, inS x fs ↔ inS x pre
  le : ∀ f ∈ fs, f.1 ≤ z
theorem Mrg.start {z : Int} : Mrg [] [] z := ⟨.nil, fun _ => Iff.rfl, fun _ h => by cases h⟩
theorem Mrg.later {fs pre : List Pr} {z z' : Int} (m : Mrg fs pre z) (h : z ≤ z') : Mrg fs pre z' := ⟨m.norm, m.same, fun f hf => Int.le_trans (m.le f hf) h⟩
theorem Mrg.add {fs pre : List Pr} {p : Pr} (m : Mrg fs pre p.1) (hp : okP p) (hl : ∀ f ∈ fs, f.2 < p.1) : Mrg (fs ++ [p]) (pre ++ [p]) p.1 := by
  refine ⟨m.norm.snoc hp hl, fun x => ?_, fun f hf => ?_⟩
  · rw [inS_append, inS_append, m.same x]
  · rcases List.mem_append.mp hf with h | h
    · exact m.le f h
    · rw [List.mem_singleton.mp h]; exact Int.le_refl _
theorem Norm.last_lt {gs : List Pr} {l : Pr} (h : Norm (gs ++ [l])) : ∀ g ∈ gs, g.2 < l.1 := fun g hg => (List.pairwise_append.mp h.asc).2.2 g hg l (List.mem_singleton.mpr rfl)
theorem Norm.init {gs : List Pr} {l : Pr} (h : Norm (gs ++ [l])) : Norm gs := ⟨fun p m => h.ok p (List.mem_append.mpr (.inl m)), (List.pairwise_append.mp h.asc).1⟩
theorem Mrg.grow {gs pre : List Pr} {l p : Pr} (m : Mrg (gs ++ [l]) pre p.1) (hp : okP p) (hl : p.1 ≤ l.2) : Mrg (gs ++ [(l.1, if p.2 > l.2 then p.2 else l.2)]) (pre ++ [p]) p.1 := by
  have kl := m.norm.ok l (List.mem_append.mpr (.inr (List.mem_singleton.mpr rfl)))
  have ll := m.le l (List.mem_append.mpr (.inr (List.mem_singleton.mpr rfl)))
  have e := hp.2.1
  have e3 := hp.2.2
  have k1 := kl.1
  have k2 := kl.2.1
  have k3 := kl.2.2
  have okn : okP (l.1, if p.2 > l.2 then p.2 else l.2) := by
    refine ⟨k1, ?_, ?_⟩
    · show l.1 < (if p.2 > l.2 then p.2 else l.2)
      split <;> omega
    · show (if p.2 > l.2 then p.2 else l.2) ≤ 1000000
      split <;> omega
  refine ⟨m.norm.init.snoc okn m.norm.last_lt, fun x => ?_, fun f hf => ?_⟩
  · rw [inS_append, inS_append, ← m.same x, inS_append, inS_one, inS_one, inS_one]
    unfold inP
    show _ ∨ (l.1 ≤ x ∧ x < (if p.2 > l.2 then p.2 else l.2)) ↔ _
    constructor
    · rintro (h | ⟨h1, h2⟩)
      · exact .inl (.inl h)
      · by_cases c : p.2 > l.2
        · rw [if_pos c] at h2
          by_cases d : x < l.2
          · exact .inl (.inr ⟨h1, d⟩)
          · exact .inr ⟨by omega, h2⟩
        · rw [if_neg c] at h2
          exact .inl (.inr ⟨h1, h2⟩)
    · rintro ((h | ⟨h1, h2⟩) | ⟨h1, h2⟩)
      · exact .inl h
      · exact .inr ⟨h1, by split <;> omega⟩
      · exact .inr ⟨by omega, by split <;> omega⟩
  · rcases List.mem_append.mp hf with h | h
    · exact m.le f (List.mem_append.mpr (.inl h))
    · rw [List.mem_singleton.mp h]; exact ll

/-! ### what is left out -/
structure Gap (gs pre : List Pr) (b : Int) : Prop where
  norm : Norm gs
  lo : 0 ≤ b
  hi : b ≤ 1000000
  same : ∀ x, inS x gs ↔ (0 ≤ x ∧ x < b) ∧ ¬ inS x pre
  lt : ∀ g ∈ gs, g.2 < b
  pre : ∀ x, inS x pre → x < b
theorem Gap.start : Gap [] [] 0 := by
  refine ⟨.nil, Int.le_refl _, by decide, fun x => ⟨fun h => (inS_nil h).elim, fun h => ?_⟩, fun _ h => (by cases h), fun _ h => (inS_nil h).elim⟩
  have := h.1.1
  have := h.1.2
  omega
theorem Gap.skip {gs pre : List Pr} {p : Pr} {b : Int} (g : Gap gs pre b) (hp : okP p) (he : ¬ b < p.1) (hb : b ≤ p.1) : Gap gs (pre ++ [p]) p.2 := by
  have h1 := hp.2.1
  have h2 := hp.2.2
  have h3 := hp.1
  refine ⟨g.norm, by omega, h2, fun x => ?_, fun f hf => by have := g.lt f hf; omega, fun x hx => ?_⟩
  · rw [inS_append, inS_one, g.same x]
    unfold inP
    constructor
    · rintro ⟨⟨a, c⟩, d⟩
      exact ⟨⟨a, by omega⟩, fun z => z.elim d fun z => by omega⟩
    · rintro ⟨⟨a, c⟩, d⟩
      refine ⟨⟨a, ?_⟩, fun z => d (.inl z)⟩
      by_cases q : x < b
      · exact q
      · exact (d (.inr ⟨by omega, c⟩)).elim
  · rcases inS_append.mp hx with h | h
    · have := g.pre x h; omega
    · exact (inS_one.mp h).2
theorem Gap.push {gs pre : List Pr} {p : Pr} {b : Int} (g : Gap gs pre b) (hp : okP p) (hb : b < p.1) : Gap (gs ++ [(b, p.1)]) (pre ++ [p]) p.2 := by
  have h1 := hp.2.1
  have h2 := hp.2.2
  have h3 := g.lo
  refine ⟨g.norm.snoc ⟨g.lo, hb, by show p.1 ≤ 1000000; omega⟩ g.lt, by omega, h2, fun x => ?_, fun f hf => ?_, fun x hx => ?_⟩
  · rw [inS_append, inS_one, inS_append, inS_one, g.same x]
    unfold inP
    show _ ∨ (b ≤ x ∧ x < p.1) ↔ _
    constructor
    · rintro (⟨⟨a, c⟩, d⟩ | ⟨a, c⟩)
      · exact ⟨⟨a, by omega⟩, fun z => z.elim d fun z => by omega⟩
      · refine ⟨⟨by omega, by omega⟩, fun z => z.elim (fun z => ?_) fun z => by omega⟩
        have := g.pre x z
        omega
    · rintro ⟨⟨a, c⟩, d⟩
      by_cases q : x < b
      · exact .inl ⟨⟨a, q⟩, fun z => d (.inl z)⟩
      · refine .inr ⟨by omega, ?_⟩
        by_cases q2 : x < p.1
        · exact q2
        · exact (d (.inr ⟨by omega, c⟩)).elim
  · rcases List.mem_append.mp hf with h | h
    · have := g.lt f h; omega
    · rw [List.mem_singleton.mp h]; exact h1
  · rcases inS_append.mp hx with h | h
    · have := g.pre x h; omega
    · exact (inS_one.mp h).2
theorem Gap.done {gs pre : List Pr} {b : Int} (g : Gap gs pre b) (hb : ¬ b < 1000000) : ∀ x, inS x gs ↔ (0 ≤ x ∧ x < 1000000) ∧ ¬ inS x pre := fun x => by
  have e : b = 1000000 := by have := g.hi; omega
  rw [g.same x, e]
theorem Gap.last {gs pre : List Pr} {b : Int} (g : Gap gs pre b) (hb : b < 1000000) : Norm (gs ++ [(b, 1000000)]) ∧ ∀ x, inS x (gs ++ [(b, 1000000)]) ↔ (0 ≤ x ∧ x < 1000000) ∧ ¬ inS x pre := by
  refine ⟨g.norm.snoc ⟨g.lo, hb, Int.le_refl _⟩ g.lt, fun x => ?_⟩
  rw [inS_append, inS_one, g.same x]
  unfold inP
  show _ ∨ (b ≤ x ∧ x < 1000000) ↔ _
  have h3 := g.lo
  constructor
  · rintro (⟨⟨a, c⟩, d⟩ | ⟨a, c⟩)
    · exact ⟨⟨a, by omega⟩, d⟩
    · refine ⟨⟨by omega, c⟩, fun z => ?_⟩
      have := g.pre x z
      omega
  · rintro ⟨⟨a, c⟩, d⟩
    by_cases q : x < b
    · exact .inl ⟨⟨a, q⟩, d⟩
    · exact .inr ⟨by omega, c⟩
theorem Norm.inR {ps : List Pr} (h : Norm ps) {x : Int} (hx : inS x ps) : 0 ≤ x ∧ x < 1000000 := by
  obtain ⟨p, hp, h1, h2⟩ := hx
  have := h.ok p hp
  unfold okP at this
  omega

/-! ### how many positions -/
/-- how many of the numbers below n have it -/
def cnt (P : Int → Prop) [DecidablePred P] : Nat → Int
  | 0 => 0
  | n + 1 => cnt P n + if P (n : Int) then 1 else 0
theorem cnt_congr {P R : Int → Prop} [DecidablePred P] [DecidablePred R] : ∀ {n : Nat}, (∀ x : Int, 0 ≤ x → x < n → (P x ↔ R x)) → cnt P n = cnt R n
  | 0, _ => rfl
  | n + 1, h => by
    have ih := cnt_congr (P := P) (R := R) (n := n) fun x h0 h1 => h x h0 (by omega)
    have e := h (n : Int) (by omega) (by omega)
    show cnt P n + _ = cnt R n + _
    rw [ih]
    by_cases c : P (n : Int)
    · rw [if_pos c, if_pos (e.mp c)]
    · rw [if_neg c, if_neg fun z => c (e.mpr z)]
theorem cnt_or_and {P R : Int → Prop} [DecidablePred P] [DecidablePred R] : ∀ n : Nat, cnt (fun x => P x ∨ R x) n + cnt (fun x => P x ∧ R x) n = cnt P n + cnt R n
  | 0 => rfl
  | n + 1 => by
    have ih := cnt_or_and (P := P) (R := R) n
    show (cnt _ n + _) + (cnt _ n + _) = (cnt P n + _) + (cnt R n + _)
    by_cases a : P (n : Int) <;> by_cases b : R (n : Int) <;> simp only [a, b, or_true, true_or, or_self, and_self, and_false, false_and, and_true, true_and, if_true, if_false, or_false, false_or] <;> omega
theorem cnt_sub {P R : Int → Prop} [DecidablePred P] [DecidablePred R] : ∀ n : Nat, cnt (fun x => P x ∧ ¬ R x) n = cnt P n - cnt (fun x => P x ∧ R x) n
  | 0 => rfl
  | n + 1 => by
    have ih := cnt_sub (P := P) (R := R) n
    show cnt _ n + _ = (cnt P n + _) - (cnt _ n + _)
    by_cases a : P (n : Int) <;> by_cases b : R (n : Int) <;> simp only [a, b, not_true, not_false_iff, and_self, and_false, false_and, and_true, true_and, if_true, if_false] <;> omega
theorem cnt_none {P : Int → Prop} [DecidablePred P] : ∀ n : Nat, (∀ x, ¬ P x) → cnt P n = 0
  | 0, _ => rfl
  | n + 1, h => by
    show cnt P n + _ = 0
    rw [cnt_none n h, if_neg (h _)]
    rfl
theorem cnt_iv {a b : Int} (h0 : 0 ≤ a) (h : a ≤ b) : ∀ n : Nat, cnt (fun x => a ≤ x ∧ x < b) n = if (n : Int) ≤ a then 0 else if (n : Int) ≤ b then (n : Int) - a else b - a
  | 0 => by
    show (0 : Int) = _
    rw [if_pos (by omega)]
  | n + 1 => by
    have ih := cnt_iv (a := a) (b := b) h0 h n
    show cnt _ n + _ = _
    rw [ih]
    by_cases c : a ≤ (n : Int) ∧ (n : Int) < b
    · rw [if_pos c]
      split <;> split <;> first | omega | (split <;> first | omega | (split <;> omega))
    · rw [if_neg c]
      split <;> split <;> first | omega | (split <;> first | omega | (split <;> omega))
instance (x : Int) (p : Pr) : Decidable (inP x p) := by unfold inP; infer_instance
instance decS (ps : List Pr) : DecidablePred fun x => inS x ps := fun x => by
  have e : inS x ps ↔ (ps.any fun p => decide (inP x p)) = true := by
    rw [List.any_eq_true]
    exact ⟨fun ⟨p, h1, h2⟩ => ⟨p, h1, decide_eq_true h2⟩, fun ⟨p, h1, h2⟩ => ⟨p, h1, of_decide_eq_true h2⟩⟩
  exact decidable_of_iff _ e.symm
/-- the sum that len takes -/
def size (ps : List Pr) : Int := (ps.map fun p => p.2 - p.1).sum
theorem Norm.size_cnt : ∀ {ps : List Pr}, Norm ps → size ps = cnt (fun x => inS x ps) 1000000
  | [], _ => (cnt_none 1000000 fun x => inS_nil).symm
  | p :: ps, h => by
    have ih := Norm.size_cnt h.tail
    have k := h.ok p List.mem_cons_self
    have k1 := k.1
    have k2 := k.2.1
    have k3 := k.2.2
    have e : cnt (fun x => inS x (p :: ps)) 1000000 = cnt (fun x => (p.1 ≤ x ∧ x < p.2) ∨ inS x ps) 1000000 := cnt_congr fun x _ _ => inS_cons
    have d := cnt_or_and (P := fun x => p.1 ≤ x ∧ x < p.2) (R := fun x => inS x ps) 1000000
    have z : cnt (fun x => (p.1 ≤ x ∧ x < p.2) ∧ inS x ps) 1000000 = 0 := cnt_none _ fun x ⟨hx, q, mq, hq⟩ => by
      have a := h.head q mq
      have b := hq.1
      omega
    have iv := cnt_iv (a := p.1) (b := p.2) k1 (by omega) 1000000
    rw [if_neg (by omega)] at iv
    have iv2 : cnt (fun x => p.1 ≤ x ∧ x < p.2) 1000000 = p.2 - p.1 := by
      rw [iv]
      split <;> omega
    rw [e]
    show (((p :: ps).map fun p => p.2 - p.1).sum) = _
    rw [List.map_cons, List.sum_cons]
    have ih' : (ps.map fun p => p.2 - p.1).sum = cnt (fun x => inS x ps) 1000000 := ih
    omega
theorem cnt_pos {P : Int → Prop} [DecidablePred P] : ∀ n : Nat, 0 ≤ cnt P n ∧ cnt P n ≤ n
  | 0 => ⟨Int.le_refl _, Int.le_refl _⟩
  | n + 1 => by
    have ih := cnt_pos (P := P) n
    show 0 ≤ cnt P n + _ ∧ cnt P n + _ ≤ ((n + 1 : Nat) : Int)
    split <;> omega
theorem Norm.size_ok {ps : List Pr} (h : Norm ps) : 0 ≤ size ps ∧ size ps ≤ 1000000 := by
  rw [h.size_cnt]
  exact cnt_pos 1000000

/-! ### keys without repeats -/
theorem sub_len : ∀ {l m : List Int}, l.Nodup → (∀ x ∈ l, x ∈ m) → l.length ≤ m.length
  | [], m, _, _ => Nat.zero_le _
  | x :: l, m, hn, hs => by
    obtain ⟨h1, h2⟩ := List.nodup_cons.mp hn
    have hx := hs x List.mem_cons_self
    have hl := List.length_erase_of_mem hx
    have hp := List.length_pos_of_mem hx
    have ih := sub_len (l := l) (m := m.erase x) h2 fun y hy => (List.mem_erase_of_ne (fun e => h1 (by rw [← e]; exact hy))).mpr (hs y (List.mem_cons_of_mem _ hy))
    show l.length + 1 ≤ m.length
    omega
/-- as many, and all of the one in the other: the same -/
theorem sub_eq {l m : List Int} (hl : l.Nodup) (hm : m.Nodup) (e : l.length = m.length) (h : ∀ x ∈ l, x ∈ m) : ∀ x ∈ m, x ∈ l := by
  intro x hx
  by_cases c : x ∈ l
  · exact c
  · have h2 := sub_len (l := l) (m := m.erase x) hl fun y hy => (List.mem_erase_of_ne (fun e => c (by rw [← e]; exact hy))).mpr (h y hy)
    have h3 := List.length_erase_of_mem hx
    have h4 := List.length_pos_of_mem hx
    omega
end Sps
set_option Elab.async false
set_option linter.all false
set_option maxRecDepth 100000
set_option maxHeartbeats 4000000
/-! The program's own defs: what each of them promises. -/
namespace Sps
open PySem PySem.Spec PyProof.Rows L2
abbrev pw : Program := PySem.Challenge.pw_oneedition_k37_spans_of_any_values
def top (i : Nat) : Stmt := pw.main.body.getD i (.Pass ⟨0, 0, 0, 0⟩)
abbrev sWhole : Stmt := top 4
abbrev sWithin : Stmt := top 5
abbrev sIsPair : Stmt := top 8
abbrev sMerged : Stmt := top 9
abbrev sGaps : Stmt := top 10
abbrev sInit : Stmt := inClass (top 11) 0
abbrev sAnd : Stmt := inClass (top 11) 1
abbrev sOr : Stmt := inClass (top 11) 2
abbrev sSub : Stmt := inClass (top 11) 3
abbrev sIn : Stmt := inClass (top 11) 4
abbrev sLen : Stmt := inClass (top 11) 5
abbrev sEq : Stmt := inClass (top 11) 6

/-- what the top leaves of names -/
structure Names (mg : Str → Option Value) : Prop where
  isinstance : mg "isinstance" = none
  bool : mg "bool" = none
  int : mg "int" = none
  tuple : mg "tuple" = none
  len : mg "len" = none
  sorted : mg "sorted" = none
  max : mg "max" = none
  min : mg "min" = none
  all : mg "all" = none
  any : mg "any" = none
  range : mg "range" = none
  sum : mg "sum" = none
  abs : mg "abs" = none
  dict : mg "dict" = none
  list : mg "list" = none
  END : ∃ t, mg "END" = some (.int 1000000 t)

theorem iteNS_not {c A B : Prop} [Decidable c] (hc : ¬ c) (h : A) : if (!decide c) = true then A else B := by
  rw [decide_eq_false hc]
  exact iteT h
/-! ### data in the heap -/
abbrev TP := Addr × Int × Int
def rf (t : TP) : V := .ref t.1
def TPs (H : Hp) (ts : List TP) : Prop := ∀ t ∈ ts, H t.1 = some (.tup [.int t.2.1, .int t.2.2])
def prs (ts : List TP) : List Pr := ts.map (·.2)
theorem TPs.same {H H' : Hp} {ts : List TP} (h : TPs H ts) (s : Same H H') : TPs H' ts := fun t m => s _ _ (h t m)
theorem TPs.app {H : Hp} {ts us : List TP} (h : TPs H ts) (k : TPs H us) : TPs H (ts ++ us) := fun t m => (List.mem_append.mp m).elim (h t) (k t)
theorem TPs.one {H : Hp} {t : TP} (h : H t.1 = some (.tup [.int t.2.1, .int t.2.2])) : TPs H [t] := fun u m => by rw [List.mem_singleton.mp m]; exact h
theorem TPs.nil {H : Hp} : TPs H [] := fun _ m => by cases m
theorem prs_app {ts us : List TP} : prs (ts ++ us) = prs ts ++ prs us := List.map_append
theorem prs_mem {ts : List TP} {t : TP} (h : t ∈ ts) : t.2 ∈ prs ts := List.mem_map.mpr ⟨t, h, rfl⟩
/-- a tuple of pairs stands at a -/
def PT (H : Hp) (a : Addr) (ps : List Pr) : Prop := ∃ ts, H a = some (.tup (ts.map rf)) ∧ TPs H ts ∧ prs ts = ps
theorem PT.same {H H' : Hp} {a : Addr} {ps : List Pr} (h : PT H a ps) (s : Same H H') : PT H' a ps := let ⟨ts, h1, h2, h3⟩ := h; ⟨ts, s _ _ h1, h2.same s, h3⟩
theorem Same.upd {H : Hp} {p : Addr} {o : HO} (h : H p = none) : Same H (L2.upd H p o) := fun b u e => by rw [upd_ne (ne_of_none e h)]; exact e
theorem Same.upd' {H H1 : Hp} {p : Addr} {o : HO} (s : Same H H1) (h : H1 p = none) : Same H (L2.upd H1 p o) := s.trans (Same.upd h)
/-- a store at a place that is none of the old ones -/
theorem Same.put {H H1 : Hp} {p : Addr} {o : HO} (s : Same H H1) (h : H p = none) : Same H (L2.upd H1 p o) := fun b u e => by rw [upd_ne (ne_of_none e h)]; exact s b u e
theorem tupAt {K : PySem.W.Frag} {H : Hp} {a : Addr} {xs : List V} (h : H a = some (.tup xs)) : SqT K H a xs := SqT.of h

section
variable {P : Program} {w : World} {K : PySem.W.Frag} {mg : Str → Option Value} {base : Heap}
/-! ### is_within -/
/-- no int, or a bool -/
def NoInt (K : PySem.W.Frag) (H : Hp) (x : V) : Prop := ∃ t, TyX K H x t ∧ (PySem.W.kitOne K t (.type "int") = some false ∨ (PySem.W.kitOne K t (.type "int") = some true ∧ PySem.W.kitOne K t (.type "bool") = some true))
def spWhole (K : PySem.W.Frag) : Sp := fun vs H Q _ => ∃ x : V, vs = [x] ∧ ((∃ v, x = .int v ∧ Q (.bl true) H) ∨ (NoInt K H x ∧ Q (.bl false) H))
theorem scWh : FnScope ["value"] ["value"] (defScope sWhole) := ⟨rfl, rfl, rfl, by decide +kernel, rfl, by decide +kernel, by decide +kernel⟩
theorem ok_whole {f : Addr} {fd : FuncData} (F : Fun K "is_whole_number" "is_whole_number" sWhole f fd) (T : Names mg) : FnOk P w K mg base CX0 1 f fd ["value"] (spWhole K) := by
  refine F.ok scWh (fun vs H Q E h => ?_) (fun cdv A outer s H vs Q E hr h => ?_)
  · obtain ⟨x, rfl, _⟩ := h
    rfl
  · obtain ⟨x, rfl, h⟩ := h
    refine ⟨_, pss_one (ps_ret (pe_and (pe_callB call_isi (by rfl) T.isinstance (by decide +kernel) (pa_cons (pv 0) (pa_cons (pe_bltn (v := .ty "int") (by rfl) T.int (by decide +kernel) rfl) pa_nil)))
      (pe_one (pe_not (pe_callB call_isi (by rfl) T.isinstance (by decide +kernel) (pa_cons (pv 0) (pa_cons (pe_bltn (v := .ty "bool") (by rfl) T.bool (by decide +kernel) rfl) pa_nil))))))), ?_⟩
    rcases h with ⟨v, rfl, h⟩ | ⟨⟨t, ty, hb⟩, h⟩
    · refine ⟨_, rfl, _, _, _, _, true, rfl, .ty "int", .base (.int v), kit_ty (by decide +kernel), true, rfl, ?_⟩
      refine iteT ?_
      refine ⟨_, rfl, _, _, _, _, false, rfl, .ty "bool", .base (.int v), kit_ty (by decide +kernel), false, rfl, ?_⟩
      exact h
    · rcases hb with hi | ⟨hi, hb⟩
      · refine ⟨_, rfl, _, _, _, _, false, rfl, .ty "int", ty, hi, false, rfl, ?_⟩
        exact iteF h
      · refine ⟨_, rfl, _, _, _, _, true, rfl, .ty "int", ty, hi, true, rfl, ?_⟩
        refine iteT ?_
        refine ⟨_, rfl, _, _, _, _, true, rfl, .ty "bool", ty, hb, true, rfl, ?_⟩
        exact h
def spWithin (K : PySem.W.Frag) : Sp := fun vs H Q _ => ∃ (x : V) (l m : Int), vs = [x, .int l, .int m] ∧ ((∃ v, x = .int v ∧ Q (.bl (decide (l ≤ v) && decide (v ≤ m))) H) ∨ (NoInt K H x ∧ Q (.bl false) H))
theorem scW : FnScope ["value", "least", "most"] ["value", "least", "most"] (defScope sWithin) := ⟨rfl, rfl, rfl, by decide +kernel, rfl, by decide +kernel, by decide +kernel⟩
theorem ok_within {f g : Addr} {fd fdG : FuncData} (F : Fun K "is_within" "is_within" sWithin f fd) (G : FnOk P w K mg base CX0 1 g fdG ["value"] (spWhole K)) (mgG : mg "is_whole_number" = some (.ref g)) (kG : PySem.W.keepIn K (.ref g) = true) (bG : Binds K fdG ["value"] []) : FnOk P w K mg base CX0 2 f fd ["value", "least", "most"] (spWithin K) := by
  refine F.ok scW (fun vs H Q E h => ?_) (fun cdv A outer s H vs Q E hr h => ?_)
  · obtain ⟨x, l, m, rfl, _⟩ := h
    rfl
  · obtain ⟨x, l, m, rfl, h⟩ := h
    refine ⟨_, pss_one (ps_ret (pe_and (pe_call G hr rfl mgG kG bG .nil pass0 (pa_cons (pv 0) pa_nil))
      (pe_one (pe_chain op_le op_le (pv 1) (pv 0) (pv 2))))), ?_⟩
    rcases h with ⟨v, rfl, h⟩ | ⟨n, h⟩
    · refine ⟨_, rfl, _, rfl, .inl ⟨v, rfl, _, rfl, ?_⟩⟩
      refine iteT ?_
      refine ⟨_, rfl, _, rfl, _, _, rfl, rfl, _, rfl, ?_⟩
      refine ite2 (fun c => ?_) (fun c => ?_)
      · refine ⟨_, rfl, _, _, rfl, rfl, ?_⟩
        rw [c] at h
        exact h
      · have c' : decide (l ≤ v) = false := by simpa using c
        rw [c'] at h
        exact h
    · refine ⟨_, rfl, _, rfl, .inr ⟨n, _, rfl, ?_⟩⟩
      exact iteF h

/-! ### _is_pair -/
def okB (i j : Int) : Bool := (decide (0 ≤ i) && decide (i ≤ 999999)) && (decide (i + 1 ≤ j) && decide (j ≤ 1000000))
theorem okB_iff {i j : Int} : okB i j = true ↔ okP (i, j) := by
  unfold okB okP
  simp only [Bool.and_eq_true, decide_eq_true_eq]
  omega
/-- what a value is as a pair -/
inductive PairV (K : PySem.W.Frag) (H : Hp) : V → Bool → Prop
  | no {x : V} {t : Value} (ty : TyX K H x t) (k : PySem.W.kitOne K t (.type "tuple") = some false) : PairV K H x false
  | len {a : Addr} {xs : List V} (h : H a = some (.tup xs)) (n : xs.length ≠ 2) : PairV K H (.ref a) false
  | pair {a : Addr} {i j : Int} (h : H a = some (.tup [.int i, .int j])) : PairV K H (.ref a) (okB i j)
  | fst {a : Addr} {x y : V} (h : H a = some (.tup [x, y])) (n : NoInt K H x) : PairV K H (.ref a) false
  | snd {a : Addr} {i : Int} {y : V} (h : H a = some (.tup [.int i, y])) (n : NoInt K H y) : PairV K H (.ref a) false
def spIsPair (K : PySem.W.Frag) : Sp := fun vs H Q _ => ∃ (x : V) (b : Bool), vs = [x] ∧ PairV K H x b ∧ Q (.bl b) H
theorem scP : FnScope ["value", "start", "stop"] ["value"] (defScope sIsPair) := ⟨rfl, rfl, rfl, by decide +kernel, rfl, by decide +kernel, by decide +kernel⟩
theorem kit_tt (K : PySem.W.Frag) : PySem.W.kitOne K (.type "tuple") (.type "tuple") = some true := kit_ty (by decide +kernel)
theorem ok_isPair {f g : Addr} {fd fdG : FuncData} (F : Fun K "_is_pair" "_is_pair" sIsPair f fd) (T : Names mg) (G : FnOk P w K mg base CX0 2 g fdG ["value", "least", "most"] (spWithin K)) (mgG : mg "is_within" = some (.ref g)) (kG : PySem.W.keepIn K (.ref g) = true) (bG : Binds K fdG ["value", "least", "most"] []) :
    FnOk P w K mg base CX0 3 f fd ["value"] (spIsPair K) := by
  refine F.ok scP (fun vs H Q E h => ?_) (fun cdv A outer s H vs Q E hr h => ?_)
  · obtain ⟨x, b, rfl, _⟩ := h
    rfl
  · obtain ⟨x, b, rfl, pvx, h⟩ := h
    obtain ⟨tE, mE⟩ := T.END
    refine ⟨_, pss_cons (ps_if (PW.pt (pw_or (pt_not (pt_val (pe_callB call_isi (by rfl) T.isinstance (by decide +kernel) (pa_cons (pv 0) (pa_cons (pe_bltn (v := .ty "tuple") (by rfl) T.tuple (by decide +kernel) rfl) pa_nil)))))
      (pw_or1 (pt_cmpR op_ne (pe_callB call_len_seq (by rfl) T.len PySem.boot_len (pa_cons (pv 0) pa_nil)) pe_int (nomark _))))) (pss_one (ps_ret pe_bl)) pss_nil)
      (pss_cons (ps_asg (pv 0) (pg_tup rfl (pgs_cons (pg_name (i := 1) scP.nd rfl (Or.inl rfl)) (pgs_cons (pg_name (i := 2) scP.nd rfl (Or.inl rfl)) pgs_nil))))
      (pss_one (ps_ret (pe_and (pe_call G hr rfl mgG kG bG .nil pass0 (pa_cons (pv 1) (pa_cons pe_int (pa_cons (pe_op op_sub (pe_glob (v := .int 1000000) rfl mE ⟨_, rfl⟩) pe_int) pa_nil))))
        (pe_one (pe_call G hr rfl mgG kG bG .nil pass0 (pa_cons (pv 2) (pa_cons (pe_op op_add (pv 1) pe_int) (pa_cons (pe_glob (v := .int 1000000) rfl mE ⟨_, rfl⟩) pa_nil))))))))), ?_⟩
    have tup : ∀ {a : Addr} {xs : List V}, H a = some (.tup xs) → TyX K H (.ref a) (.type "tuple") := fun e => .base (.tup e)
    cases pvx with
    | no ty k =>
      refine ⟨_, rfl, _, _, _, _, false, rfl, .ty "tuple", ty, k, false, rfl, ?_⟩
      exact iteT (iteT h)
    | len e n =>
      refine ⟨_, rfl, _, _, _, _, true, rfl, .ty "tuple", tup e, kit_tt K, true, rfl, ?_⟩
      refine iteF ?_
      refine ⟨_, rfl, _, _, rfl, .inr (tupAt e), rfl, _, rfl, ?_⟩
      refine iteNS_not ?_ h
      intro z
      have z2 := V.int.inj z
      omega
    | pair e =>
      rename_i a i j
      refine ⟨_, rfl, _, _, _, _, true, rfl, .ty "tuple", tup e, kit_tt K, true, rfl, ?_⟩
      refine iteF ?_
      refine ⟨_, rfl, _, _, rfl, .inr (tupAt e), rfl, _, rfl, ?_⟩
      refine iteNS rfl ?_
      refine ⟨_, rfl, a, _, rfl, tupAt e, rfl, _, _, rfl, _, _, rfl, rfl, ?_⟩
      refine ⟨_, rfl, _, _, rfl, rfl, _, _, _, rfl, .inl ⟨i, rfl, _, rfl, ?_⟩⟩
      refine ite2 (fun c => ?_) (fun c => ?_)
      · refine ⟨_, rfl, _, rfl, _, _, rfl, rfl, _, _, _, rfl, .inl ⟨j, rfl, ?_⟩⟩
        have eb : okB i j = (decide (i + 1 ≤ j) && decide (j ≤ 1000000)) := by
          unfold okB
          have c2 : (decide (0 ≤ i) && decide (i ≤ 1000000 - 1)) = true := c
          have c3 : (decide (0 ≤ i) && decide (i ≤ 999999)) = true := by simpa using c2
          rw [c3, Bool.true_and]
        rw [eb] at h
        exact h
      · have eb : okB i j = false := by
          unfold okB
          have c2 : ¬ (decide (0 ≤ i) && decide (i ≤ 1000000 - 1)) = true := c
          have c3 : (decide (0 ≤ i) && decide (i ≤ 999999)) = false := by simpa using c2
          rw [c3, Bool.false_and]
        rw [eb] at h
        exact h
    | fst e n =>
      rename_i a x y
      refine ⟨_, rfl, _, _, _, _, true, rfl, .ty "tuple", tup e, kit_tt K, true, rfl, ?_⟩
      refine iteF ?_
      refine ⟨_, rfl, _, _, rfl, .inr (tupAt e), rfl, _, rfl, ?_⟩
      refine iteNS rfl ?_
      refine ⟨_, rfl, a, _, rfl, tupAt e, rfl, _, _, rfl, _, _, rfl, rfl, ?_⟩
      refine ⟨_, rfl, _, _, rfl, rfl, _, _, _, rfl, .inr ⟨n, _, rfl, ?_⟩⟩
      exact iteF h
    | snd e n =>
      rename_i a i y
      refine ⟨_, rfl, _, _, _, _, true, rfl, .ty "tuple", tup e, kit_tt K, true, rfl, ?_⟩
      refine iteF ?_
      refine ⟨_, rfl, _, _, rfl, .inr (tupAt e), rfl, _, rfl, ?_⟩
      refine iteNS rfl ?_
      refine ⟨_, rfl, a, _, rfl, tupAt e, rfl, _, _, rfl, _, _, rfl, rfl, ?_⟩
      refine ⟨_, rfl, _, _, rfl, rfl, _, _, _, rfl, .inl ⟨i, rfl, _, rfl, ?_⟩⟩
      refine ite2 (fun c => ?_) (fun c => ?_)
      · refine ⟨_, rfl, _, rfl, _, _, rfl, rfl, _, _, _, rfl, .inr ⟨n, h⟩⟩
      · exact h
end
end Sps
set_option Elab.async false
set_option linter.all false
set_option maxRecDepth 100000
set_option maxHeartbeats 4000000
/-! _merged and _gaps. -/
namespace Sps
open PySem PySem.Spec PyProof.Rows L2
theorem TPs.put {H : Hp} {ts : List TP} {l : Addr} {xs : List V} {o : HO} (h : TPs H ts) (hl : H l = some (.lst xs)) : TPs (L2.upd H l o) ts := fun t m => by
  rw [upd_ne (ne_of (h t m) hl (by intro z; cases z))]
  exact h t m
theorem PT.put {H : Hp} {a l : Addr} {ps : List Pr} {xs : List V} {o : HO} (h : PT H a ps) (hl : H l = some (.lst xs)) : PT (L2.upd H l o) a ps := by
  obtain ⟨ts, h1, h2, h3⟩ := h
  refine ⟨ts, ?_, h2.put hl, h3⟩
  rw [upd_ne (ne_of h1 hl (by intro z; cases z))]
  exact h1
theorem Norm.len {ps : List Pr} (h : Norm ps) : ps.length ≤ 1000000 := by
  have a := h.size_ok.2
  have b : ∀ qs : List Pr, (∀ p ∈ qs, okP p) → (qs.length : Int) ≤ (qs.map fun p => p.2 - p.1).sum := by
    intro qs hq
    induction qs with
    | nil => exact Int.le_refl _
    | cons p qs ih =>
      have k := (hq p List.mem_cons_self).2.1
      have ih' := ih fun q m => hq q (List.mem_cons_of_mem _ m)
      rw [List.map_cons, List.sum_cons, List.length_cons]
      omega
  have c := b ps h.ok
  unfold size at a
  omega
theorem take_snoc {α : Type} {l : List α} {i : Nat} {x : α} (h : l[i]? = some x) : l.take (i + 1) = l.take i ++ [x] := by
  obtain ⟨hlt, e⟩ := List.getElem?_eq_some_iff.mp h
  rw [List.take_succ_eq_append_getElem hlt, e]
theorem take_all {α : Type} {l : List α} : l.take l.length = l := List.take_of_length_le (Nat.le_refl _)
theorem set_last {α : Type} {l : List α} {a b : α} : (l ++ [a]).set l.length b = l ++ [b] := by
  rw [List.set_append_right _ _ (Nat.le_refl _), Nat.sub_self]
  rfl
theorem ixN_last (n : Nat) : ixN (n + 1) (-1) = some n := by
  unfold ixN
  rw [if_neg (by omega), if_pos (by omega)]
  congr 1
  omega
/-- the pair at a place, as its ints tell -/
def kOf (H : Hp) (v : V) : Int × Int := match v with
  | .ref t => match H t with
    | some (.tup [.int i, .int j]) => (i, j)
    | _ => (0, 0)
  | _ => (0, 0)
theorem kOf_ref {H : Hp} {t : Addr} {i j : Int} (h : H t = some (.tup [.int i, .int j])) : kOf H (.ref t) = (i, j) := by
  show (match H t with | some (.tup [.int i, .int j]) => (i, j) | _ => ((0, 0) : Int × Int)) = (i, j)
  rw [h]
/-- what sorted makes of the pairs of a tuple -/
theorem sorted_tps {H : Hp} {ts : List TP} (h : TPs H ts) {ys : List V} (hs : SrtO.Srtd (ltP (kOf H)) ys) (hp : ys.Perm (ts.map rf)) :
    ∃ us : List TP, ys = us.map rf ∧ TPs H us ∧ (∀ p, p ∈ prs us ↔ p ∈ prs ts) ∧ us.length = ts.length ∧ us.Pairwise fun a b => a.2.1 ≤ b.2.1 := by
  let un : V → TP := fun v => match v with | .ref a => (a, kOf H v) | _ => (0, 0, 0)
  have hy : ∀ y ∈ ys, ∃ t ∈ ts, y = .ref t.1 := fun y m => by
    obtain ⟨t, mt, e⟩ := List.mem_map.mp (hp.mem_iff.mp m)
    exact ⟨t, mt, e.symm⟩
  have unt : ∀ t ∈ ts, un (.ref t.1) = t := fun t m => by
    show (t.1, kOf H (.ref t.1)) = t
    rw [kOf_ref (h t m)]
  refine ⟨ys.map un, ?_, ?_, ?_, ?_, ?_⟩
  · rw [List.map_map]
    have e : ∀ y ∈ ys, (rf ∘ un) y = y := fun y m => by
      obtain ⟨t, mt, e⟩ := hy y m
      subst e
      show rf (un (.ref t.1)) = _
      rw [unt t mt]
      rfl
    have e2 : ys.map (rf ∘ un) = ys.map id := List.map_congr_left e
    rw [e2, List.map_id]
  · intro u m
    obtain ⟨y, my, e⟩ := List.mem_map.mp m
    obtain ⟨t, mt, e2⟩ := hy y my
    subst e2
    rw [unt t mt] at e
    rw [← e]
    exact h t mt
  · intro p
    constructor
    · intro m
      obtain ⟨u, mu, e⟩ := List.mem_map.mp m
      obtain ⟨y, my, e2⟩ := List.mem_map.mp mu
      obtain ⟨t, mt, e3⟩ := hy y my
      subst e3
      rw [unt t mt] at e2
      subst e2
      rw [← e]
      exact prs_mem mt
    · intro m
      obtain ⟨t, mt, e⟩ := List.mem_map.mp m
      have my : V.ref t.1 ∈ ys := hp.mem_iff.mpr (List.mem_map.mpr ⟨t, mt, rfl⟩)
      refine List.mem_map.mpr ⟨t, List.mem_map.mpr ⟨_, my, unt t mt⟩, e⟩
  · rw [List.length_map, hp.length_eq, List.length_map]
  · refine List.pairwise_map.mpr ?_
    have hs' : ys.Pairwise fun x y => ltP (kOf H) y x = false := hs
    refine List.Pairwise.imp_of_mem (fun {x y} mx my hh => ?_) hs'
    obtain ⟨t, mt, e⟩ := hy x mx
    obtain ⟨u, mu, e2⟩ := hy y my
    subst e e2
    rw [unt t mt, unt u mu]
    have q : SrtO.lexB (kOf H (.ref u.1)) (kOf H (.ref t.1)) = false := hh
    rw [kOf_ref (h t mt), kOf_ref (h u mu)] at q
    have := SrtO.lexB_no.mp q
    show t.2.1 ≤ u.2.1
    have q1 : (u.2.1, u.2.2).1 = u.2.1 := rfl
    omega

section
variable {P : Program} {w : World} {K : PySem.W.Frag} {mg : Str → Option Value} {base : Heap}
/-! ### _merged -/
def spMerged : Sp := fun vs H Q _ => ∃ (a : Addr) (ps : List Pr), vs = [.ref a] ∧ PT H a ps ∧ (∀ p ∈ ps, okP p) ∧
  ∀ (H' : Hp) (p : Addr) (ms : List Pr), Same H H' → PT H' p ms → Norm ms → (∀ x, inS x ms ↔ inS x ps) → Q (.ref p) H'
theorem scM : FnScope ["pairs", "found", "start", "stop"] ["pairs"] (defScope sMerged) := ⟨rfl, rfl, rfl, by decide +kernel, rfl, by decide +kernel, by decide +kernel⟩
theorem inS_mem {x : Int} {ps qs : List Pr} (h : ∀ p, p ∈ ps ↔ p ∈ qs) : inS x ps ↔ inS x qs := ⟨fun ⟨p, m, k⟩ => ⟨p, (h p).mp m, k⟩, fun ⟨p, m, k⟩ => ⟨p, (h p).mpr m, k⟩⟩
theorem ok_merged {f : Addr} {fd : FuncData} (F : Fun K "_merged" "_merged" sMerged f fd) (T : Names mg) : FnOk P w K mg base CX0 2 f fd ["pairs"] spMerged := by
  refine F.ok scM (fun vs H Q E h => ?_) (fun cdv A outer s H vs Q E hr h => ?_)
  · obtain ⟨a, ps, rfl, _⟩ := h
    rfl
  · obtain ⟨a, ps, rfl, ⟨ts, hA, hT, rfl⟩, hok, k⟩ := h
    refine ⟨_, pss_cons (ps_set (i := 1) scM.nd rfl (Or.inl rfl) (pe_lst pa_nil))
      (pss_cons (ps_for PassesOwn.never rfl (pi_list (pe_callB call_sortT (by rfl) T.sorted (by decide +kernel) (pa_cons (pv 0) pa_nil)))
          (pg_tup rfl (pgs_cons (pg_name (i := 2) scM.nd rfl (Or.inl rfl)) (pgs_cons (pg_name (i := 3) scM.nd rfl (Or.inl rfl)) pgs_nil)))
        (pss_one (ps_if (PW.pt (pw_and (pt_truth (pv 1) (by intro _; rfl)) (pw_and1 (pt_cmpR op_le (pv 2) (pe_ix ix_tup (pe_ix ix_list (pv 1) (pe_un un_neg pe_int) (fun _ _ => rfl)) pe_int (fun _ _ => rfl)) (nomark _)))))
          (pss_one (ps_asg (pe_tup (pa_cons (pe_ix ix_tup (pe_ix ix_list (pv 1) (pe_un un_neg pe_int) (fun _ _ => rfl)) pe_int (fun _ _ => rfl))
              (pa_cons (pe_callB (call_max2 rfl) (by rfl) T.max (by decide +kernel) (pa_cons (pe_ix ix_tup (pe_ix ix_list (pv 1) (pe_un un_neg pe_int) (fun _ _ => rfl)) pe_int (fun _ _ => rfl)) (pa_cons (pv 3) pa_nil))) pa_nil)))
            (pg_sub (pv 1) (pe_un un_neg pe_int) set_list)))
          (pss_one (ps_expr (pe_bm PySem.F.plainAttrs_list PySem.F.slot_list_append PySem.F.type_list_append mt_append (pv 1) (pa_cons (pe_tup (pa_cons (pv 2) (pa_cons (pv 3) pa_nil))) pa_nil)))))))
      (pss_one (ps_ret (pe_callTy call_tuple_of (by rfl) T.tuple (by decide +kernel) (pa_cons (pv 1) pa_nil))))), ?_⟩
    refine ⟨Nat.zero_le _, fun l hl => ?_⟩
    have al : a ≠ l := ne_of_none hA hl
    have s1 : Same H (L2.upd H l (.lst [])) := Same.upd hl
    have T1 : TPs (L2.upd H l (.lst [])) ts := hT.same s1
    refine ⟨_, rfl, a, ts.map rf, kOf (L2.upd H l (.lst [])), rfl, tupAt (s1 _ _ hA), fun x mx => ?_, fun ys q hsr hpm hq => ?_⟩
    · obtain ⟨t, mt, e⟩ := List.mem_map.mp mx
      subst e
      refine ⟨t.1, rfl, ?_⟩
      show _ = some (HO.tup [.int (kOf _ (.ref t.1)).1, .int (kOf _ (.ref t.1)).2])
      rw [kOf_ref (T1 t mt)]
      exact T1 t mt
    obtain ⟨us, rfl, hU, hmem, hlen, hasc⟩ := sorted_tps T1 hsr hpm
    have s2 : Same (L2.upd H l (.lst [])) (L2.upd (L2.upd H l (.lst [])) q (.lst (us.map rf))) := Same.upd hq
    have lq : l ≠ q := ne_of_none (show (L2.upd H l (.lst [])) l = _ from upd_same) hq
    have hU2 : TPs (L2.upd (L2.upd H l (.lst [])) q (.lst (us.map rf))) us := hU.same s2
    have hn : H q = none := s1.free hq
    refine ⟨q, rfl, ⟨_, SqL.of upd_same⟩, for_list (K := K) (a := q) (xs := us.map rf) (fun i σ H' => ∃ (fs : List TP) (v2 v3 : Option V), σ = [some (.ref a), some (.ref l), v2, v3] ∧ Same H H' ∧ H' l = some (.lst (fs.map rf)) ∧ H' q = some (.lst (us.map rf)) ∧ TPs H' fs ∧ TPs H' us ∧
        Norm (prs fs) ∧ (∀ x, inS x (prs fs) ↔ inS x (prs (us.take i))) ∧ ∀ f ∈ prs fs, ∀ (j : Nat) u, i ≤ j → us[j]? = some u → f.1 ≤ u.2.1)
      ⟨[], none, none, rfl, s1.trans s2, s2 _ _ upd_same, upd_same, TPs.nil, hU2, Norm.nil, fun x => Iff.rfl, fun f m => by cases m⟩
      (fun i σ H' _ ⟨_, _, _, _, _, _, e, _⟩ => SqL.of e) ?_ ?_⟩
    · rintro i y σ H' hi ⟨fs, v2, v3, rfl, sH, hL, hQ, hF, hU', hN, hin, hle⟩
      rw [List.getElem?_map] at hi
      obtain ⟨u, hu, e⟩ : ∃ u, us[i]? = some u ∧ rf u = y := by
        cases e : us[i]? with
        | none => rw [e] at hi; cases hi
        | some u => rw [e] at hi; exact ⟨u, rfl, Option.some.inj hi⟩
      subst e
      have mu : u ∈ us := List.mem_of_getElem? hu
      have okU : okP u.2 := hok _ ((hmem _).mp (prs_mem mu))
      have M : Mrg (prs fs) (prs (us.take i)) u.2.1 := ⟨hN, hin, fun f m => hle f m i u (Nat.le_refl _) hu⟩
      have etk : prs (us.take (i + 1)) = prs (us.take i) ++ [u.2] := by rw [take_snoc hu, prs_app]; rfl
      have later : ∀ (j : Nat) v, i + 1 ≤ j → us[j]? = some v → u.2.1 ≤ v.2.1 := fun j v hj hv => by
        obtain ⟨hi1, e1⟩ := List.getElem?_eq_some_iff.mp hu
        obtain ⟨hj1, e2⟩ := List.getElem?_eq_some_iff.mp hv
        have := List.pairwise_iff_getElem.mp hasc i j hi1 hj1 (by omega)
        rw [e1, e2] at this
        exact this
      have fsz : fs.length ≤ 1000000 := by
        have := hN.len
        unfold prs at this
        rw [List.length_map] at this
        exact this
      have app : ∀ t : Addr, H' t = none → ∀ (ha : ∀ f ∈ prs fs, f.2 < u.2.1), _ := fun t ht ha =>
        (show ∃ (gs : List TP), L2.upd (L2.upd H' t (.tup [.int u.2.1, .int u.2.2])) l (.lst ((fs.map rf) ++ [.ref t])) l = some (.lst (gs.map rf)) ∧ TPs (L2.upd (L2.upd H' t (.tup [.int u.2.1, .int u.2.2])) l (.lst ((fs.map rf) ++ [.ref t]))) gs ∧ Mrg (prs gs) (prs (us.take (i + 1))) u.2.1 from by
          refine ⟨fs ++ [(t, u.2)], ?_, ?_, ?_⟩
          · rw [upd_same, List.map_append]; rfl
          · exact ((hF.same (Same.upd ht)).app (TPs.one (t := (t, u.2)) upd_same)).put ((Same.upd ht) _ _ hL)
          · rw [prs_app, etk]
            exact M.add okU ha)
      -- for start, stop
      refine ⟨u.1, _, rfl, tupAt (hU' u mu), rfl, _, _, rfl, _, _, rfl, rfl, ?_⟩
      have fin : ∀ (gs : List TP) (H2 : Hp), Same H' H2 ∨ True → Same H H2 → H2 l = some (.lst (gs.map rf)) → H2 q = some (.lst (us.map rf)) → TPs H2 gs → TPs H2 us → Mrg (prs gs) (prs (us.take (i + 1))) u.2.1 →
          ∃ (fs : List TP) (v2 v3 : Option V), [some (V.ref a), some (V.ref l), some (V.int u.2.1), some (V.int u.2.2)] = [some (.ref a), some (.ref l), v2, v3] ∧ Same H H2 ∧ H2 l = some (.lst (fs.map rf)) ∧ H2 q = some (.lst (us.map rf)) ∧ TPs H2 fs ∧ TPs H2 us ∧
            Norm (prs fs) ∧ (∀ x, inS x (prs fs) ↔ inS x (prs (us.take (i + 1)))) ∧ ∀ f ∈ prs fs, ∀ (j : Nat) u, i + 1 ≤ j → us[j]? = some u → f.1 ≤ u.2.1 :=
        fun gs H2 _ a1 a2 a3 a4 a5 m => ⟨gs, _, _, rfl, a1, a2, a3, a4, a5, m.norm, m.same, fun f hf j v hj hv => Int.le_trans (m.le f hf) (later j v hj hv)⟩
      rcases List.eq_nil_or_concat fs with e0 | ⟨gs, z, e0⟩
      · -- nothing was found so far
        subst e0
        refine ⟨_, rfl, false, .inl ⟨_, SqL.of hL, rfl⟩, ?_⟩
        refine iteF (iteF ?_)
        refine ⟨_, rfl, .inl ⟨rfl, _, SqL.of hL⟩, _, rfl, _, rfl, (by show 2 ≤ sizeLine; decide), fun t ht => ?_⟩
        refine ⟨l, _, _, rfl, rfl, (Same.upd ht) _ _ hL, by decide, ?_⟩
        obtain ⟨gs, g1, g2, g3⟩ := app t ht fun f m => by cases m
        have ht0 : H t = none := sH.free ht
        refine fin gs _ (.inr trivial) (Same.put (Same.upd' sH ht) hl) g1 ?_ g2 ?_ g3
        · rw [upd_ne lq.symm]
          exact (Same.upd ht) _ _ hQ
        · exact (hU'.same (Same.upd ht)).put ((Same.upd ht) _ _ hL)
      · subst e0
        rw [List.concat_eq_append] at *
        have hz : TPs H' [z] := fun t m => hF t (List.mem_append.mpr (.inr m))
        have hzt := hz z (List.mem_singleton.mpr rfl)
        have hLl : (gs ++ [z]).map rf = gs.map rf ++ [rf z] := by rw [List.map_append]; rfl
        have at1 : atI ((gs ++ [z]).map rf) (-1) = some (V.ref z.1) := by rw [hLl]; exact atI_last _ _
        refine ⟨_, rfl, true, .inl ⟨_, SqL.of hL, by rw [hLl]; simp⟩, ?_⟩
        refine iteT ?_
        refine ⟨_, rfl, _, rfl, 1, rfl, l, _, _, _, rfl, rfl, SqL.of hL, at1, z.1, _, _, _, rfl, rfl, tupAt hzt, atI_nat (j := 1) rfl, _, _, rfl, rfl, _, rfl, ?_⟩
        refine ite2 (fun c => ?_) (fun c => ?_)
        · have c' : u.2.1 ≤ z.2.2 := of_decide_eq_true c
          refine ⟨_, rfl, 1, rfl, l, _, _, _, rfl, rfl, SqL.of hL, at1, z.1, _, _, _, rfl, rfl, tupAt hzt, atI_nat (j := 0) rfl, ?_⟩
          refine ⟨_, rfl, 1, rfl, l, _, _, _, rfl, rfl, SqL.of hL, at1, z.1, _, _, _, rfl, rfl, tupAt hzt, atI_nat (j := 1) rfl, _, rfl, _, _, rfl, (by show 2 ≤ sizeLine; decide), fun t ht => ?_⟩
          refine ⟨_, rfl, 1, rfl, l, _, _, gs.length, rfl, rfl, (Same.upd ht) _ _ hL, ?_, ?_⟩
          · rw [List.length_map, List.length_append]
            exact ixN_last _
          · have ht0 : H t = none := sH.free ht
            have mg := M
            rw [prs_app] at mg
            have g3 := mg.grow okU c'
            refine fin (gs ++ [(t, z.2.1, if u.2.2 > z.2.2 then u.2.2 else z.2.2)]) _ (.inr trivial) (Same.put (Same.upd' sH ht) hl) ?_ ?_ ?_ ?_ ?_
            · rw [upd_same, hLl]
              have : (gs.map rf ++ [rf z]).set gs.length (V.ref t) = gs.map rf ++ [V.ref t] := by
                have := set_last (l := gs.map rf) (a := rf z) (b := V.ref t)
                rw [List.length_map] at this
                exact this
              rw [this, List.map_append]
              rfl
            · rw [upd_ne lq.symm]
              exact (Same.upd ht) _ _ hQ
            · have hG : TPs H' gs := fun t m => hF t (List.mem_append.mpr (.inl m))
              exact ((hG.same (Same.upd ht)).app (TPs.one (t := (t, z.2.1, if u.2.2 > z.2.2 then u.2.2 else z.2.2)) upd_same)).put ((Same.upd ht) _ _ hL)
            · exact (hU'.same (Same.upd ht)).put ((Same.upd ht) _ _ hL)
            · rw [prs_app, etk]
              exact g3
        · have c' : ¬ u.2.1 ≤ z.2.2 := fun z => c (decide_eq_true z)
          refine ⟨_, rfl, .inl ⟨rfl, _, SqL.of hL⟩, _, rfl, _, rfl, (by show 2 ≤ sizeLine; decide), fun t ht => ?_⟩
          refine ⟨l, _, _, rfl, rfl, (Same.upd ht) _ _ hL, ?_, ?_⟩
          · rw [List.length_map]
            exact Nat.lt_of_le_of_lt fsz (by decide)
          · obtain ⟨gs', g1, g2, g3⟩ := app t ht fun f m => by
              rw [prs_app] at m hN
              rcases List.mem_append.mp m with m | m
              · have a1 := hN.last_lt f m
                have a2 := (hN.ok z.2 (List.mem_append.mpr (.inr (List.mem_singleton.mpr rfl)))).2.1
                have a3 : f.2 < z.2.1 := a1
                omega
              · have e3 : f = z.2 := List.mem_singleton.mp m
                rw [e3]
                omega
            have ht0 : H t = none := sH.free ht
            refine fin gs' _ (.inr trivial) (Same.put (Same.upd' sH ht) hl) g1 ?_ g2 ?_ g3
            · rw [upd_ne lq.symm]
              exact (Same.upd ht) _ _ hQ
            · exact (hU'.same (Same.upd ht)).put ((Same.upd ht) _ _ hL)
    · rintro σ H' ⟨fs, v2, v3, rfl, sH, hL, hQ, hF, hU', hN, hin, hle⟩
      refine ⟨_, rfl, l, _, rfl, .inl ⟨SqL.of hL, fun p hp => ?_⟩⟩
      refine k _ p (prs fs) (Same.upd' sH hp) ⟨fs, upd_same, hF.same (Same.upd hp), rfl⟩ hN fun x => ?_
      rw [hin x, List.length_map, take_all]
      exact inS_mem hmem
end
end Sps
set_option Elab.async false
set_option linter.all false
set_option maxRecDepth 100000
set_option maxHeartbeats 4000000
/-! _gaps, and the methods of Spans. -/
namespace Sps
open PySem PySem.Spec PyProof.Rows L2
section
variable {P : Program} {w : World} {K : PySem.W.Frag} {mg : Str → Option Value} {base : Heap}
def spGaps : Sp := fun vs H Q _ => ∃ (a : Addr) (ps : List Pr), vs = [.ref a] ∧ PT H a ps ∧ Norm ps ∧
  ∀ (H' : Hp) (p : Addr) (gs : List Pr), Same H H' → PT H' p gs → Norm gs → (∀ x, inS x gs ↔ (0 ≤ x ∧ x < 1000000) ∧ ¬ inS x ps) → Q (.ref p) H'
theorem scG : FnScope ["pairs", "found", "begin", "start", "stop"] ["pairs"] (defScope sGaps) := ⟨rfl, rfl, rfl, by decide +kernel, rfl, by decide +kernel, by decide +kernel⟩
theorem ok_gaps {f : Addr} {fd : FuncData} (F : Fun K "_gaps" "_gaps" sGaps f fd) (T : Names mg) : FnOk P w K mg base CX0 2 f fd ["pairs"] spGaps := by
  refine F.ok scG (fun vs H Q E h => ?_) (fun cdv A outer s H vs Q E hr h => ?_)
  · obtain ⟨a, ps, rfl, _⟩ := h
    rfl
  · obtain ⟨a, ps, rfl, ⟨ts, hA, hT, rfl⟩, hN, k⟩ := h
    obtain ⟨tE, mE⟩ := T.END
    refine ⟨_, pss_cons (ps_set (i := 1) scG.nd rfl (Or.inl rfl) (pe_lst pa_nil))
      (pss_cons (ps_set (i := 2) scG.nd rfl (Or.inl rfl) pe_int)
      (pss_cons (ps_for PassesOwn.never rfl (pi_tup (pv 0))
          (pg_tup rfl (pgs_cons (pg_name (i := 3) scG.nd rfl (Or.inl rfl)) (pgs_cons (pg_name (i := 4) scG.nd rfl (Or.inl rfl)) pgs_nil)))
        (pss_cons (ps_if (pt_cmpR op_lt (pv 2) (pv 3) (nomark _))
            (pss_one (ps_expr (pe_bm PySem.F.plainAttrs_list PySem.F.slot_list_append PySem.F.type_list_append mt_append (pv 1) (pa_cons (pe_tup (pa_cons (pv 2) (pa_cons (pv 3) pa_nil))) pa_nil)))) pss_nil)
          (pss_one (ps_set (i := 2) scG.nd rfl (Or.inl rfl) (pv 4)))))
      (pss_cons (ps_if (pt_cmpR op_lt (pv 2) (pe_glob (v := .int 1000000) rfl mE ⟨_, rfl⟩) (nomark _))
          (pss_one (ps_expr (pe_bm PySem.F.plainAttrs_list PySem.F.slot_list_append PySem.F.type_list_append mt_append (pv 1) (pa_cons (pe_tup (pa_cons (pv 2) (pa_cons (pe_glob (v := .int 1000000) rfl mE ⟨_, rfl⟩) pa_nil))) pa_nil)))) pss_nil)
      (pss_one (ps_ret (pe_callTy call_tuple_of (by rfl) T.tuple (by decide +kernel) (pa_cons (pv 1) pa_nil))))))), ?_⟩
    refine ⟨Nat.zero_le _, fun l hl => ?_⟩
    have s1 : Same H (L2.upd H l (.lst [])) := Same.upd hl
    refine ⟨_, rfl, a, rfl, ⟨_, tupAt (s1 _ _ hA)⟩, for_tup (K := K) (a := a) (xs := ts.map rf) (fun i σ H' => ∃ (gs : List TP) (b : Int) (v3 v4 : Option V), σ = [some (.ref a), some (.ref l), some (.int b), v3, v4] ∧ Same H H' ∧ H' l = some (.lst (gs.map rf)) ∧ TPs H' gs ∧
        Gap (prs gs) (prs (ts.take i)) b ∧ ∀ (j : Nat) u, i ≤ j → ts[j]? = some u → b ≤ u.2.1)
      ⟨[], 0, none, none, rfl, s1, upd_same, TPs.nil, Gap.start, fun j u _ hu => (hN.ok _ (prs_mem (List.mem_of_getElem? hu))).1⟩
      (fun i σ H' _ ⟨_, _, _, _, _, sH, _⟩ => tupAt (sH _ _ hA)) ?_ ?_⟩
    · rintro i y σ H' hi ⟨gs, b, v3, v4, rfl, sH, hL, hG, g, hle⟩
      rw [List.getElem?_map] at hi
      obtain ⟨u, hu, e⟩ : ∃ u, ts[i]? = some u ∧ rf u = y := by
        cases e : ts[i]? with
        | none => rw [e] at hi; cases hi
        | some u => rw [e] at hi; exact ⟨u, rfl, Option.some.inj hi⟩
      subst e
      have mu : u ∈ ts := List.mem_of_getElem? hu
      have okU : okP u.2 := hN.ok _ (prs_mem mu)
      have etk : prs (ts.take (i + 1)) = prs (ts.take i) ++ [u.2] := by rw [take_snoc hu, prs_app]; rfl
      have hb := hle i u (Nat.le_refl _) hu
      have later : ∀ (j : Nat) v, i + 1 ≤ j → ts[j]? = some v → u.2.2 ≤ v.2.1 := fun j v hj hv => by
        obtain ⟨hi1, e1⟩ := List.getElem?_eq_some_iff.mp hu
        obtain ⟨hj1, e2⟩ := List.getElem?_eq_some_iff.mp hv
        have hasc : ts.Pairwise fun p q => p.2.2 < q.2.1 := List.pairwise_map.mp hN.asc
        have := List.pairwise_iff_getElem.mp hasc i j hi1 hj1 (by omega)
        rw [e1, e2] at this
        omega
      refine ⟨u.1, _, rfl, tupAt (hT.same sH u mu), rfl, _, _, rfl, _, _, rfl, rfl, ?_⟩
      refine ⟨_, rfl, _, rfl, _, _, rfl, rfl, _, rfl, ?_⟩
      refine ite2 (fun c => ?_) (fun c => ?_)
      · have c' : b < u.2.1 := of_decide_eq_true c
        refine ⟨_, rfl, .inl ⟨rfl, _, SqL.of hL⟩, _, rfl, _, rfl, (by show 2 ≤ sizeLine; decide), fun t ht => ?_⟩
        refine ⟨l, _, _, rfl, rfl, (Same.upd ht) _ _ hL, ?_, ?_⟩
        · have := g.norm.len
          unfold prs at this
          rw [List.length_map] at this ⊢
          exact Nat.lt_of_le_of_lt this (by decide)
        · refine ⟨_, rfl, gs ++ [(t, b, u.2.1)], u.2.2, _, _, rfl, Same.put (Same.upd' sH ht) hl, ?_, ?_, ?_, later⟩
          · rw [upd_same, List.map_append]; rfl
          · exact ((hG.same (Same.upd ht)).app (TPs.one (t := (t, b, u.2.1)) upd_same)).put ((Same.upd ht) _ _ hL)
          · rw [prs_app, etk]
            exact g.push okU c'
      · have c' : ¬ b < u.2.1 := fun z => c (decide_eq_true z)
        refine ⟨_, rfl, gs, u.2.2, _, _, rfl, sH, hL, hG, ?_, later⟩
        rw [etk]
        exact g.skip okU c' hb
    · rintro σ H' ⟨gs, b, v3, v4, rfl, sH, hL, hG, g, hle⟩
      rw [List.length_map, take_all] at g
      refine ⟨_, rfl, _, _, rfl, rfl, _, rfl, ?_⟩
      refine ite2 (fun c => ?_) (fun c => ?_)
      · have c' : b < 1000000 := of_decide_eq_true c
        refine ⟨_, rfl, .inl ⟨rfl, _, SqL.of hL⟩, _, rfl, (by show 2 ≤ sizeLine; decide), fun t ht => ?_⟩
        refine ⟨l, _, _, rfl, rfl, (Same.upd ht) _ _ hL, ?_, ?_⟩
        · have := g.norm.len
          unfold prs at this
          rw [List.length_map] at this ⊢
          exact Nat.lt_of_le_of_lt this (by decide)
        · refine ⟨_, rfl, l, _, rfl, .inl ⟨SqL.of upd_same, fun p hp => ?_⟩⟩
          have g2 := g.last c'
          have hG2 := ((hG.same (Same.upd ht)).app (TPs.one (t := (t, b, 1000000)) upd_same)).put (o := .lst (gs.map rf ++ [V.ref t])) ((Same.upd ht) _ _ hL)
          refine k _ p (prs gs ++ [(b, 1000000)]) (Same.upd' (Same.put (Same.upd' sH ht) hl) hp) ⟨gs ++ [(t, b, 1000000)], ?_, hG2.same (Same.upd hp), by rw [prs_app]; rfl⟩ g2.1 g2.2
          rw [upd_same, List.map_append]
          rfl
      · have c' : ¬ b < 1000000 := fun z => c (decide_eq_true z)
        refine ⟨_, rfl, l, _, rfl, .inl ⟨SqL.of hL, fun p hp => ?_⟩⟩
        exact k _ p (prs gs) (Same.upd' sH hp) ⟨gs, upd_same, hG.same (Same.upd hp), rfl⟩ g.norm (g.done c')
end
end Sps
set_option Elab.async false
set_option linter.all false
set_option maxRecDepth 100000
set_option maxHeartbeats 4000000
/-! The class Spans: its making and its operators. -/
namespace Sps
open PySem PySem.Spec PyProof.Rows L2
/-! ### rules: C(), C( *y), by a promise of __init__ by position -/
section
variable {X : Cx} {CX : CXT} {k : Nat} {f C : Addr} {sp : Sp} {E : XK} {x : Str} {e : Expr} {te : TE} {p pos sp_ : Pos}
theorem pe_makeR0 (M : Mk X.K C f) (F : FnR X.prog X.w X.K X.mg X.base CX k f sp) (hr : Room (k + 1) X.A) (hg : Gl X x) (hm : X.mg x = some (.ref C)) (hx : Passes CX X E) (hdb : (x == ("__debug__" : Str)) = false := by decide) :
    PE X (.Call (.Name x p) [] [] pos) (StX.tMakeR C sp E tNil) := by
  refine ⟨fun pins s σ H Q I h => ?_⟩
  refine wpAny_Call_Name_kw (ld_glob I hg hm ?_ hdb)
  exact PySem.W.callWith_K0 I.kIn M.kp (StX.run_makeR (us := []) M F hr hx I .nil h)
theorem pe_makeS (M : Mk X.K C f) (F : FnR X.prog X.w X.K X.mg X.base CX k f sp) (hr : Room (k + 1) X.A) (hg : Gl X x) (hm : X.mg x = some (.ref C)) (hx : Passes CX X E) (he : PE X e te) (hd : (x == ("__debug__" : Str)) = false := by decide)
    (hst : starEach [.Starred e sp_] X.env = [(true, eval e X.env)] := by rfl) :
    PE X (.Call (.Name x p) [.Starred e sp_] [] pos) (StX.tMakeR C sp E fun σ H Q => te σ H fun y H1 => ∃ a xs, y = V.ref a ∧ (SqT X.K H1 a xs ∨ SqL X.K H1 a xs) ∧ Q xs H1) := by
  refine ⟨fun pins s σ H Q I h => ?_⟩
  refine wpAny_Call_Name_kw (ld_glob I hg hm ?_ hd)
  refine PySem.W.callWith_S (h₀ := X.base) I.ok.mod.kin M.kp (thn (he.run pins s σ H _ I h) fun v s1 ⟨y, H1, I1, ry, a, xs, ey, hxs, q⟩ => ?_) hst
  subst ey
  obtain rfl : v = Value.ref a := ry
  exact StX.star_any I1 hxs fun us s2 I2 rv => ⟨I2.kIn, StX.run_makeR M F hr hx I2 rv q⟩
end
/-! ### Spans in the heap -/
def flds (t : Addr) : List (Str × V) := [("pairs", .ref t)]
def SpAt (C : Addr) (H : Hp) (x : Addr) (ms : List Pr) : Prop := ∃ dx t, H x = some (.ins C dx (flds t)) ∧ PT H t ms
theorem SpAt.same {C : Addr} {H H' : Hp} {x : Addr} {ms : List Pr} (h : SpAt C H x ms) (s : Same H H') : SpAt C H' x ms := let ⟨dx, t, h1, h2⟩ := h; ⟨dx, t, s _ _ h1, h2.same s⟩
theorem look_pairs (t : Addr) : (flds t).lookup ("pairs" : Str) = some (.ref t) := by
  show List.lookup _ [_] = _
  rw [List.lookup_cons, beq_self_eq_true]
/-- all that was tracked, but what stands at x, is as it was -/
def SameX (x : Addr) (H H' : Hp) : Prop := ∀ b o, b ≠ x → H b = some o → H' b = some o
/-- a method of a class by its name -/
structure Op (K : PySem.W.Frag) (C : Addr) (m : Str) (g : Addr) : Prop where
  at_ : PySem.W.findIn K (.ref C) m = some (some (.ref g))
  fn : PySem.W.isFn K (.ref g) = true
structure SpCls (K : PySem.W.Frag) (mg : Str → Option Value) (C : Addr) : Prop where
  cl : Cls K C
  nP : NoAttr K C "pairs"
  mgC : mg "Spans" = some (.ref C)
  self : PySem.W.selfFirst K C = true
  nfC : PySem.W.notFirst K C (.ref C) = true
  nfT : PySem.W.notFirst K C (.type "tuple") = true
  nfI : PySem.W.notFirst K C (.type "int") = true
  kCC : PySem.W.kitOne K (.ref C) (.ref C) = some true
  kTC : PySem.W.kitOne K (.type "tuple") (.ref C) = some false
  kIC : PySem.W.kitOne K (.type "int") (.ref C) = some false
  ca : PySem.W.findIn K (.ref C) "__class__" = some (some (.builtin "object.__class__"))
  cn : PySem.W.specialIn K (.builtin "object.__class__") "__get__" = some (some (.builtin "getset_descriptor.__get__"))
  ct : PySem.W.takesIn K (.builtin "object.__class__") = some true
  cm : PySem.W.mroIn K C (.type "object") = some true

section
variable {P : Program} {w : World} {K : PySem.W.Frag} {mg : Str → Option Value} {base : Heap}
/-! ### __init__ -/
def spInit (C : Addr) : Sp := fun vs H Q _ => ∃ (x p : Addr) (ps : List Pr) (dx : Addr), vs = [.ref x, .ref p] ∧ H x = some (.ins C dx []) ∧ PT H p ps ∧ ps.length ≤ 4000000 ∧ (∀ q ∈ ps, okP q) ∧
  ∀ (H' : Hp) (ms : List Pr), SameX x H H' → SpAt C H' x ms → Norm ms → (∀ y, inS y ms ↔ inS y ps) → Q .non H'
/-- the same, the pairs one by one -/
def spNew (C : Addr) : Sp := fun vs H Q _ => ∃ (x dx : Addr) (ts : List TP), vs = .ref x :: ts.map rf ∧ H x = some (.ins C dx []) ∧ TPs H ts ∧ ts.length ≤ 4000000 ∧ (∀ q ∈ prs ts, okP q) ∧
  ∀ (H' : Hp) (ms : List Pr), SameX x H H' → SpAt C H' x ms → Norm ms → (∀ y, inS y ms ↔ inS y (prs ts)) → Q .non H'
theorem scI : FnScope ["self", "pairs", "pair"] ["self", "pairs"] (defScope sInit) := ⟨rfl, rfl, rfl, by decide +kernel, rfl, by decide +kernel, by decide +kernel⟩
theorem ok_init {f C fP fM : Addr} {fd fdP fdM : FuncData} (F : Fun K "__init__" "Spans.__init__" sInit f fd) (T : Names mg) (S : SpCls K mg C)
    (GP : FnOk P w K mg base CX0 3 fP fdP ["value"] (spIsPair K)) (mgP : mg "_is_pair" = some (.ref fP)) (kP : PySem.W.keepIn K (.ref fP) = true) (bP : Binds K fdP ["value"] [])
    (GM : FnOk P w K mg base CX0 2 fM fdM ["pairs"] spMerged) (mgM : mg "_merged" = some (.ref fM)) (kM : PySem.W.keepIn K (.ref fM) = true) (bM : Binds K fdM ["pairs"] []) :
    FnR P w K mg base CX0 4 f (spNew C) := by
  obtain ⟨oc, od, kV, doc, pm, an, cdv, ct, osl, efd, lk, hcd⟩ := F.ex
  rw [efd] at lk
  have R := StX.fn_star (P := P) (w := w) (mg := mg) (base := base) (CX := CX0) (k := 3) (ps := ["self"]) (pv := "pairs") (sp := spInit C) lk hcd scI StX.cxUp_none (StX.bind_star1 (B := fun us => bindArgs (PySem.W.fnOf "__init__" "Spans.__init__" (defArgs sInit) (defBody sInit) (defScope sInit) .none kV doc pm an cdv ct) ⟨us, []⟩) (p1 := "self") (pv := "pairs") (fun a => rfl) (fun a r rs => rfl)) (fun A outer s H vs Q E hr h => by
    obtain ⟨x, p, ps, dx, rfl, hx, ⟨ts, hA, hT, rfl⟩, hlen, hok, k⟩ := h
    have hr1 : Room 2 _ := hr.mono (by decide)
    refine ⟨_, pss_cons (ps_if (pt_not (pt_val (pe_callB (cr_all rfl) (by rfl) T.all (by decide +kernel) (pa_cons (pe_lc (own := [("pair", 2)]) (g := gName 2) (tt := tYes) rfl scI.nd (pi_tup (pv 1)) (blkOk_by (own := [("pair", 2)]) (N := ["self", "pairs", "pair"]) (sc := defScope sInit) (by decide +kernel))
          (fun _ _ _ _ _ => pg_name (i := 2) scI.nd rfl (Or.inl rfl)) (fun _ _ _ _ _ => pts_nil) (fun _ _ _ _ _ => pe_call GP hr rfl mgP kP bP .nil pass0 (pa_cons (pv 2) pa_nil))) pa_nil)))) (pss_one ps_never) pss_nil)
      (pss_one (ps_fld (pv 0) (pe_call GM hr1 rfl mgM kM bM .nil pass0 (pa_cons (pv 1) pa_nil)) rfl)), ?_⟩
    refine ⟨_, rfl, p, rfl, ⟨_, tupAt hA⟩, fun D hD => lc_tup (K := K) (a := p) (xs := ts.map rf) (fun i H' => Same H H' ∧ H' D = some (.lst (List.replicate i (V.bl true)))) ⟨Same.upd hD, upd_same⟩ (fun i H' _ ⟨sH, _⟩ => tupAt (sH _ _ hA)) ?_ ?_⟩
    · rintro i y H' hi ⟨sH, hL⟩
      rw [List.getElem?_map] at hi
      obtain ⟨u, hu, e⟩ : ∃ u, ts[i]? = some u ∧ rf u = y := by
        cases e : ts[i]? with
        | none => rw [e] at hi; cases hi
        | some u => rw [e] at hi; exact ⟨u, rfl, Option.some.inj hi⟩
      subst e
      have mu : u ∈ ts := List.mem_of_getElem? hu
      have hi2 : i < ts.length := (List.getElem?_eq_some_iff.mp hu).1
      refine ⟨rfl, ?_⟩
      refine ⟨_, rfl, _, _, rfl, .pair (hT.same sH u mu), ?_⟩
      rw [okB_iff.mpr (hok _ (prs_mem mu))]
      refine ⟨_, hL, ?_, Same.put sH hD, ?_⟩
      · rw [List.length_replicate]
        unfold prs at hlen
        rw [List.length_map] at hlen
        exact Nat.lt_of_lt_of_le hi2 (Nat.le_trans hlen (by decide))
      · rw [upd_same, List.replicate_succ']
    · rintro H' ⟨sH, hL⟩
      refine ⟨D, List.replicate (ts.map rf).length true, rfl, ?_, true, ?_, ?_⟩
      · rw [List.map_replicate]
        exact SqL.of hL
      · rw [List.all_replicate]
        simp
      · refine iteF ?_
        refine ⟨_, rfl, p, prs ts, rfl, ⟨ts, sH _ _ hA, hT.same sH, rfl⟩, hok, fun H2 q ms s2 hq nm hin => ?_⟩
        have sA := sH.trans s2
        refine ⟨_, rfl, x, C, dx, [], rfl, sA _ _ hx, S.cl, S.nP, (by show 0 < 1000; decide), ?_⟩
        refine k _ ms (fun b o nb e => ?_) ⟨dx, q, ?_, ?_⟩ nm hin
        · rw [upd_ne nb]
          exact sA _ _ e
        · rw [upd_same]
          rfl
        · obtain ⟨us, h1, h2, h3⟩ := hq
          have nq : q ≠ x := ne_of h1 (sA _ _ hx) (by intro z; cases z)
          refine ⟨us, by rw [upd_ne nq]; exact h1, fun t m => ?_, h3⟩
          rw [upd_ne (ne_of (h2 t m) (sA _ _ hx) (by intro z; cases z))]
          exact h2 t m)
  refine R.imp fun vs H Q E h => ?_
  obtain ⟨x, dx, ts, rfl, hx, hT, hlen, hok, k⟩ := h
  refine ⟨[.ref x], ts.map rf, rfl, rfl, ?_, fun p hp => ?_⟩
  · rw [List.length_map]
    exact Nat.le_trans hlen (by decide)
  · refine ⟨x, p, prs ts, dx, rfl, (Same.upd hp) _ _ hx, ⟨ts, upd_same, hT.same (Same.upd hp), rfl⟩, by unfold prs; rw [List.length_map]; exact hlen, hok, fun H' ms sx hs nm hin => ?_⟩
    exact k H' ms (fun b o nb e => sx b o nb ((Same.upd hp) _ _ e)) hs nm hin
end
end Sps
set_option Elab.async false
set_option linter.all false
set_option maxRecDepth 100000
set_option maxHeartbeats 4000000
/-! The operators of Spans. -/
namespace Sps
open PySem PySem.Spec PyProof.Rows L2
/-- a Spans of just these positions, as a value -/
def IsSp (C : Addr) (S : Int → Prop) (v : V) (H : Hp) : Prop := ∃ x ms, v = .ref x ∧ SpAt C H x ms ∧ Norm ms ∧ ∀ y, inS y ms ↔ S y
theorem IsSp.same {C : Addr} {S : Int → Prop} {v : V} {H H' : Hp} (h : IsSp C S v H) (s : Same H H') : IsSp C S v H' := let ⟨x, ms, e, a, n, i⟩ := h; ⟨x, ms, e, a.same s, n, i⟩
theorem IsSp.iff {C : Addr} {S R : Int → Prop} {v : V} {H : Hp} (h : IsSp C S v H) (e : ∀ y, S y ↔ R y) : IsSp C R v H := let ⟨x, ms, ev, a, n, i⟩ := h; ⟨x, ms, ev, a, n, fun y => (i y).trans (e y)⟩
theorem IsSp.inR {C : Addr} {S : Int → Prop} {v : V} {H : Hp} (h : IsSp C S v H) {y : Int} (hy : S y) : 0 ≤ y ∧ y < 1000000 := let ⟨_, ms, _, _, n, i⟩ := h; n.inR ((i y).mpr hy)
section
variable {P : Program} {w : World} {K : PySem.W.Frag} {mg : Str → Option Value} {base : Heap}
/-- what a caller has of Spans(..) -/
theorem mk_read {C : Addr} {H : Hp} {ts : List TP} {Q : VK} {E : XK} (hT : TPs H ts) (hl : ts.length ≤ 4000000) (ok : ∀ q ∈ prs ts, okP q) (h : ∀ (H' : Hp) (v : V), Same H H' → IsSp C (fun y => inS y (prs ts)) v H' → Q v H') :
    ∀ x dx, H x = Option.none → H dx = Option.none → dx ≠ x → spNew C (V.ref x :: ts.map rf) (upd (upd H dx (.own x)) x (.ins C dx [])) (fun v H2 => v = .non ∧ Q (.ref x) H2) E := by
  intro x dx nx ndx ne
  have s0 : Same H (upd (upd H dx (.own x)) x (.ins C dx [])) := Same.put (Same.upd ndx) nx
  refine ⟨x, dx, ts, rfl, upd_same, hT.same s0, hl, ok, fun H' ms sx hs nm hin => ⟨rfl, ?_⟩⟩
  refine h H' _ (fun b o e => ?_) ⟨x, ms, rfl, hs, nm, hin⟩
  exact sx b o (ne_of_none e nx) (s0 b o e)
theorem cat_read {H : Hp} {a b : Addr} {ps qs : List Pr} {Q : VK} (ha : PT H a ps) (hb : PT H b qs) (hl : ps.length + qs.length ≤ 4000000) (h : ∀ (H' : Hp) (p : Addr), Same H H' → PT H' p (ps ++ qs) → Q (.ref p) H') :
    rCatA K (.ref a) (.ref b) H Q := by
  obtain ⟨ts, hA, hT, rfl⟩ := ha
  obtain ⟨us, hB, hU, rfl⟩ := hb
  refine ⟨a, b, _, _, rfl, rfl, tupAt hA, tupAt hB, ?_, fun e => ?_, fun _ e => ?_, fun _ _ p hp => ?_⟩
  · unfold prs at hl
    rw [List.length_map, List.length_map] at hl ⊢
    exact Nat.le_trans hl (by decide)
  · have e2 : ts = [] := List.map_eq_nil_iff.mp e
    subst e2
    exact h H b (Same.refl H) ⟨us, hB, hU, rfl⟩
  · have e2 : us = [] := List.map_eq_nil_iff.mp e
    subst e2
    exact h H a (Same.refl H) ⟨ts, hA, hT, (List.append_nil _).symm⟩
  · refine h _ p (Same.upd hp) ⟨ts ++ us, ?_, (hT.app hU).same (Same.upd hp), prs_app⟩
    rw [upd_same, List.map_append]
/-- a & b, a + b, a - b of Spans: R says how the positions go together -/
def spBin (C : Addr) (R : Prop → Prop → Prop) : Sp := fun vs H Q _ => ∃ (S T : Int → Prop) (u v : V), vs = [u, v] ∧ IsSp C S u H ∧ IsSp C T v H ∧
  ∀ (H' : Hp) (z : V), Same H H' → IsSp C (fun y => R (S y) (T y)) z H' → Q z H'
theorem scA : FnScope ["self", "other", "pairs"] ["self", "other"] (defScope sAnd) := ⟨rfl, rfl, rfl, by decide +kernel, rfl, by decide +kernel, by decide +kernel⟩
theorem scO : FnScope ["self", "other", "pairs"] ["self", "other"] (defScope sOr) := ⟨rfl, rfl, rfl, by decide +kernel, rfl, by decide +kernel, by decide +kernel⟩
theorem scS : FnScope ["self", "other", "pairs"] ["self", "other"] (defScope sSub) := ⟨rfl, rfl, rfl, by decide +kernel, rfl, by decide +kernel, by decide +kernel⟩
/-- what the operators lean on -/
structure Has (P : Program) (w : World) (K : PySem.W.Frag) (mg : Str → Option Value) (base : Heap) (C : Addr) where
  fI : Addr
  M : Mk K C fI
  I : FnR P w K mg base CX0 4 fI (spNew C)
  fM : Addr
  fdM : FuncData
  GM : FnOk P w K mg base CX0 2 fM fdM ["pairs"] spMerged
  mgM : mg "_merged" = some (.ref fM)
  kM : PySem.W.keepIn K (.ref fM) = true
  bM : Binds K fdM ["pairs"] []
  fG : Addr
  fdG : FuncData
  GG : FnOk P w K mg base CX0 2 fG fdG ["pairs"] spGaps
  mgG : mg "_gaps" = some (.ref fG)
  kG : PySem.W.keepIn K (.ref fG) = true
  bG : Binds K fdG ["pairs"] []
theorem ok_or {f C : Addr} {fd : FuncData} (F : Fun K "__or__" "Spans.__or__" sOr f fd) (S : SpCls K mg C) (A : Has P w K mg base C) : FnOk P w K mg base CX0 6 f fd ["self", "other"] (spBin C Or) := by
  refine F.ok scO (fun vs H Q E h => ?_) (fun cdv Ar outer s H vs Q E hr h => ?_)
  · obtain ⟨_, _, _, _, rfl, _⟩ := h
    rfl
  · obtain ⟨S1, T1, u, v, rfl, ⟨x, ms, rfl, ⟨dx, t, hx, ht⟩, nm, im⟩, ⟨y, ns, rfl, ⟨dy, t', hy, ht'⟩, nn, inn⟩, k⟩ := h
    refine ⟨_, pss_cons (ps_set (i := 2) scO.nd rfl (Or.inl rfl) (pe_op op_catA (pe_fld (pv 0) rfl) (pe_fld (pv 1) rfl))) (pss_one (ps_ret (pe_makeS A.M A.I hr rfl S.mgC pass0 (pv 2)))), ?_⟩
    refine ⟨_, rfl, x, C, dx, _, _, rfl, hx, S.cl, S.nP, look_pairs _, _, rfl, y, C, dy, _, _, rfl, hy, S.cl, S.nP, look_pairs _, ?_⟩
    have lm := nm.len
    have ln := nn.len
    refine cat_read ht ht' (by omega) fun H1 p s1 ⟨ts, hA, hT, eT⟩ => ?_
    refine ⟨_, rfl, p, _, rfl, .inl (tupAt hA), mk_read hT ?_ (fun q m => ?_) fun H2 z s2 hz => ?_⟩
    · have e := congrArg List.length eT
      unfold prs at e
      rw [List.length_map, List.length_append] at e
      omega
    · rw [eT] at m
      exact (List.mem_append.mp m).elim (nm.ok q) (nn.ok q)
    · refine k H2 z (s1.trans s2) (hz.iff fun j => ?_)
      rw [eT, inS_append, im j, inn j]
theorem ok_and {f C : Addr} {fd : FuncData} (F : Fun K "__and__" "Spans.__and__" sAnd f fd) (S : SpCls K mg C) (A : Has P w K mg base C) : FnOk P w K mg base CX0 6 f fd ["self", "other"] (spBin C And) := by
  refine F.ok scA (fun vs H Q E h => ?_) (fun cdv Ar outer s H vs Q E hr h => ?_)
  · obtain ⟨_, _, _, _, rfl, _⟩ := h
    rfl
  · obtain ⟨S1, T1, u, v, rfl, ⟨x, ms, rfl, ⟨dx, t, hx, ht⟩, nm, im⟩, ⟨y, ns, rfl, ⟨dy, t', hy, ht'⟩, nn, inn⟩, k⟩ := h
    have hr1 : Room 2 _ := hr.mono (by decide)
    refine ⟨_, pss_cons (ps_set (i := 2) scA.nd rfl (Or.inl rfl) (pe_call A.GG hr1 rfl A.mgG A.kG A.bG .nil pass0 (pa_cons (pe_call A.GM hr1 rfl A.mgM A.kM A.bM .nil pass0 (pa_cons
        (pe_op op_catA (pe_call A.GG hr1 rfl A.mgG A.kG A.bG .nil pass0 (pa_cons (pe_fld (pv 0) rfl) pa_nil)) (pe_call A.GG hr1 rfl A.mgG A.kG A.bG .nil pass0 (pa_cons (pe_fld (pv 1) rfl) pa_nil))) pa_nil)) pa_nil)))
      (pss_one (ps_ret (pe_makeS A.M A.I hr rfl S.mgC pass0 (pv 2)))), ?_⟩
    refine ⟨_, rfl, x, C, dx, _, _, rfl, hx, S.cl, S.nP, look_pairs _, t, ms, rfl, ht, nm, fun H1 p gs s1 hp ng ig => ?_⟩
    refine ⟨_, rfl, y, C, dy, _, _, rfl, s1 _ _ hy, S.cl, S.nP, look_pairs _, t', ns, rfl, ht'.same s1, nn, fun H2 q hs s2 hq nh ih => ?_⟩
    have lg := ng.len
    have lh := nh.len
    refine cat_read (hp.same s2) hq (by omega) fun H3 r s3 hr3 => ?_
    refine ⟨r, _, rfl, hr3, fun z m => (List.mem_append.mp m).elim (ng.ok z) (nh.ok z), fun H4 r4 ms4 s4 h4 n4 i4 => ?_⟩
    refine ⟨r4, ms4, rfl, h4, n4, fun H5 r5 gs5 s5 ⟨ts, hA, hT, eT⟩ n5 i5 => ?_⟩
    refine ⟨_, rfl, r5, _, rfl, .inl (tupAt hA), mk_read hT ?_ (fun q m => ?_) fun H6 z s6 hz => ?_⟩
    · have e := congrArg List.length eT
      have l5 := n5.len
      unfold prs at e
      rw [List.length_map] at e
      omega
    · rw [eT] at m
      exact n5.ok q m
    · refine k H6 z ((((s1.trans s2).trans s3).trans s4).trans (s5.trans s6)) (hz.iff fun j => ?_)
      rw [eT, i5 j, i4 j, inS_append, ig j, ih j, ← im j, ← inn j]
      constructor
      · rintro ⟨a, b⟩
        refine ⟨?_, ?_⟩
        · by_cases c : inS j ms
          · exact c
          · exact (b (.inl ⟨a, c⟩)).elim
        · by_cases c : inS j ns
          · exact c
          · exact (b (.inr ⟨a, c⟩)).elim
      · rintro ⟨a, b⟩
        exact ⟨nm.inR a, fun z => z.elim (fun z => z.2 a) fun z => z.2 b⟩
theorem ok_sub {f C : Addr} {fd : FuncData} (F : Fun K "__sub__" "Spans.__sub__" sSub f fd) (S : SpCls K mg C) (A : Has P w K mg base C) : FnOk P w K mg base CX0 6 f fd ["self", "other"] (spBin C fun a b => a ∧ ¬ b) := by
  refine F.ok scS (fun vs H Q E h => ?_) (fun cdv Ar outer s H vs Q E hr h => ?_)
  · obtain ⟨_, _, _, _, rfl, _⟩ := h
    rfl
  · obtain ⟨S1, T1, u, v, rfl, ⟨x, ms, rfl, ⟨dx, t, hx, ht⟩, nm, im⟩, ⟨y, ns, rfl, ⟨dy, t', hy, ht'⟩, nn, inn⟩, k⟩ := h
    have hr1 : Room 2 _ := hr.mono (by decide)
    refine ⟨_, pss_cons (ps_set (i := 2) scS.nd rfl (Or.inl rfl) (pe_call A.GG hr1 rfl A.mgG A.kG A.bG .nil pass0 (pa_cons (pe_call A.GM hr1 rfl A.mgM A.kM A.bM .nil pass0 (pa_cons
        (pe_op op_catA (pe_call A.GG hr1 rfl A.mgG A.kG A.bG .nil pass0 (pa_cons (pe_fld (pv 0) rfl) pa_nil)) (pe_fld (pv 1) rfl)) pa_nil)) pa_nil)))
      (pss_one (ps_ret (pe_makeS A.M A.I hr rfl S.mgC pass0 (pv 2)))), ?_⟩
    refine ⟨_, rfl, x, C, dx, _, _, rfl, hx, S.cl, S.nP, look_pairs _, t, ms, rfl, ht, nm, fun H1 p gs s1 hp ng ig => ?_⟩
    refine ⟨_, rfl, y, C, dy, _, _, rfl, s1 _ _ hy, S.cl, S.nP, look_pairs _, ?_⟩
    have lg := ng.len
    have lh := nn.len
    refine cat_read hp (ht'.same s1) (by omega) fun H3 r s3 hr3 => ?_
    refine ⟨r, _, rfl, hr3, fun z m => (List.mem_append.mp m).elim (ng.ok z) (nn.ok z), fun H4 r4 ms4 s4 h4 n4 i4 => ?_⟩
    refine ⟨r4, ms4, rfl, h4, n4, fun H5 r5 gs5 s5 ⟨ts, hA, hT, eT⟩ n5 i5 => ?_⟩
    refine ⟨_, rfl, r5, _, rfl, .inl (tupAt hA), mk_read hT ?_ (fun q m => ?_) fun H6 z s6 hz => ?_⟩
    · have e := congrArg List.length eT
      have l5 := n5.len
      unfold prs at e
      rw [List.length_map] at e
      omega
    · rw [eT] at m
      exact n5.ok q m
    · refine k H6 z (((s1.trans s3).trans s4).trans (s5.trans s6)) (hz.iff fun j => ?_)
      rw [eT, i5 j, i4 j, inS_append, ig j, ← im j, ← inn j]
      constructor
      · rintro ⟨a, b⟩
        refine ⟨?_, fun c => b (.inr c)⟩
        by_cases c : inS j ms
        · exact c
        · exact (b (.inl ⟨a, c⟩)).elim
      · rintro ⟨a, b⟩
        exact ⟨nm.inR a, fun z => z.elim (fun z => z.2 a) b⟩
end
end Sps
set_option Elab.async false
set_option linter.all false
set_option maxRecDepth 100000
set_option maxHeartbeats 4000000
/-! len and == of Spans. -/
namespace Sps
open PySem PySem.Spec PyProof.Rows L2
/-- how many positions there are in it -/
noncomputable def num (S : Int → Prop) : Int := @cnt S (fun _ => Classical.propDecidable _) 1000000
theorem num_iff {S T : Int → Prop} (h : ∀ y, S y ↔ T y) : num S = num T := by
  unfold num
  exact @cnt_congr S T (fun _ => Classical.propDecidable _) (fun _ => Classical.propDecidable _) 1000000 fun x _ _ => h x
theorem num_size {ms : List Pr} {S : Int → Prop} (n : Norm ms) (h : ∀ y, inS y ms ↔ S y) : size ms = num S := by
  rw [n.size_cnt]
  unfold num
  exact @cnt_congr (fun x => inS x ms) S _ (fun _ => Classical.propDecidable _) 1000000 fun x _ _ => h x
theorem num_ok (S : Int → Prop) : 0 ≤ num S ∧ num S ≤ 1000000 := @cnt_pos S (fun _ => Classical.propDecidable _) 1000000
theorem num_or_and (S T : Int → Prop) : num (fun y => S y ∨ T y) + num (fun y => S y ∧ T y) = num S + num T := by
  have h := @cnt_or_and S T (fun _ => Classical.propDecidable _) (fun _ => Classical.propDecidable _) 1000000
  unfold num
  have e1 := @cnt_congr (fun y => S y ∨ T y) (fun y => S y ∨ T y) (fun _ => Classical.propDecidable _) (fun x => @instDecidableOr _ _ (Classical.propDecidable _) (Classical.propDecidable _)) 1000000 fun x _ _ => Iff.rfl
  have e2 := @cnt_congr (fun y => S y ∧ T y) (fun y => S y ∧ T y) (fun _ => Classical.propDecidable _) (fun x => @instDecidableAnd _ _ (Classical.propDecidable _) (Classical.propDecidable _)) 1000000 fun x _ _ => Iff.rfl
  rw [e1, e2]
  exact h
theorem num_sub (S T : Int → Prop) : num (fun y => S y ∧ ¬ T y) = num S - num (fun y => S y ∧ T y) := by
  have h := @cnt_sub S T (fun _ => Classical.propDecidable _) (fun _ => Classical.propDecidable _) 1000000
  unfold num
  have e1 := @cnt_congr (fun y => S y ∧ ¬ T y) (fun y => S y ∧ ¬ T y) (fun _ => Classical.propDecidable _) (fun x => @instDecidableAnd _ _ (Classical.propDecidable _) (@instDecidableNot _ (Classical.propDecidable _))) 1000000 fun x _ _ => Iff.rfl
  have e2 := @cnt_congr (fun y => S y ∧ T y) (fun y => S y ∧ T y) (fun _ => Classical.propDecidable _) (fun x => @instDecidableAnd _ _ (Classical.propDecidable _) (Classical.propDecidable _)) 1000000 fun x _ _ => Iff.rfl
  rw [e1, e2]
  exact h
/-! ### a tuple of pairs as data -/
def dP (p : Pr) : PyData := .tuple [.int p.1, .int p.2]
def datP (ps : List Pr) : PyData := .tuple (ps.map dP)
theorem dpAll_tps {K : PySem.W.Frag} {H : Hp} : ∀ {ts : List TP}, TPs H ts → DpAll K H (ts.map rf) ((prs ts).map dP)
  | [], _ => .nil
  | t :: ts, h => .cons (.tup (tupAt (h t List.mem_cons_self)) (.cons (.int _) (.cons (.int _) .nil))) (dpAll_tps fun u m => h u (List.mem_cons_of_mem _ m))
theorem dp_pt {K : PySem.W.Frag} {H : Hp} {a : Addr} {ps : List Pr} (h : PT H a ps) : Dp K H (.ref a) (datP ps) := by
  obtain ⟨ts, hA, hT, rfl⟩ := h
  exact .tup (tupAt hA) (dpAll_tps hT)
theorem lay_dP : ∀ ps : List Pr, PyData.canLayAll0 (ps.map dP) = true ∧ PyData.depthAll (ps.map dP) ≤ 1
  | [] => ⟨by simp [PyData.canLayAll0], by simp [PyData.depthAll]⟩
  | p :: ps => by
    have ih := lay_dP ps
    rw [List.map_cons]
    refine ⟨?_, ?_⟩
    · simp only [PyData.canLayAll0, ih.1, Bool.and_true]
      simp [dP, PyData.canLay0, PyData.canLayAll0]
    · simp only [PyData.depthAll]
      have e : PyData.depth (dP p) = 1 := by simp [dP, PyData.depth, PyData.depthAll]
      rw [e]
      exact Nat.max_le.mpr ⟨Nat.le_refl _, ih.2⟩
theorem shaped_datP (ps : List Pr) : SeqAt.shaped (datP ps) = true := by
  have h := lay_dP ps
  have h2 := h.2
  have e1 : PyData.canLay0 (datP ps) = true := by
    unfold datP
    simp only [PyData.canLay0, h.1]
  have e2 : PyData.depth (datP ps) ≤ 64 := by
    unfold datP
    simp only [PyData.depth]
    omega
  unfold SeqAt.shaped
  rw [e1, Bool.true_and]
  exact decide_eq_true e2
theorem eqv_dP (p q : Pr) : PyData.eqv (dP p) (dP q) = decide (p = q) := by
  obtain ⟨a, b⟩ := p
  obtain ⟨c, d⟩ := q
  simp only [dP, PyData.eqv, PyData.eqvAll, Bool.and_true]
  rw [Bool.eq_iff_iff]
  simp [Prod.ext_iff]
theorem eqvAll_dP : ∀ ps qs : List Pr, PyData.eqvAll (ps.map dP) (qs.map dP) = decide (ps = qs)
  | [], [] => by simp [PyData.eqvAll]
  | [], q :: qs => by simp [PyData.eqvAll]
  | p :: ps, [] => by simp [PyData.eqvAll]
  | p :: ps, q :: qs => by
    rw [List.map_cons, List.map_cons]
    simp only [PyData.eqvAll]
    rw [eqv_dP, eqvAll_dP ps qs, Bool.eq_iff_iff]
    simp
theorem eqv_datP (ps qs : List Pr) : PyData.eqv (datP ps) (datP qs) = decide (ps = qs) := by
  unfold datP
  simp only [PyData.eqv]
  exact eqvAll_dP ps qs
theorem norm_eq {ms ns : List Pr} {S T : Int → Prop} (nm : Norm ms) (nn : Norm ns) (im : ∀ y, inS y ms ↔ S y) (inn : ∀ y, inS y ns ↔ T y) : ms = ns ↔ ∀ y, S y ↔ T y :=
  ⟨fun e y => by rw [← im y, ← inn y, e], fun h => nm.uniq nn fun y => by rw [im y, inn y, h y]⟩
section
variable {P : Program} {w : World} {K : PySem.W.Frag} {mg : Str → Option Value} {base : Heap}
/-! ### len -/
def spLen (C : Addr) : Sp := fun vs H Q _ => ∃ (S : Int → Prop) (u : V), vs = [u] ∧ IsSp C S u H ∧ ∀ H', Same H H' → Q (.int (num S)) H'
theorem scLn : FnScope ["self", "start", "stop"] ["self"] (defScope sLen) := ⟨rfl, rfl, rfl, by decide +kernel, rfl, by decide +kernel, by decide +kernel⟩
theorem ok_len {f C : Addr} {fd : FuncData} (F : Fun K "__len__" "Spans.__len__" sLen f fd) (T : Names mg) (S : SpCls K mg C) : FnOk P w K mg base CX0 2 f fd ["self"] (spLen C) := by
  refine F.ok scLn (fun vs H Q E h => ?_) (fun cdv Ar outer s H vs Q E hr h => ?_)
  · obtain ⟨_, _, rfl, _⟩ := h
    rfl
  · obtain ⟨S1, u, rfl, ⟨x, ms, rfl, ⟨dx, t, hx, ⟨ts, hA, hT, rfl⟩⟩, nm, im⟩, k⟩ := h
    refine ⟨_, pss_one (ps_ret (pe_callB call_lenRg (by rfl) T.len PySem.boot_len (pa_cons (pe_callTy cr_range1 (by rfl) T.range (by decide +kernel) (pa_cons (pe_callB (cr_sum rfl) (by rfl) T.sum (by decide +kernel) (pa_cons
      (pe_lc (own := [("start", 1), ("stop", 2)]) (g := gTup K 2 (gCons (gName 1) (gCons (gName 2) gNil))) (tt := tYes) rfl scLn.nd (pi_tup (pe_fld (pv 0) rfl)) (blkOk_by (own := [("start", 1), ("stop", 2)]) (N := ["self", "start", "stop"]) (sc := defScope sLen) (by decide +kernel))
        (fun _ _ _ _ _ => pg_tup rfl (pgs_cons (pg_name (i := 1) scLn.nd rfl (Or.inl rfl)) (pgs_cons (pg_name (i := 2) scLn.nd rfl (Or.inl rfl)) pgs_nil))) (fun _ _ _ _ _ => pts_nil) (fun _ _ _ _ _ => pe_op op_sub (pv 2) (pv 1))) pa_nil)) pa_nil)) pa_nil))), ?_⟩
    refine ⟨_, rfl, x, C, dx, _, _, rfl, hx, S.cl, S.nP, look_pairs _, t, rfl, ⟨_, tupAt hA⟩, fun D hD => lc_tup (K := K) (a := t) (xs := ts.map rf) (fun i H' => Same H H' ∧ H' D = some (.lst (((prs ts).take i).map fun p => V.int (p.2 - p.1)))) ⟨Same.upd hD, upd_same⟩ (fun i H' _ ⟨sH, _⟩ => tupAt (sH _ _ hA)) ?_ ?_⟩
    · rintro i y H' hi ⟨sH, hL⟩
      rw [List.getElem?_map] at hi
      obtain ⟨u, hu, e⟩ : ∃ u, ts[i]? = some u ∧ rf u = y := by
        cases e : ts[i]? with
        | none => rw [e] at hi; cases hi
        | some u => rw [e] at hi; exact ⟨u, rfl, Option.some.inj hi⟩
      subst e
      have mu : u ∈ ts := List.mem_of_getElem? hu
      have hp : (prs ts)[i]? = some u.2 := by
        unfold prs
        rw [List.getElem?_map, hu]
        rfl
      refine ⟨u.1, _, rfl, tupAt (hT.same sH u mu), rfl, _, _, rfl, _, _, rfl, rfl, rfl, ?_⟩
      refine ⟨_, rfl, _, rfl, _, _, rfl, rfl, _, hL, ?_, Same.put sH hD, ?_⟩
      · rw [List.length_map, List.length_take]
        have := nm.len
        exact Nat.lt_of_le_of_lt (Nat.le_trans (Nat.min_le_right _ _) this) (by decide)
      · rw [upd_same, take_snoc hp, List.map_append]
        rfl
    · rintro H' ⟨sH, hL⟩
      rw [List.length_map] at hL
      have et : (prs ts).take ts.length = prs ts := List.take_of_length_le (by unfold prs; rw [List.length_map]; exact Nat.le_refl _)
      rw [et] at hL
      have b := num_ok S1
      refine ⟨D, (prs ts).map fun p => p.2 - p.1, rfl, ?_, ?_⟩
      · rw [List.map_map]
        exact SqL.of hL
      · have e : ((prs ts).map fun p => p.2 - p.1).sum = ((num S1).toNat : Int) := by
          have e1 := num_size nm im
          unfold size at e1
          omega
        rw [e]
        refine ⟨_, rfl, fun p hp => ⟨p, (num S1).toNat, rfl, upd_same, by omega, ?_⟩⟩
        have e2 : ((num S1).toNat : Int) = num S1 := by omega
        rw [e2]
        exact k _ (Same.upd' sH hp)
/-! ### == -/
def spEqS (C : Addr) : Sp := fun vs H Q _ => ∃ (S : Int → Prop) (u v : V), vs = [u, v] ∧ IsSp C S u H ∧
  ((∃ T : Int → Prop, IsSp C T v H ∧ ∀ b : Bool, (b = true ↔ ∀ y, S y ↔ T y) → Q (.bl b) H) ∨ ((∃ b ys, v = .ref b ∧ H b = some (.tup ys)) ∧ Q (.bl false) H) ∨ ((∃ i, v = .int i) ∧ Q (.bl false) H))
theorem scEq : FnScope ["self", "other"] ["self", "other"] (defScope sEq) := ⟨rfl, rfl, rfl, by decide +kernel, rfl, by decide +kernel, by decide +kernel⟩
theorem ok_eq {f C : Addr} {fd : FuncData} (F : Fun K "__eq__" "Spans.__eq__" sEq f fd) (T : Names mg) (S : SpCls K mg C) : FnOk P w K mg base CX0 2 f fd ["self", "other"] (spEqS C) := by
  refine F.ok scEq (fun vs H Q E h => ?_) (fun cdv Ar outer s H vs Q E hr h => ?_)
  · obtain ⟨_, _, _, rfl, _⟩ := h
    rfl
  · obtain ⟨S1, u, v, rfl, ⟨x, ms, rfl, ⟨dx, t, hx, ht⟩, nm, im⟩, h⟩ := h
    refine ⟨_, pss_one (ps_ret (pe_and (pe_callB call_isi (by rfl) T.isinstance (by decide +kernel) (pa_cons (pv 1) (pa_cons (pe_glob (v := .ref C) rfl S.mgC rfl) pa_nil))) (pe_one (pe_cmpR (op_eqD hr.units) (pe_fld (pv 0) rfl) (pe_fld (pv 1) rfl) (nomark _))))), ?_⟩
    rcases h with ⟨T1, ⟨y, ns, rfl, ⟨dy, t', hy, ht'⟩, nn, inn⟩, k⟩ | ⟨⟨b, ys, rfl, hb⟩, k⟩ | ⟨⟨i, rfl⟩, k⟩
    · refine ⟨_, rfl, _, _, _, _, true, rfl, .own C, .base (.ins hy S.cl S.ca S.cn S.ct S.cm), S.kCC, true, rfl, ?_⟩
      refine iteT ?_
      refine ⟨_, rfl, x, C, dx, _, _, rfl, hx, S.cl, S.nP, look_pairs _, _, rfl, y, C, dy, _, _, rfl, hy, S.cl, S.nP, look_pairs _, ?_⟩
      refine ⟨_, _, dp_pt ht, dp_pt ht', shaped_datP _, shaped_datP _, k _ ?_⟩
      rw [eqv_datP, decide_eq_true_eq]
      exact norm_eq nm nn im inn
    · refine ⟨_, rfl, _, _, _, _, false, rfl, .own C, .base (.tup hb), S.kTC, false, rfl, ?_⟩
      exact iteF k
    · refine ⟨_, rfl, _, _, _, _, false, rfl, .own C, .base (.int i), S.kIC, false, rfl, ?_⟩
      exact iteF k
end
end Sps
set_option Elab.async false
set_option linter.all false
set_option maxRecDepth 100000
set_option maxHeartbeats 4000000
/-! The law's drawing. -/
namespace Sps
open PySem PySem.Spec PyProof.Rows L2
abbrev sPot : Stmt := top 13
abbrev sDraw : Stmt := top 14
abbrev sAny : Stmt := top 15
/-- the pot of the drawing, after at most n draws by counting -/
def PotOk (n : Int) (H : Hp) (l : Addr) : Prop := ∃ a m c : Int, H l = some (.lst [.int a, .int m, .int c]) ∧ 0 ≤ m ∧ m < 2305843009213693951 ∧ 0 ≤ c ∧ c ≤ n
theorem PotOk.mono {n n' : Int} {H : Hp} {l : Addr} (h : PotOk n H l) (e : n ≤ n') : PotOk n' H l := let ⟨a, m, c, h1, h2, h3, h4, h5⟩ := h; ⟨a, m, c, h1, h2, h3, h4, Int.le_trans h5 e⟩
theorem PotOk.same {n : Int} {H H' : Hp} {l : Addr} (h : PotOk n H l) (s : Same H H') : PotOk n H' l := let ⟨a, m, c, h1, h2⟩ := h; ⟨a, m, c, s _ _ h1, h2⟩
theorem Same.x {H H' : Hp} (s : Same H H') (l : Addr) : SameX l H H' := fun b o _ e => s b o e
theorem SameX.trans {H H1 H2 : Hp} {l : Addr} (a : SameX l H H1) (b : SameX l H1 H2) : SameX l H H2 := fun c o n e => b c o n (a c o n e)
theorem SameX.refl (H : Hp) (l : Addr) : SameX l H H := fun _ _ _ e => e
theorem SameX.upd {H : Hp} {l : Addr} {o : HO} : SameX l H (L2.upd H l o) := fun b u n e => by rw [upd_ne n]; exact e
def primes : List V := [.int 2147483647, .int 2147483629, .int 2147483587, .int 2147483579, .int 2147483563]
theorem prime_at (c : Int) : ∃ v : Int, atI primes (c % 5) = some (.int v) ∧ 0 < v ∧ v ≤ 2147483647 := by
  have h0 := Int.emod_nonneg c (by decide : (5 : Int) ≠ 0)
  have h1 := Int.emod_lt_of_pos c (by decide : (0 : Int) < 5)
  have cases5 : c % 5 = 0 ∨ c % 5 = 1 ∨ c % 5 = 2 ∨ c % 5 = 3 ∨ c % 5 = 4 := by omega
  rcases cases5 with e | e | e | e | e <;> rw [e]
  · exact ⟨2147483647, by decide +kernel, by decide, by decide⟩
  · exact ⟨2147483629, by decide +kernel, by decide, by decide⟩
  · exact ⟨2147483587, by decide +kernel, by decide, by decide⟩
  · exact ⟨2147483579, by decide +kernel, by decide, by decide⟩
  · exact ⟨2147483563, by decide +kernel, by decide, by decide⟩
/-- both ways of a conditional expression give a value of which the same is known -/
theorem if_read {c : Bool} {ta tb : TE} {σ : L2.St} {H : Hp} {Q : VK} {W : V → Prop} (h1 : c = true → ∀ Q' : VK, (∀ v, W v → Q' v H) → ta σ H Q') (h2 : ¬ c = true → ∀ Q' : VK, (∀ v, W v → Q' v H) → tb σ H Q') (h : ∀ v, W v → Q v H) :
    if c = true then ta σ H Q else tb σ H Q := ite2 (fun e => h1 e Q h) fun e => h2 e Q h
section
variable {P : Program} {w : World} {K : PySem.W.Frag} {mg : Str → Option Value} {base : Heap}
def spDraw : Sp := fun vs H Q _ => ∃ (l : Addr) (many n : Int), vs = [.ref l, .int many] ∧ PotOk n H l ∧ n ≤ 100000 ∧ 0 < many ∧ many < 1000000 ∧
  ∀ (H' : Hp) (r : Int), SameX l H H' → PotOk (n + 1) H' l → 0 ≤ r → r < many → Q (.int r) H'
theorem scD : FnScope ["_law_pot_here", "_law_many", "_law_digit", "_law_prime", "_law_made_here"] ["_law_pot_here", "_law_many"] (defScope sDraw) := ⟨rfl, rfl, rfl, by decide +kernel, rfl, by decide +kernel, by decide +kernel⟩
theorem ok_draw {f : Addr} {fd : FuncData} (F : Fun K "_law_draw" "_law_draw" sDraw f fd) (T : Names mg) : FnOk P w K mg base CX0 2 f fd ["_law_pot_here", "_law_many"] spDraw := by
  refine F.ok scD (fun vs H Q E h => ?_) (fun cdv A outer s H vs Q E hr h => ?_)
  · obtain ⟨l, many, n, rfl, _⟩ := h
    rfl
  · obtain ⟨l, many, n, rfl, ⟨a, m, c, hl, hm0, hm1, hc0, hc1⟩, hn, hm, hm2, k⟩ := h
    refine ⟨_, pss_cons (ps_if (pt_cmpR op_gt (pe_ix ix_list (pv 0) pe_int (fun _ _ => rfl)) pe_int (nomark _))
        (pss_cons (ps_set (i := 2) scD.nd rfl (Or.inl rfl) (pe_op op_mod (pe_callTy call_int1 (by rfl) T.int (by decide +kernel) (pa_cons (pe_ix ix_list (pv 0) pe_int (fun _ _ => rfl)) pa_nil)) (pv 1)))
        (pss_cons (ps_asg (pe_op op_fdiv (pe_ix ix_list (pv 0) pe_int (fun _ _ => rfl)) (pv 1)) (pg_sub (pv 0) pe_int set_list))
        (pss_one (ps_ret (pv 2))))) pss_nil)
      (pss_cons (ps_asg (pe_op op_add (pe_ix ix_list (pv 0) pe_int (fun _ _ => rfl)) pe_int) (pg_sub (pv 0) pe_int set_list))
      (pss_cons (ps_set (i := 3) scD.nd rfl (Or.inl rfl) (pe_ix ix_list (pe_lst (pa_cons pe_int (pa_cons pe_int (pa_cons pe_int (pa_cons pe_int (pa_cons pe_int pa_nil))))))
          (pe_op op_mod (pe_callTy call_int1 (by rfl) T.int (by decide +kernel) (pa_cons (pe_ix ix_list (pv 0) pe_int (fun _ _ => rfl)) pa_nil)) pe_int) (fun _ _ => rfl)))
      (pss_cons (ps_set (i := 4) scD.nd rfl (Or.inl rfl) (pe_op op_mod (pe_callTy call_int1 (by rfl) T.int (by decide +kernel) (pa_cons (pe_op op_pow (pe_op op_add (pe_op op_add (pe_ix ix_list (pv 0) pe_int (fun _ _ => rfl))
            (pe_op op_mul (pe_op op_mul pe_int (pe_ix ix_list (pv 0) pe_int (fun _ _ => rfl))) (pe_ix ix_list (pv 0) pe_int (fun _ _ => rfl)))) pe_int) pe_int) pa_nil)) (pv 3)))
      (pss_cons (ps_set (i := 4) scD.nd rfl (Or.inl rfl) (pe_op op_mod (pe_callTy call_int1 (by rfl) T.int (by decide +kernel) (pa_cons (pe_op op_mul (pv 4)
            (pe_op op_add (pe_op op_mod (pe_callTy call_int1 (by rfl) T.int (by decide +kernel) (pa_cons (pv 4) pa_nil)) pe_int) (pe_op op_mul pe_int (pe_ix ix_list (pv 0) pe_int (fun _ _ => rfl))))) pa_nil)) pe_int))
      (pss_one (ps_ret (pe_op op_mod (pe_callTy call_int1 (by rfl) T.int (by decide +kernel) (pa_cons (pe_op op_fdiv (pv 4) pe_int) pa_nil)) (pv 1)))))))), ?_⟩
    refine ⟨_, rfl, l, _, 0, _, rfl, rfl, SqL.of hl, atI_nat (j := 0) rfl, _, _, rfl, rfl, _, rfl, ?_⟩
    refine ite2 (fun _ => ?_) (fun _ => ?_)
    · refine ⟨_, rfl, l, _, 0, _, rfl, rfl, SqL.of hl, atI_nat (j := 0) rfl, .inl ⟨a, rfl, _, rfl, _, _, rfl, rfl, hm, ?_⟩⟩
      refine ⟨_, rfl, l, _, 0, _, rfl, rfl, SqL.of hl, atI_nat (j := 0) rfl, _, rfl, _, _, rfl, rfl, ⟨hm, by omega⟩, ?_⟩
      refine ⟨_, rfl, l, _, 0, 0, rfl, rfl, hl, (by show ixN 3 0 = some 0; decide +kernel), ?_⟩
      refine ⟨_, rfl, ?_⟩
      exact k _ _ SameX.upd ⟨a / many, m, c, upd_same, hm0, hm1, hc0, by omega⟩ (Int.emod_nonneg _ (by omega)) (Int.emod_lt_of_pos _ hm)
    · refine ⟨_, rfl, l, _, 2, _, rfl, rfl, SqL.of hl, atI_nat (j := 2) rfl, _, _, rfl, rfl, ?_⟩
      refine ⟨_, rfl, l, _, 2, 2, rfl, rfl, hl, (by show ixN 3 2 = some 2; decide +kernel), ?_⟩
      -- pot[2] is one greater
      have hl1 : (L2.upd H l (.lst [.int a, .int m, .int (c + 1)])) l = some (.lst [.int a, .int m, .int (c + 1)]) := upd_same
      refine ⟨by show 5 ≤ sizeLine; decide, fun p hp => ?_⟩
      have pl : l ≠ p := ne_of_none hl1 hp
      have hl2 : (L2.upd (L2.upd H l (.lst [.int a, .int m, .int (c + 1)])) p (.lst primes)) l = some (.lst [.int a, .int m, .int (c + 1)]) := by rw [upd_ne pl]; exact hl1
      obtain ⟨v, hv, v0, v1⟩ := prime_at (c + 1)
      refine ⟨_, rfl, l, _, 2, _, rfl, rfl, SqL.of hl2, atI_nat (j := 2) rfl, .inl ⟨c + 1, rfl, _, _, rfl, rfl, (by show (0 : Int) < 5; decide), ?_⟩⟩
      refine ⟨p, primes, _, _, rfl, rfl, SqL.of upd_same, hv, ?_⟩
      have c1 : 0 ≤ c + 1 := by omega
      have c2 : c + 1 ≤ 100001 := by omega
      have sq1 : 0 ≤ (c + 1) * (c + 1) := Int.mul_nonneg c1 c1
      have sq2 : (c + 1) * (c + 1) ≤ 100001 * 100001 := Int.mul_le_mul c2 c2 c1 (by decide)
      have e99 : 99991 * (c + 1) * (c + 1) = 99991 * ((c + 1) * (c + 1)) := Int.mul_assoc _ _ _
      refine ⟨_, rfl, l, _, 1, _, rfl, rfl, SqL.of hl2, atI_nat (j := 1) rfl, _, rfl, l, _, 2, _, rfl, rfl, SqL.of hl2, atI_nat (j := 2) rfl, _, _, rfl, rfl, .inl (by constructor <;> omega),
        _, rfl, l, _, 2, _, rfl, rfl, SqL.of hl2, atI_nat (j := 2) rfl, _, _, rfl, rfl, .inl (by constructor <;> omega), _, _, rfl, rfl, _, _, rfl, rfl, _, _, rfl, rfl, ⟨by decide, by decide, by omega⟩, ?_⟩
      refine .inl ⟨_, rfl, _, rfl, _, _, rfl, rfl, v0, ?_⟩
      generalize hx : (m + 99991 * (c + 1) * (c + 1) + 61) ^ (3 : Int).toNat % v = x
      have x0 : 0 ≤ x := by rw [← hx]; exact Int.emod_nonneg _ (by omega)
      have x1 : x < v := by rw [← hx]; exact Int.emod_lt_of_pos _ v0
      refine ⟨_, rfl, _, rfl, .inl ⟨_, rfl, _, _, rfl, rfl, (by show (0 : Int) < 10007; decide), _, rfl, l, _, 2, _, rfl, rfl, SqL.of hl2, atI_nat (j := 2) rfl, _, _, rfl, rfl, .inl (by constructor <;> omega), _, _, rfl, rfl,
        _, _, rfl, rfl, .inl (by constructor <;> omega), ?_⟩⟩
      refine .inl ⟨_, rfl, _, _, rfl, rfl, (by show (0 : Int) < 2305843009213693907; decide), ?_⟩
      refine ⟨_, rfl, _, _, rfl, rfl, ⟨by decide, by decide⟩, .inl ⟨_, rfl, _, rfl, _, _, rfl, rfl, hm, ?_⟩⟩
      refine k _ _ (SameX.trans SameX.upd (Same.x (Same.upd hp) l)) ⟨a, m, c + 1, hl2, hm0, hm1, c1, by omega⟩ (Int.emod_nonneg _ (by omega)) (Int.emod_lt_of_pos _ hm)

def spAny : Sp := fun vs H Q _ => ∃ (l a : Addr) (xs : List V) (n : Int), vs = [.ref l, .ref a] ∧ PotOk n H l ∧ n ≤ 100000 ∧ a ≠ l ∧ H a = some (.lst xs) ∧ 0 < xs.length ∧ xs.length < 1000 ∧
  ∀ (H' : Hp) (x : V), SameX l H H' → PotOk (n + 1) H' l → x ∈ xs → Q x H'
theorem scY : FnScope ["_law_pot_here", "_law_items"] ["_law_pot_here", "_law_items"] (defScope sAny) := ⟨rfl, rfl, rfl, by decide +kernel, rfl, by decide +kernel, by decide +kernel⟩
theorem ok_any {f g : Addr} {fd fdG : FuncData} (F : Fun K "_law_any" "_law_any" sAny f fd) (T : Names mg) (G : FnOk P w K mg base CX0 2 g fdG ["_law_pot_here", "_law_many"] spDraw) (mgG : mg "_law_draw" = some (.ref g)) (kG : PySem.W.keepIn K (.ref g) = true) (bG : Binds K fdG ["_law_pot_here", "_law_many"] []) :
    FnOk P w K mg base CX0 3 f fd ["_law_pot_here", "_law_items"] spAny := by
  refine F.ok scY (fun vs H Q E h => ?_) (fun cdv A outer s H vs Q E hr h => ?_)
  · obtain ⟨l, a, xs, n, rfl, _⟩ := h
    rfl
  · obtain ⟨l, a, xs, n, rfl, hp, hn, hal, ha, h0, h1, k⟩ := h
    refine ⟨_, pss_one (ps_ret (pe_ix ix_list (pv 1) (pe_call G hr rfl mgG kG bG .nil pass0 (pa_cons (pv 0) (pa_cons (pe_callB call_len_seq (by rfl) T.len PySem.boot_len (pa_cons (pv 1) pa_nil)) pa_nil))) (fun _ _ => rfl))), ?_⟩
    refine ⟨_, rfl, _, rfl, _, rfl, a, xs, rfl, .inl (SqL.of ha), l, xs.length, n, rfl, hp, hn, by omega, by omega, fun H' r sx hp' r0 r1 => ?_⟩
    have hlt : r.toNat < xs.length := by omega
    refine ⟨a, xs, r, xs[r.toNat], rfl, rfl, SqL.of (sx _ _ hal ha), at_of (j := r.toNat) (by omega) (List.getElem?_eq_getElem hlt), ?_⟩
    exact k H' _ sx hp' (List.getElem_mem hlt)
def spPot (K : PySem.W.Frag) : Sp := fun vs H Q _ => ∃ (a : Addr) (ns : List Int) (k : Int), vs = [.ref a, .int k] ∧ SqL K H a (ns.map V.int) ∧ 0 ≤ k ∧ k < 1000 ∧
  ∀ (H' : Hp) (l : Addr), Same H H' → H l = none → PotOk 0 H' l → Q (.ref l) H'
theorem scPt : FnScope ["_law_script", "_law_k", "_law_cell", "_law_own"] ["_law_script", "_law_k"] (defScope sPot) := ⟨rfl, rfl, rfl, by decide +kernel, rfl, by decide +kernel, by decide +kernel⟩
theorem ok_pot {f : Addr} {fd : FuncData} (F : Fun K "_law_pot" "_law_pot" sPot f fd) (T : Names mg) : FnOk P w K mg base CX0 2 f fd ["_law_script", "_law_k"] (spPot K) := by
  refine F.ok scPt (fun vs H Q E h => ?_) (fun cdv A outer s H vs Q E hr h => ?_)
  · obtain ⟨a, ns, k, rfl, _⟩ := h
    rfl
  · obtain ⟨a, ns, k, rfl, ha, h0, h1, q⟩ := h
    refine ⟨_, pss_cons (ps_set (i := 2) scPt.nd rfl (Or.inl rfl) (pe_ifExp (pt_cmpR op_lt (pv 1) (pe_callB call_len_seq (by rfl) T.len PySem.boot_len (pa_cons (pv 0) pa_nil)) (nomark _)) (pe_ix ix_list (pv 0) (pv 1) (fun _ _ => rfl))
          (pe_op op_add (pe_op op_mul pe_int (pv 1)) pe_int)))
      (pss_cons (ps_set (i := 3) scPt.nd rfl (Or.inl rfl) (pe_op op_mul (pe_op op_mod (pe_callTy call_int1 (by rfl) T.int (by decide +kernel) (pa_cons (pe_callB call_abs (by rfl) T.abs (by decide +kernel) (pa_cons (pv 2) pa_nil)) pa_nil))
            (pe_op op_powW (pe_op op_pow pe_int pe_int) pe_int))
          (pe_callTy call_int1 (by rfl) T.int (by decide +kernel) (pa_cons (pe_cmpR op_ge (pe_callB call_abs (by rfl) T.abs (by decide +kernel) (pa_cons (pv 2) pa_nil)) (pe_op op_pow pe_int pe_int) (nomark _)) pa_nil))))
      (pss_one (ps_ret (pe_lst (pa_cons (pv 3) (pa_cons (pe_op op_mod (pe_callTy call_int1 (by rfl) T.int (by decide +kernel) (pa_cons (pe_op op_add (pe_op op_add
          (pe_op op_mul (pe_op op_mod (pe_callTy call_int1 (by rfl) T.int (by decide +kernel) (pa_cons (pv 2) pa_nil)) pe_int) pe_int) (pe_op op_mul (pe_op op_mul pe_int (pv 1)) (pv 1))) pe_int) pa_nil)) pe_int) (pa_cons pe_int pa_nil))))))), ?_⟩
    refine ⟨_, rfl, _, rfl, a, _, rfl, .inl ha, _, _, rfl, rfl, _, rfl, ?_⟩
    refine if_read (W := fun v => ∃ c, v = V.int c) (fun c Q' hq => ?_) (fun c Q' hq => ?_) (fun v ⟨c, ec⟩ => ?_)
    · have c' : k < ((ns.map V.int).length : Int) := of_decide_eq_true c
      rw [List.length_map] at c'
      have hlt : k.toNat < ns.length := by omega
      refine ⟨_, rfl, _, rfl, a, _, k, .int ns[k.toNat], rfl, rfl, ha, at_of (j := k.toNat) (by omega) ?_, hq _ ⟨_, rfl⟩⟩
      rw [List.getElem?_map, List.getElem?_eq_getElem hlt]
      rfl
    · exact ⟨_, rfl, _, _, rfl, rfl, .inl ⟨by decide, by decide⟩, _, _, rfl, rfl, hq _ ⟨_, rfl⟩⟩
    · subst ec
      refine ⟨_, rfl, _, rfl, .inl ⟨_, rfl, _, _, rfl, rfl, ⟨by decide, by decide, by decide⟩, _, _, rfl, rfl, ⟨by decide, by decide +kernel⟩, _, _, rfl, rfl, (by show (0 : Int) < ((10 : Int) ^ Int.toNat 60) ^ Int.toNat 5; decide +kernel), ?_⟩⟩
      refine ⟨_, rfl, _, rfl, _, _, rfl, rfl, ⟨by decide, by decide, by decide⟩, _, _, rfl, rfl, .inr ⟨_, rfl, _, _, rfl, rfl, .inr ?_, ?_⟩⟩
      · have z : ∀ b : Bool, -(2 ^ 64) < (if b = true then (1 : Int) else 0) ∧ (if b = true then (1 : Int) else 0) < 2 ^ 64 := by decide
        exact z _
      refine ⟨_, rfl, _, rfl, .inl ⟨c, rfl, _, _, rfl, rfl, (by show (0 : Int) < 2305843009213693951; decide), _, _, rfl, rfl, .inr ⟨by decide, by decide⟩, _, rfl, _, _, rfl, rfl, .inl ⟨by decide, by decide⟩, _, rfl, _, _, rfl, rfl, .inl ⟨by omega, by omega⟩, _, _, rfl, rfl, _, _, rfl, rfl,
        .inl ⟨_, rfl, _, _, rfl, rfl, (by show (0 : Int) < 2305843009213693921; decide), (by show 3 ≤ sizeLine; decide), fun l hl => ?_⟩⟩⟩
      refine q _ l (Same.upd hl) hl ⟨_, _, 0, upd_same, Int.emod_nonneg _ (by decide), ?_, Int.le_refl _, Int.le_refl _⟩
      refine Int.lt_trans (Int.emod_lt_of_pos _ (by decide)) (by decide)
end
end Sps
set_option Elab.async false
set_option linter.all false
set_option maxRecDepth 100000
set_option maxHeartbeats 4000000
/-! Positions as the keys of a dict; couples of them. -/
namespace Sps
open PySem PySem.Spec PyProof.Rows L2
abbrev sPlaces : Stmt := top 16
abbrev sCouples : Stmt := top 17
def kd (ks : List Int) : List (Key × V) := ks.map fun k => (Sum.inl k, V.bl true)
def addK (ks : List Int) (k : Int) : List Int := if k ∈ ks then ks else ks ++ [k]
theorem mem_addK {ks : List Int} {k x : Int} : x ∈ addK ks k ↔ x ∈ ks ∨ x = k := by
  unfold addK
  split
  · rename_i h
    exact ⟨.inl, fun z => z.elim id fun e => e ▸ h⟩
  · rw [List.mem_append, List.mem_singleton]
theorem nd_addK {ks : List Int} {k : Int} (h : ks.Nodup) : (addK ks k).Nodup := by
  unfold addK
  split
  · exact h
  · rename_i hk
    exact nd_snoc h hk
theorem len_addK {ks : List Int} {k : Int} : (addK ks k).length ≤ ks.length + 1 := by
  unfold addK
  split
  · omega
  · rw [List.length_append]
    exact Nat.le_refl _
theorem val_kd {k : Int} : ∀ {ks : List Int}, valV (kd ks) (Sum.inl k) = if k ∈ ks then some (V.bl true) else none
  | [] => rfl
  | j :: ks => by
    show valV ((Sum.inl j, V.bl true) :: kd ks) (Sum.inl k) = _
    by_cases e : j = k
    · subst e
      rw [valV_pos rfl, if_pos List.mem_cons_self]
    · rw [valV_neg (fun z => e (Sum.inl.inj z)), val_kd]
      by_cases m : k ∈ ks
      · rw [if_pos m, if_pos (List.mem_cons_of_mem _ m)]
      · rw [if_neg m, if_neg fun z => (List.mem_cons.mp z).elim (fun z => e z.symm) m]
theorem put_kd {ks : List Int} {k : Int} : putK (kd ks) (Sum.inl k) (V.bl true) = kd (addK ks k) := by
  by_cases m : k ∈ ks
  · unfold putK addK
    rw [valV_any, val_kd, if_pos m, if_pos m]
    show (if true = true then _ else _) = _
    rw [if_pos rfl]
    unfold kd
    rw [List.map_map]
    refine List.map_congr_left fun j _ => ?_
    show (if (Sum.inl j : Key) = Sum.inl k then ((Sum.inl j : Key), V.bl true) else ((Sum.inl j : Key), V.bl true)) = _
    split <;> rfl
  · rw [putK_new _ (by rw [val_kd, if_neg m])]
    unfold addK kd
    rw [if_neg m, List.map_append]
    rfl
def addAll (ks ls : List Int) : List Int := ls.foldl addK ks
theorem merge_kd : ∀ {ls ks : List Int}, mergeK (kd ks) (kd ls) = kd (addAll ks ls)
  | [], _ => rfl
  | l :: ls, ks => by
    show mergeK (putK (kd ks) (Sum.inl l) (V.bl true)) (kd ls) = kd (addAll (addK ks l) ls)
    rw [put_kd]
    exact merge_kd
theorem nd_addAll : ∀ {ls ks : List Int}, ks.Nodup → (addAll ks ls).Nodup
  | [], _, h => h
  | _ :: ls, _, h => nd_addAll (ls := ls) (nd_addK h)
theorem mem_addAll {x : Int} : ∀ {ls ks : List Int}, x ∈ addAll ks ls ↔ x ∈ ks ∨ x ∈ ls
  | [], ks => ⟨.inl, fun z => z.elim id fun z => by cases z⟩
  | l :: ls, ks => by
    show x ∈ addAll (addK ks l) ls ↔ _
    rw [mem_addAll, mem_addK, List.mem_cons, or_assoc]
/-- a dict at d: its keys, each once, all with True -/
def DK (H : Hp) (d : Addr) (ks : List Int) : Prop := H d = some (.dK (kd ks)) ∧ ks.Nodup
theorem DK.same {H H' : Hp} {d : Addr} {ks : List Int} (h : DK H d ks) (s : Same H H') : DK H' d ks := ⟨s _ _ h.1, h.2⟩
theorem DK.x {H H' : Hp} {d l : Addr} {ks : List Int} {xs : List V} (h : DK H d ks) (hl : H l = some (.lst xs)) (s : SameX l H H') : DK H' d ks := ⟨s _ _ (ne_of h.1 hl (by intro z; cases z)) h.1, h.2⟩
theorem inS_ones {x : Int} : ∀ {ys : List Int}, inS x (ys.map fun y => (y, y + 1)) ↔ x ∈ ys
  | [] => ⟨fun h => (inS_nil h).elim, fun h => by cases h⟩
  | y :: ys => by
    rw [List.map_cons, inS_cons, inS_ones, List.mem_cons]
    unfold inP
    constructor
    · rintro (⟨a, b⟩ | h)
      · exact .inl (by omega)
      · exact .inr h
    · rintro (e | h)
      · exact .inl ⟨by omega, by omega⟩
      · exact .inr h
section
variable {P : Program} {w : World} {K : PySem.W.Frag} {mg : Str → Option Value} {base : Heap}
def spPlaces : Sp := fun vs H Q _ => ∃ (a : Addr) (ts : List TP), vs = [.ref a] ∧ H a = some (.lst (ts.map rf)) ∧ TPs H ts ∧ (∀ q ∈ prs ts, okP q) ∧ ts.length ≤ 8 ∧
  ∀ (H' : Hp) (d : Addr) (ks : List Int), Same H H' → DK H' d ks → (∀ x, x ∈ ks ↔ inS x (prs ts)) → ks.length ≤ 8000000 → Q (.ref d) H'
theorem scPl : FnScope ["_law_couples_here", "_law_found", "_law_start", "_law_stop", "_law_spot"] ["_law_couples_here"] (defScope sPlaces) := ⟨rfl, rfl, rfl, by decide +kernel, rfl, by decide +kernel, by decide +kernel⟩
theorem ok_places {f : Addr} {fd : FuncData} (F : Fun K "_law_places" "_law_places" sPlaces f fd) (T : Names mg) : FnOk P w K mg base CX0 2 f fd ["_law_couples_here"] spPlaces := by
  refine F.ok scPl (fun vs H Q E h => ?_) (fun cdv A outer s H vs Q E hr h => ?_)
  · obtain ⟨a, ts, rfl, _⟩ := h
    rfl
  · obtain ⟨a, ts, rfl, hA, hT, hok, hlen, k⟩ := h
    refine ⟨_, pss_cons (ps_set (i := 1) scPl.nd rfl (Or.inl rfl) pe_dnewK)
      (pss_cons (ps_for PassesOwn.never rfl (pi_list (pv 0)) (pg_tup rfl (pgs_cons (pg_name (i := 2) scPl.nd rfl (Or.inl rfl)) (pgs_cons (pg_name (i := 3) scPl.nd rfl (Or.inl rfl)) pgs_nil)))
        (pss_one (ps_for PassesOwn.never rfl (pi_range2 (by rfl) T.range (pa_cons (pv 2) (pa_cons (pv 3) pa_nil))) (pg_name (i := 4) scPl.nd rfl (Or.inl rfl))
          (pss_one (ps_dput (hu_of hr) (pv 1) (pv 4) pe_bl rfl)))))
      (pss_one (ps_ret (pv 1)))), ?_⟩
    intro d hd
    have nad : a ≠ d := ne_of_none hA hd
    have s1 : Same H (L2.upd H d (.dK [])) := Same.upd hd
    refine ⟨_, rfl, a, rfl, ⟨_, SqL.of (s1 _ _ hA)⟩, for_list (K := K) (a := a) (xs := ts.map rf) (fun i σ H' => ∃ (ks : List Int) (v2 v3 v4 : Option V), σ = [some (.ref a), some (.ref d), v2, v3, v4] ∧ Same H H' ∧ DK H' d ks ∧ (∀ x, x ∈ ks ↔ inS x (prs (ts.take i))) ∧ ks.length ≤ 1000000 * i)
      ⟨[], none, none, none, rfl, s1, ⟨upd_same, List.nodup_nil⟩, fun x => ⟨fun h => (by cases h), fun h => (inS_nil h).elim⟩, Nat.zero_le _⟩ (fun i σ H' _ ⟨_, _, _, _, _, sH, _⟩ => SqL.of (sH _ _ hA)) ?_ ?_⟩
    · rintro i y σ H' hi ⟨ks, v2, v3, v4, rfl, sH, hD, hin, hkl⟩
      rw [List.getElem?_map] at hi
      obtain ⟨u, hu, e⟩ : ∃ u, ts[i]? = some u ∧ rf u = y := by
        cases e : ts[i]? with
        | none => rw [e] at hi; cases hi
        | some u => rw [e] at hi; exact ⟨u, rfl, Option.some.inj hi⟩
      subst e
      have mu : u ∈ ts := List.mem_of_getElem? hu
      have hi2 : i < ts.length := (List.getElem?_eq_some_iff.mp hu).1
      obtain ⟨o1, o2, o3⟩ := hok _ (prs_mem mu)
      have etk : prs (ts.take (i + 1)) = prs (ts.take i) ++ [u.2] := by rw [take_snoc hu, prs_app]; rfl
      refine ⟨u.1, _, rfl, tupAt (hT.same sH u mu), rfl, _, _, rfl, _, _, rfl, rfl, ?_⟩
      refine ⟨_, rfl, _, rfl, u.2.1, u.2.2, rfl, ⟨by omega, by omega, by omega, by omega⟩, for_range (lo := u.2.1) (n := (u.2.2 - u.2.1).toNat) (fun j σ H2 => ∃ (ks : List Int) (v4 : Option V), σ = [some (.ref a), some (.ref d), some (.int u.2.1), some (.int u.2.2), v4] ∧ Same H H2 ∧ DK H2 d ks ∧
        (∀ x, x ∈ ks ↔ inS x (prs (ts.take i)) ∨ (u.2.1 ≤ x ∧ x < u.2.1 + j)) ∧ ks.length ≤ 1000000 * i + j) ⟨ks, v4, rfl, sH, hD, fun x => ?_, hkl⟩ ?_ ?_⟩
      · rw [hin x]
        exact ⟨.inl, fun z => z.elim id fun ⟨z1, z2⟩ => by omega⟩
      · rintro j σ H2 hj ⟨ks2, v4, rfl, s2, hD2, hin2, hl2⟩
        refine ⟨_, rfl, _, rfl, d, _, rfl, DPut.k (k := Sum.inl (u.2.1 + j)) hD2.1 ?_, ?_⟩
        · unfold kd
          rw [List.length_map]
          exact Nat.lt_of_le_of_lt (show ks2.length ≤ 9000000 by omega) (by decide)
        · refine ⟨addK ks2 (u.2.1 + j), _, rfl, Same.put s2 hd, ⟨by rw [upd_same, put_kd], nd_addK hD2.2⟩, fun x => ?_, ?_⟩
          · rw [mem_addK, hin2 x, or_assoc]
            constructor
            · rintro (h | h | h)
              · exact .inl h
              · exact .inr ⟨h.1, by have := h.2; omega⟩
              · exact .inr ⟨by omega, by omega⟩
            · rintro (h | h)
              · exact .inl h
              · by_cases c : x = u.2.1 + j
                · exact .inr (.inr c)
                · exact .inr (.inl ⟨h.1, by have := h.2; omega⟩)
          · have := len_addK (ks := ks2) (k := u.2.1 + j)
            omega
      · rintro σ H2 ⟨ks2, v4, rfl, s2, hD2, hin2, hl2⟩
        refine ⟨ks2, _, _, _, rfl, s2, hD2, fun x => ?_, by omega⟩
        rw [hin2 x, etk, inS_append, inS_one]
        unfold inP
        have e : u.2.1 + (((u.2.2 - u.2.1).toNat : Nat) : Int) = u.2.2 := by omega
        rw [e]
    · rintro σ H' ⟨ks, v2, v3, v4, rfl, sH, hD, hin, hkl⟩
      rw [List.length_map] at hin hkl
      refine ⟨_, rfl, k _ d ks sH hD (fun x => ?_) (by omega)⟩
      rw [hin x, take_all]
def spCouples : Sp := fun vs H Q _ => ∃ (d : Addr) (ks : List Int), vs = [.ref d] ∧ DK H d ks ∧ (∀ x ∈ ks, 0 ≤ x ∧ x < 1000000) ∧
  ∀ (H' : Hp) (p : Addr) (ms : List Pr), Same H H' → PT H' p ms → Norm ms → (∀ x, inS x ms ↔ x ∈ ks) → Q (.ref p) H'
theorem scC : FnScope ["_law_places_here", "_law_found", "_law_spot"] ["_law_places_here"] (defScope sCouples) := ⟨rfl, rfl, rfl, by decide +kernel, rfl, by decide +kernel, by decide +kernel⟩
theorem shaped_list (ps : List Pr) : SeqAt.shaped (.list (ps.map dP)) = true := by
  have h := lay_dP ps
  have h2 := h.2
  have e1 : PyData.canLay0 (.list (ps.map dP)) = true := by simp only [PyData.canLay0, h.1]
  have e2 : PyData.depth (.list (ps.map dP)) ≤ 64 := by
    simp only [PyData.depth]
    omega
  unfold SeqAt.shaped
  rw [e1, Bool.true_and]
  exact decide_eq_true e2
theorem eqv_nil (ps : List Pr) : PyData.eqv (.list (ps.map dP)) (.list []) = decide (ps = []) := by
  simp only [PyData.eqv]
  exact eqvAll_dP ps []
theorem ok_couples {f : Addr} {fd : FuncData} (F : Fun K "_law_couples" "_law_couples" sCouples f fd) (T : Names mg) : FnOk P w K mg base CX0 2 f fd ["_law_places_here"] spCouples := by
  refine F.ok scC (fun vs H Q E h => ?_) (fun cdv A outer s H vs Q E hr h => ?_)
  · obtain ⟨a, ps, rfl, _⟩ := h
    rfl
  · obtain ⟨a, ks, rfl, ⟨hA, hnd⟩, hrg, k⟩ := h
    refine ⟨_, pss_cons (ps_set (i := 1) scC.nd rfl (Or.inl rfl) (pe_lst pa_nil))
      (pss_cons (ps_for PassesOwn.never rfl (pi_list (pe_callB (call_sortD rfl) (by rfl) T.sorted (by decide +kernel) (pa_cons (pv 0) pa_nil))) (pg_name (i := 2) scC.nd rfl (Or.inl rfl))
        (pss_one (ps_if (PW.pt (pw_and (pt_cmpR (op_neD hr.units) (pv 1) (pe_lst pa_nil) (nomark _)) (pw_and1 (pt_cmpR op_eq (pe_ix ix_tup (pe_ix ix_list (pv 1) (pe_un un_neg pe_int) (fun _ _ => rfl)) pe_int (fun _ _ => rfl)) (pv 2) (nomark _)))))
          (pss_one (ps_asg (pe_tup (pa_cons (pe_ix ix_tup (pe_ix ix_list (pv 1) (pe_un un_neg pe_int) (fun _ _ => rfl)) pe_int (fun _ _ => rfl)) (pa_cons (pe_op op_add (pv 2) pe_int) pa_nil)))
            (pg_sub (pv 1) (pe_un un_neg pe_int) set_list)))
          (pss_one (ps_expr (pe_bm PySem.F.plainAttrs_list PySem.F.slot_list_append PySem.F.type_list_append mt_append (pv 1) (pa_cons (pe_tup (pa_cons (pv 2) (pa_cons (pe_op op_add (pv 2) pe_int) pa_nil))) pa_nil)))))))
      (pss_one (ps_ret (pe_callTy call_tuple_of (by rfl) T.tuple (by decide +kernel) (pa_cons (pv 1) pa_nil))))), ?_⟩
    refine ⟨Nat.zero_le _, fun l hl => ?_⟩
    have al : a ≠ l := ne_of_none hA hl
    have s1 : Same H (L2.upd H l (.lst [])) := Same.upd hl
    refine ⟨_, rfl, a, kd ks, ks, rfl, .inl (s1 _ _ hA), by unfold kd; rw [List.map_map]; rfl, fun ys q hpm hsr hq => ?_⟩
    have s2 : Same (L2.upd H l (.lst [])) (L2.upd (L2.upd H l (.lst [])) q (.lst (ys.map V.int))) := Same.upd hq
    have lq : l ≠ q := ne_of_none (show (L2.upd H l (.lst [])) l = _ from upd_same) hq
    have hnd2 : ys.Nodup := hpm.symm.nodup hnd
    have hlt : ys.Pairwise (· < ·) := by
      refine (List.pairwise_and_iff.mpr ⟨hsr, hnd2⟩).imp fun {x y} ⟨h1, h2⟩ => ?_
      have : x ≠ y := h2
      omega
    refine ⟨q, rfl, ⟨_, SqL.of upd_same⟩, for_list (K := K) (a := q) (xs := ys.map V.int) (fun i σ H' => ∃ (fs : List TP) (v2 : Option V), σ = [some (.ref a), some (.ref l), v2] ∧ Same H H' ∧ H' l = some (.lst (fs.map rf)) ∧ H' q = some (.lst (ys.map V.int)) ∧ TPs H' fs ∧
        Norm (prs fs) ∧ (∀ x, inS x (prs fs) ↔ x ∈ ys.take i))
      ⟨[], none, rfl, s1.trans s2, s2 _ _ upd_same, upd_same, TPs.nil, Norm.nil, fun x => ⟨fun h => (inS_nil h).elim, fun h => (by cases h)⟩⟩
      (fun i σ H' _ ⟨_, _, _, _, _, e, _⟩ => SqL.of e) ?_ ?_⟩
    · rintro i y σ H' hi ⟨fs, v2, rfl, sH, hL, hQ, hF, hN, hin⟩
      rw [List.getElem?_map] at hi
      obtain ⟨u, hu, e⟩ : ∃ u, ys[i]? = some u ∧ V.int u = y := by
        cases e : ys[i]? with
        | none => rw [e] at hi; cases hi
        | some u => rw [e] at hi; exact ⟨u, rfl, Option.some.inj hi⟩
      subst e
      have mu : u ∈ ys := List.mem_of_getElem? hu
      obtain ⟨r0, r1⟩ := hrg u (hpm.mem_iff.mp mu)
      have okU : okP (u, u + 1) := ⟨r0, by show u < u + 1; omega, by show u + 1 ≤ 1000000; omega⟩
      have before : ∀ x ∈ ys.take i, x < u := fun x hx => by
        obtain ⟨j, hj⟩ := List.getElem?_of_mem hx
        obtain ⟨hj1, ej⟩ := List.getElem?_eq_some_iff.mp hj
        rw [List.length_take] at hj1
        obtain ⟨hi1, ei⟩ := List.getElem?_eq_some_iff.mp hu
        rw [List.getElem_take] at ej
        have := List.pairwise_iff_getElem.mp hlt j i (by omega) hi1 (by omega)
        rw [ej, ei] at this
        exact this
      have M : Mrg (prs fs) ((ys.take i).map fun y => (y, y + 1)) u := ⟨hN, fun x => by rw [hin x, inS_ones], fun f m => by
        have k1 := (hN.ok f m).2.1
        have := before f.1 ((hin f.1).mp ⟨f, m, Int.le_refl _, k1⟩)
        omega⟩
      have etk : ((ys.take (i + 1)).map fun y => (y, y + 1)) = ((ys.take i).map fun y => (y, y + 1)) ++ [(u, u + 1)] := by rw [take_snoc hu, List.map_append]; rfl
      have fsz : fs.length ≤ 1000000 := by
        have := hN.len
        unfold prs at this
        rw [List.length_map] at this
        exact this
      have fin : ∀ (gs : List TP) (H2 : Hp), Same H H2 → H2 l = some (.lst (gs.map rf)) → H2 q = some (.lst (ys.map V.int)) → TPs H2 gs → Mrg (prs gs) ((ys.take (i + 1)).map fun y => (y, y + 1)) u →
          ∃ (fs : List TP) (v2 : Option V), [some (V.ref a), some (V.ref l), some (V.int u)] = [some (.ref a), some (.ref l), v2] ∧ Same H H2 ∧ H2 l = some (.lst (fs.map rf)) ∧ H2 q = some (.lst (ys.map V.int)) ∧ TPs H2 fs ∧
            Norm (prs fs) ∧ (∀ x, inS x (prs fs) ↔ x ∈ ys.take (i + 1)) :=
        fun gs H2 a1 a2 a3 a4 m => ⟨gs, _, rfl, a1, a2, a3, a4, m.norm, fun x => by rw [m.same x, inS_ones]⟩
      -- a new couple
      have app : ∀ (H1 : Hp) (t : Addr), Same H' H1 → H1 t = none → (∀ f ∈ prs fs, f.2 < u) → ∃ (fs' : List TP) (v2 : Option V), [some (V.ref a), some (V.ref l), some (V.int u)] = [some (.ref a), some (.ref l), v2] ∧ Same H (L2.upd (L2.upd H1 t (.tup [.int u, .int (u + 1)])) l (.lst ((fs.map rf) ++ [.ref t]))) ∧
          (L2.upd (L2.upd H1 t (.tup [.int u, .int (u + 1)])) l (.lst ((fs.map rf) ++ [.ref t]))) l = some (.lst (fs'.map rf)) ∧ (L2.upd (L2.upd H1 t (.tup [.int u, .int (u + 1)])) l (.lst ((fs.map rf) ++ [.ref t]))) q = some (.lst (ys.map V.int)) ∧ TPs (L2.upd (L2.upd H1 t (.tup [.int u, .int (u + 1)])) l (.lst ((fs.map rf) ++ [.ref t]))) fs' ∧
            Norm (prs fs') ∧ (∀ x, inS x (prs fs') ↔ x ∈ ys.take (i + 1)) := fun H1 t s3 ht ha => by
        refine fin (fs ++ [(t, u, u + 1)]) _ (Same.put (Same.upd' (sH.trans s3) ht) hl) ?_ ?_ ?_ ?_
        · rw [upd_same, List.map_append]; rfl
        · rw [upd_ne lq.symm]
          exact (Same.upd ht) _ _ (s3 _ _ hQ)
        · exact (((hF.same s3).same (Same.upd ht)).app (TPs.one (t := (t, u, u + 1)) upd_same)).put ((Same.upd ht) _ _ (s3 _ _ hL))
        · rw [prs_app, etk]
          exact M.add okU ha
      refine ⟨_, rfl, Nat.zero_le _, fun n hn => ?_⟩
      have s3 : Same H' (L2.upd H' n (.lst [])) := Same.upd hn
      refine ⟨_, _, .lst (SqL.of (s3 _ _ hL)) (dpAll_tps (hF.same s3)), .lst (SqL.of upd_same) .nil, shaped_list _, by decide +kernel, _, rfl, ?_⟩
      rw [eqv_nil]
      rcases List.eq_nil_or_concat fs with e0 | ⟨gs, z, e0⟩
      · subst e0
        refine iteNS rfl ?_
        refine iteF ?_
        refine ⟨_, rfl, .inl ⟨rfl, _, SqL.of (s3 _ _ hL)⟩, _, rfl, _, rfl, _, _, rfl, rfl, (by show 2 ≤ sizeLine; decide), fun t ht => ?_⟩
        refine ⟨l, _, _, rfl, rfl, (Same.upd ht) _ _ (s3 _ _ hL), by decide, ?_⟩
        exact app _ t s3 ht fun f m => by cases m
      · subst e0
        rw [List.concat_eq_append] at *
        have hz : TPs H' [z] := fun t m => hF t (List.mem_append.mpr (.inr m))
        have hzt := s3 _ _ (hz z (List.mem_singleton.mpr rfl))
        have hLl : (gs ++ [z]).map rf = gs.map rf ++ [rf z] := by rw [List.map_append]; rfl
        have at1 : atI ((gs ++ [z]).map rf) (-1) = some (V.ref z.1) := by rw [hLl]; exact atI_last _ _
        have hL3 := s3 _ _ hL
        refine iteNS_not (by unfold prs; simp) ?_
        have zin : z.2 ∈ prs (gs ++ [z]) := prs_mem (List.mem_append.mpr (.inr (List.mem_singleton.mpr rfl)))
        have zok := (hN.ok _ zin).2.1
        have zle : z.2.2 ≤ u := by
          have := before (z.2.2 - 1) ((hin _).mp ⟨z.2, zin, by show z.2.1 ≤ z.2.2 - 1; omega, by show z.2.2 - 1 < z.2.2; omega⟩)
          omega
        refine ⟨_, rfl, 1, rfl, l, _, _, _, rfl, rfl, SqL.of hL3, at1, z.1, _, _, _, rfl, rfl, tupAt hzt, atI_nat (j := 1) rfl, _, rfl, rfl, _, rfl, ?_⟩
        refine ite2 (fun c => ?_) (fun c => ?_)
        · have c' : z.2.2 = u := V.int.inj (of_decide_eq_true c)
          refine ⟨_, rfl, 1, rfl, l, _, _, _, rfl, rfl, SqL.of hL3, at1, z.1, _, _, _, rfl, rfl, tupAt hzt, atI_nat (j := 0) rfl, _, rfl, _, _, rfl, rfl, (by show 2 ≤ sizeLine; decide), fun t ht => ?_⟩
          refine ⟨_, rfl, 1, rfl, l, _, _, gs.length, rfl, rfl, (Same.upd ht) _ _ hL3, ?_, ?_⟩
          · rw [List.length_map, List.length_append]
            exact ixN_last _
          · have mg := M
            rw [prs_app] at mg
            have g3 := Mrg.grow (p := (u, u + 1)) mg okU (by show u ≤ z.2.2; omega)
            have e5 : (if (u, u + 1).2 > z.2.2 then (u, u + 1).2 else z.2.2) = u + 1 := by
              show (if u + 1 > z.2.2 then u + 1 else z.2.2) = u + 1
              rw [if_pos (by omega)]
            refine fin (gs ++ [(t, z.2.1, u + 1)]) _ (Same.put (Same.upd' (sH.trans s3) ht) hl) ?_ ?_ ?_ ?_
            · rw [upd_same, hLl]
              have : (gs.map rf ++ [rf z]).set gs.length (V.ref t) = gs.map rf ++ [V.ref t] := by
                have := set_last (l := gs.map rf) (a := rf z) (b := V.ref t)
                rw [List.length_map] at this
                exact this
              rw [this, List.map_append]
              rfl
            · rw [upd_ne lq.symm]
              exact (Same.upd ht) _ _ (s3 _ _ hQ)
            · have hG : TPs H' gs := fun t m => hF t (List.mem_append.mpr (.inl m))
              exact (((hG.same s3).same (Same.upd ht)).app (TPs.one (t := (t, z.2.1, u + 1)) upd_same)).put ((Same.upd ht) _ _ hL3)
            · rw [prs_app, etk]
              have g4 := g3
              rw [e5] at g4
              exact g4
        · have c' : ¬ z.2.2 = u := fun e => c (decide_eq_true (by rw [e]))
          refine ⟨_, rfl, .inl ⟨rfl, _, SqL.of hL3⟩, _, rfl, _, rfl, _, _, rfl, rfl, (by show 2 ≤ sizeLine; decide), fun t ht => ?_⟩
          refine ⟨l, _, _, rfl, rfl, (Same.upd ht) _ _ hL3, ?_, ?_⟩
          · rw [List.length_map]
            exact Nat.lt_of_le_of_lt fsz (by decide)
          · refine app _ t s3 ht fun f m => ?_
            rw [prs_app] at m hN
            rcases List.mem_append.mp m with m | m
            · have a1 := hN.last_lt f m
              have a3 : f.2 < z.2.1 := a1
              omega
            · have e3 : f = z.2 := List.mem_singleton.mp m
              rw [e3]
              omega
    · rintro σ H' ⟨fs, v2, rfl, sH, hL, hQ, hF, hN, hin⟩
      refine ⟨_, rfl, l, _, rfl, .inl ⟨SqL.of hL, fun p hp => ?_⟩⟩
      refine k _ p (prs fs) (Same.upd' sH hp) ⟨fs, upd_same, hF.same (Same.upd hp), rfl⟩ hN fun x => ?_
      rw [hin x, List.length_map, take_all]
      exact hpm.mem_iff
end
end Sps
set_option Elab.async false
set_option linter.all false
set_option maxRecDepth 100000
set_option maxHeartbeats 4000000
/-! Drawn couples; spans made couple by couple. -/
namespace Sps
open PySem PySem.Spec PyProof.Rows L2
abbrev sDrawn : Stmt := top 18
theorem TPs.x {H H' : Hp} {ts : List TP} {l : Addr} {xs : List V} (h : TPs H ts) (hl : H l = some (.lst xs)) (s : SameX l H H') : TPs H' ts := fun t m => s _ _ (ne_of (h t m) hl (by intro z; cases z)) (h t m)
theorem SameX.upd' {H H1 : Hp} {l p : Addr} {o : HO} (s : SameX l H H1) (h : H1 p = none) : SameX l H (L2.upd H1 p o) := s.trans (Same.x (Same.upd h) l)
theorem SameX.put {H H1 : Hp} {l p : Addr} {o : HO} (s : SameX l H H1) (h : H p = none) : SameX l H (L2.upd H1 p o) := fun b u n e => by
  rw [upd_ne (ne_of_none e h)]
  exact s b u n e
theorem SameX.free {H H' : Hp} {l p : Addr} (s : SameX l H H') (n : p ≠ l) (h : H' p = none) : H p = none := by
  cases q : H p with
  | none => rfl
  | some o =>
    rw [s p o n q] at h
    cases h
theorem PotOk.at_ {n : Int} {H : Hp} {l : Addr} (h : PotOk n H l) : ∃ xs, H l = some (.lst xs) := let ⟨_, _, _, e, _⟩ := h; ⟨_, e⟩
theorem PotOk.ne {n : Int} {H : Hp} {l p : Addr} (h : PotOk n H l) (e : H p = none) : p ≠ l := fun z => by
  obtain ⟨xs, q⟩ := h.at_
  rw [z, q] at e
  cases e
theorem PotOk.put {n : Int} {H : Hp} {l p : Addr} {o : HO} (h : PotOk n H l) (e : p ≠ l) : PotOk n (L2.upd H p o) l := let ⟨a, m, c, h1, h2⟩ := h; ⟨a, m, c, by rw [upd_ne e.symm]; exact h1, h2⟩
section
variable {P : Program} {w : World} {K : PySem.W.Frag} {mg : Str → Option Value} {base : Heap}
def spDrawn : Sp := fun vs H Q _ => ∃ (l : Addr) (most wide n : Int), vs = [.ref l, .int most, .int wide] ∧ PotOk n H l ∧ n ≤ 90000 ∧ 0 ≤ most ∧ most ≤ 5 ∧ 0 < wide ∧ wide ≤ 24 ∧
  ∀ (H' : Hp) (a : Addr) (ts : List TP), SameX l H H' → PotOk (n + 20) H' l → a ≠ l → H' a = some (.lst (ts.map rf)) → TPs H' ts → ts.length ≤ 5 → (∀ q ∈ prs ts, okP q) → (∀ q ∈ prs ts, q.2 - q.1 ≤ 9) → Q (.ref a) H'
theorem scDn : FnScope ["_law_pot_here", "_law_most", "_law_wide", "_law_base", "_law_found", "_law_turn", "_law_start"] ["_law_pot_here", "_law_most", "_law_wide"] (defScope sDrawn) := ⟨rfl, rfl, rfl, by decide +kernel, rfl, by decide +kernel, by decide +kernel⟩
theorem ok_drawn {f g gA : Addr} {fd fdG fdA : FuncData} (F : Fun K "_law_drawn" "_law_drawn" sDrawn f fd) (T : Names mg) (G : FnOk P w K mg base CX0 2 g fdG ["_law_pot_here", "_law_many"] spDraw) (mgG : mg "_law_draw" = some (.ref g)) (kG : PySem.W.keepIn K (.ref g) = true) (bG : Binds K fdG ["_law_pot_here", "_law_many"] [])
    (A : FnOk P w K mg base CX0 3 gA fdA ["_law_pot_here", "_law_items"] spAny) (mgA : mg "_law_any" = some (.ref gA)) (kA : PySem.W.keepIn K (.ref gA) = true) (bA : Binds K fdA ["_law_pot_here", "_law_items"] []) :
    FnOk P w K mg base CX0 4 f fd ["_law_pot_here", "_law_most", "_law_wide"] spDrawn := by
  refine F.ok scDn (fun vs H Q E h => ?_) (fun cdv Ar outer s H vs Q E hr h => ?_)
  · obtain ⟨l, most, wide, n, rfl, _⟩ := h
    rfl
  · obtain ⟨l, most, wide, n, rfl, hp, hn, m0, m1, w0, w1, k⟩ := h
    have hr1 : Room 2 _ := hr.mono (by decide)
    refine ⟨_, pss_cons (ps_par (i := 3) (j := 4) (by rfl) scDn.nd rfl rfl (by decide) rfl rfl (pa_cons (pe_call A hr rfl mgA kA bA .nil pass0 (pa_cons (pv 0) (pa_cons (pe_lst (pa_cons pe_int (pa_cons pe_int (pa_cons pe_int (pa_cons pe_int (pa_cons pe_int pa_nil)))))) pa_nil))) (pa_cons (pe_lst pa_nil) pa_nil)) (by rfl))
      (pss_cons (ps_for PassesOwn.never rfl (pi_range1 rfl T.range (pa_cons (pe_call G hr1 rfl mgG kG bG .nil pass0 (pa_cons (pv 0) (pa_cons (pe_op op_add (pv 1) pe_int) pa_nil))) pa_nil)) (pg_name (i := 5) scDn.nd rfl (Or.inl rfl))
        (pss_cons (ps_set (i := 6) scDn.nd rfl (Or.inl rfl) (pe_op op_add (pv 3) (pe_call G hr1 rfl mgG kG bG .nil pass0 (pa_cons (pv 0) (pa_cons (pv 2) pa_nil)))))
        (pss_one (ps_expr (pe_bm PySem.F.plainAttrs_list PySem.F.slot_list_append PySem.F.type_list_append mt_append (pv 4) (pa_cons (pe_tup (pa_cons (pv 6) (pa_cons (pe_op op_add (pe_op op_add (pv 6) pe_int) (pe_call G hr1 rfl mgG kG bG .nil pass0 (pa_cons (pv 0) (pa_cons pe_int pa_nil)))) pa_nil))) pa_nil))))))
      (pss_one (ps_ret (pv 4)))), ?_⟩
    refine ⟨_, rfl, (by show 5 ≤ sizeLine; decide), fun p hpn => ?_⟩
    have pl := hp.ne hpn
    refine ⟨l, p, _, n, rfl, hp.put pl, by omega, pl, upd_same, by decide, by decide, fun H1 x sx1 hp1 hx => ?_⟩
    obtain ⟨b, rfl, b0, b1⟩ : ∃ b : Int, x = V.int b ∧ 0 ≤ b ∧ b ≤ 999960 := by
      rcases List.mem_cons.mp hx with e | hx
      · exact ⟨0, e, by decide, by decide⟩
      rcases List.mem_cons.mp hx with e | hx
      · exact ⟨0, e, by decide, by decide⟩
      rcases List.mem_cons.mp hx with e | hx
      · exact ⟨0, e, by decide, by decide⟩
      rcases List.mem_cons.mp hx with e | hx
      · exact ⟨5, e, by decide, by decide⟩
      rcases List.mem_cons.mp hx with e | hx
      · exact ⟨999960, e, by decide, by decide⟩
      cases hx
    have sA : SameX l H H1 := (Same.x (Same.upd hpn) l).trans sx1
    refine ⟨Nat.zero_le _, fun a ha => ⟨_, _, rfl, ?_⟩⟩
    have al := hp1.ne ha
    have ha0 : H a = none := sA.free al ha
    refine ⟨_, rfl, _, rfl, _, _, rfl, rfl, l, most + 1, n + 1, rfl, hp1.put al, by omega, by omega, by omega, fun H2 r sx2 hp2 r0 r1 => ?_⟩
    have sB : SameX l H H2 := (sA.put ha0).trans sx2
    refine ⟨r, rfl, by omega, by omega, for_range (lo := 0) (n := r.toNat) (fun i σ H' => ∃ (ts : List TP) (v5 v6 : Option V), σ = [some (.ref l), some (.int most), some (.int wide), some (.int b), some (.ref a), v5, v6] ∧ SameX l H H' ∧ PotOk (n + 2 + 2 * i) H' l ∧ H' a = some (.lst (ts.map rf)) ∧ TPs H' ts ∧ ts.length = i ∧
        (∀ q ∈ prs ts, okP q) ∧ (∀ q ∈ prs ts, q.2 - q.1 ≤ 9))
      ⟨[], none, none, rfl, sB, hp2.mono (by omega), sx2 _ _ al upd_same, TPs.nil, rfl, fun q m => (by cases m), fun q m => (by cases m)⟩ ?_ ?_⟩
    · rintro i σ H' hi ⟨ts, v5, v6, rfl, sx, hp', hL, hT, hlen, hok, hw⟩
      have i5 : (i : Int) < 5 := by omega
      refine ⟨_, rfl, _, rfl, _, rfl, l, wide, _, rfl, hp', by omega, w0, by omega, fun H3 r3 sx3 hp3 r30 r31 => ?_⟩
      refine ⟨_, _, rfl, rfl, ?_⟩
      refine ⟨_, rfl, .inl ⟨rfl, _, SqL.of (sx3 _ _ al hL)⟩, _, rfl, _, rfl, _, _, rfl, rfl, _, rfl, l, 9, _, rfl, hp3, by omega, by decide, by decide, fun H4 r4 sx4 hp4 r40 r41 => ?_⟩
      refine ⟨_, _, rfl, rfl, (by show 2 ≤ sizeLine; decide), fun t ht => ?_⟩
      have tl := hp4.ne ht
      have sC : SameX l H' H4 := sx3.trans sx4
      have sD : SameX l H H4 := sx.trans sC
      have hL4 : H4 a = some (.lst (ts.map rf)) := sC _ _ al hL
      have hT4 : TPs H4 ts := by
        obtain ⟨xs, ex⟩ := hp'.at_
        exact hT.x ex sC
      refine ⟨a, _, _, rfl, rfl, (Same.upd ht) _ _ hL4, ?_, ?_⟩
      · rw [List.length_map, hlen]
        exact Nat.lt_of_lt_of_le (show i < 5 by omega) (by decide)
      · refine ⟨ts ++ [(t, b + r3, b + r3 + 1 + r4)], _, _, rfl, (sD.upd' ht).put ha0, ((hp4.put tl).put al).mono (by omega), ?_, ?_, ?_, ?_, ?_⟩
        · rw [upd_same, List.map_append]; rfl
        · exact ((hT4.same (Same.upd ht)).app (TPs.one (t := (t, b + r3, b + r3 + 1 + r4)) upd_same)).put ((Same.upd ht) _ _ hL4)
        · rw [List.length_append, hlen]; rfl
        · intro q m
          rw [prs_app] at m
          rcases List.mem_append.mp m with m | m
          · exact hok q m
          · have e3 : q = (b + r3, b + r3 + 1 + r4) := List.mem_singleton.mp m
            rw [e3]
            exact ⟨by show 0 ≤ b + r3; omega, by show b + r3 < b + r3 + 1 + r4; omega, by show b + r3 + 1 + r4 ≤ 1000000; omega⟩
        · intro q m
          rw [prs_app] at m
          rcases List.mem_append.mp m with m | m
          · exact hw q m
          · have e3 : q = (b + r3, b + r3 + 1 + r4) := List.mem_singleton.mp m
            rw [e3]
            show b + r3 + 1 + r4 - (b + r3) ≤ 9
            omega
    · rintro σ H' ⟨ts, v5, v6, rfl, sx, hp', hL, hT, hlen, hok, hw⟩
      refine ⟨_, rfl, k H' a ts sx (hp'.mono (by omega)) al hL hT (by omega) hok hw⟩

end
end Sps
set_option Elab.async false
set_option linter.all false
set_option maxRecDepth 100000
set_option maxHeartbeats 4000000
/-! Values of any kind as data: nested lists, tuples, dicts of one text; their texts. -/
namespace Sps
open PySem PySem.Spec PyProof.Rows L2
mutual
/-- the data of a value, no part of it is the list at l -/
inductive Dq (l : Addr) (H : Hp) : V → PyData → Prop
  | non : Dq l H .non .none
  | bl (b : Bool) : Dq l H (.bl b) (.bool b)
  | int (i : Int) : Dq l H (.int i) (.int i)
  | str (x : Str) : Dq l H (.str x) (.str x)
  | lst {a : Addr} {xs : List V} {ds : List PyData} (h : H a = some (.lst xs)) (n : a ≠ l) (q : DqAll l H xs ds) : Dq l H (.ref a) (.list ds)
  | tup {a : Addr} {xs : List V} {ds : List PyData} (h : H a = some (.tup xs)) (q : DqAll l H xs ds) : Dq l H (.ref a) (.tuple ds)
  | emp {a : Addr} (h : H a = some (.dK [])) : Dq l H (.ref a) (.dict [])
  | dct {a : Addr} {x : Str} {v : V} {d : PyData} (h : H a = some (.dK [(Sum.inr x, v)])) (q : Dq l H v d) : Dq l H (.ref a) (.dict [(.str x, d)])
inductive DqAll (l : Addr) (H : Hp) : List V → List PyData → Prop
  | nil : DqAll l H [] []
  | cons {v : V} {vs : List V} {d : PyData} {ds : List PyData} (q : Dq l H v d) (r : DqAll l H vs ds) : DqAll l H (v :: vs) (d :: ds)
end
mutual
theorem Dq.go {l : Addr} {H H' : Hp} (s : SameX l H H') (k : ∀ b o, (∀ xs, o ≠ .lst xs) → H b = some o → H' b = some o) : ∀ {v : V} {d : PyData}, Dq l H v d → Dq l H' v d
  | _, _, .non => .non
  | _, _, .bl b => .bl b
  | _, _, .int i => .int i
  | _, _, .str x => .str x
  | _, _, .lst h n q => .lst (s _ _ n h) n (DqAll.go s k q)
  | _, _, .tup h q => .tup (k _ _ (fun xs z => by cases z) h) (DqAll.go s k q)
  | _, _, .emp h => .emp (k _ _ (fun xs z => by cases z) h)
  | _, _, .dct h q => .dct (k _ _ (fun xs z => by cases z) h) (Dq.go s k q)
theorem DqAll.go {l : Addr} {H H' : Hp} (s : SameX l H H') (k : ∀ b o, (∀ xs, o ≠ .lst xs) → H b = some o → H' b = some o) : ∀ {vs : List V} {ds : List PyData}, DqAll l H vs ds → DqAll l H' vs ds
  | _, _, .nil => .nil
  | _, _, .cons q r => .cons (Dq.go s k q) (DqAll.go s k r)
end
theorem Dq.same {l : Addr} {H H' : Hp} {v : V} {d : PyData} (h : Dq l H v d) (s : Same H H') : Dq l H' v d := h.go (fun b o _ e => s b o e) fun b o _ e => s b o e
theorem DqAll.same {l : Addr} {H H' : Hp} {v : List V} {d : List PyData} (h : DqAll l H v d) (s : Same H H') : DqAll l H' v d := h.go (fun b o _ e => s b o e) fun b o _ e => s b o e
theorem k_of {l : Addr} {H H' : Hp} {ys : List V} (hl : H l = some (.lst ys)) (s : SameX l H H') : ∀ b o, (∀ xs, o ≠ .lst xs) → H b = some o → H' b = some o :=
  fun b o n e => s b o (ne_of e hl (n ys)) e
theorem Dq.x {l : Addr} {H H' : Hp} {v : V} {d : PyData} {ys : List V} (h : Dq l H v d) (hl : H l = some (.lst ys)) (s : SameX l H H') : Dq l H' v d := h.go s (k_of hl s)
theorem DqAll.x {l : Addr} {H H' : Hp} {v : List V} {d : List PyData} {ys : List V} (h : DqAll l H v d) (hl : H l = some (.lst ys)) (s : SameX l H H') : DqAll l H' v d := h.go s (k_of hl s)
theorem DqAll.length {l : Addr} {H : Hp} : ∀ {vs : List V} {ds : List PyData}, DqAll l H vs ds → vs.length = ds.length
  | _, _, .nil => rfl
  | _, _, .cons q r => congrArg (· + 1) r.length
theorem DqAll.mem {l : Addr} {H : Hp} : ∀ {vs : List V} {ds : List PyData}, DqAll l H vs ds → ∀ {x : V}, x ∈ vs → ∃ d ∈ ds, Dq l H x d
  | _, _, .nil, _, m => by cases m
  | _, _, .cons q r, _, m => by
    rcases List.mem_cons.mp m with e | m
    · subst e
      exact ⟨_, List.mem_cons_self, q⟩
    · obtain ⟨d, m2, q2⟩ := r.mem m
      exact ⟨d, List.mem_cons_of_mem _ m2, q2⟩
theorem DqAll.app {l : Addr} {H : Hp} : ∀ {vs ws : List V} {ds es : List PyData}, DqAll l H vs ds → DqAll l H ws es → DqAll l H (vs ++ ws) (ds ++ es)
  | _, _, _, _, .nil, k => k
  | _, _, _, _, .cons q r, k => .cons q (r.app k)
theorem DqAll.take {l : Addr} {H : Hp} : ∀ {vs : List V} {ds : List PyData} (n : Nat), DqAll l H vs ds → DqAll l H (vs.take n) (ds.take n)
  | _, _, 0, _ => .nil
  | _, _, _ + 1, .nil => .nil
  | _, _, n + 1, .cons q r => .cons q (r.take n)
theorem DqAll.drop {l : Addr} {H : Hp} : ∀ {vs : List V} {ds : List PyData} (n : Nat), DqAll l H vs ds → DqAll l H (vs.drop n) (ds.drop n)
  | _, _, 0, h => h
  | _, _, _ + 1, .nil => .nil
  | _, _, n + 1, .cons q r => r.drop n
theorem DqAll.at_ {l : Addr} {H : Hp} : ∀ {vs : List V} {ds : List PyData} {i : Nat} {x : V}, DqAll l H vs ds → vs[i]? = some x → ∃ d, ds[i]? = some d ∧ Dq l H x d
  | _, _, 0, _, .cons q r, h => by cases h; exact ⟨_, rfl, q⟩
  | _, _, i + 1, _, .cons q r, h => r.at_ (i := i) h
theorem dqAll_tps {l : Addr} {H : Hp} : ∀ {ts : List TP}, TPs H ts → DqAll l H (ts.map rf) ((prs ts).map dP)
  | [], _ => .nil
  | t :: ts, h => .cons (.tup (h t List.mem_cons_self) (.cons (.int _) (.cons (.int _) .nil))) (dqAll_tps fun u m => h u (List.mem_cons_of_mem _ m))
/-! ### pairs among them -/
def okD : PyData → Bool
  | .tuple [.int i, .int j] => okB i j
  | _ => false
theorem noInt_of {K : PySem.W.Frag} {l : Addr} {H : Hp} {x : V} {d : PyData} (h : Dq l H x d) (n : ∀ i, d ≠ .int i) : NoInt K H x := by
  cases h with
  | non => exact ⟨_, .base .non, .inl (kit_ty (by decide +kernel))⟩
  | bl b => exact ⟨_, .base (.bl b), .inr ⟨kit_ty (by decide +kernel), kit_ty (by decide +kernel)⟩⟩
  | int i => exact absurd rfl (n i)
  | str x => exact ⟨_, .base (.str x), .inl (kit_ty (by decide +kernel))⟩
  | lst h _ _ => exact ⟨_, .base (.lst h), .inl (kit_ty (by decide +kernel))⟩
  | tup h _ => exact ⟨_, .base (.tup h), .inl (kit_ty (by decide +kernel))⟩
  | emp h => exact ⟨_, .base (.dK h), .inl (kit_ty (by decide +kernel))⟩
  | dct h _ => exact ⟨_, .base (.dK h), .inl (kit_ty (by decide +kernel))⟩
theorem int_of {l : Addr} {H : Hp} {x : V} {i : Int} (h : Dq l H x (.int i)) : x = .int i := by cases h; rfl
theorem isInt (d : PyData) : (∃ i, d = .int i) ∨ ∀ i, d ≠ .int i := by
  cases d with
  | int i => exact .inl ⟨i, rfl⟩
  | _ => exact .inr fun i z => by cases z
theorem okD_fst {x y : PyData} (n : ∀ i, x ≠ .int i) : okD (.tuple [x, y]) = false := by
  cases x with
  | int i => exact absurd rfl (n i)
  | _ => rfl
theorem okD_snd {x y : PyData} (n : ∀ i, y ≠ .int i) : okD (.tuple [x, y]) = false := by
  cases y with
  | int i => exact absurd rfl (n i)
  | _ => cases x <;> rfl
theorem okD_len {ds : List PyData} (n : ds.length ≠ 2) : okD (.tuple ds) = false := by
  match ds, n with
  | [], _ => rfl
  | [x], _ => cases x <;> rfl
  | x :: y :: z :: r, _ => cases x <;> (try rfl) <;> cases y <;> rfl
  | [x, y], n => exact absurd rfl n
theorem pairV_of {K : PySem.W.Frag} {l : Addr} {H : Hp} {x : V} {d : PyData} (h : Dq l H x d) : PairV K H x (okD d) := by
  cases h with
  | non => exact .no (.base .non) (kit_ty (by decide +kernel))
  | bl b => exact .no (.base (.bl b)) (kit_ty (by decide +kernel))
  | int i => exact .no (.base (.int i)) (kit_ty (by decide +kernel))
  | str x => exact .no (.base (.str x)) (kit_ty (by decide +kernel))
  | lst h _ _ => exact .no (.base (.lst h)) (kit_ty (by decide +kernel))
  | emp h => exact .no (.base (.dK h)) (kit_ty (by decide +kernel))
  | dct h _ => exact .no (.base (.dK h)) (kit_ty (by decide +kernel))
  | tup h q =>
    rename_i a xs ds
    by_cases n : ds.length = 2
    · match ds, n, q with
      | [d1, d2], _, .cons q1 (.cons q2 .nil) =>
        rcases isInt d1 with ⟨i, rfl⟩ | n1
        · obtain rfl := int_of q1
          rcases isInt d2 with ⟨j, rfl⟩ | n2
          · obtain rfl := int_of q2
            exact .pair h
          · rw [okD_snd n2]
            exact .snd h (noInt_of q2 n2)
        · rw [okD_fst n1]
          exact .fst h (noInt_of q1 n1)
    · rw [okD_len n]
      exact .len h (by rw [q.length]; exact n)
theorem okD_pair {d : PyData} (h : okD d = true) : ∃ p : Pr, d = dP p ∧ okP p := by
  unfold okD at h
  split at h
  · rename_i i j
    exact ⟨(i, j), rfl, okB_iff.mp h⟩
  · cases h
/-- all of them pairs: tracked pairs -/
theorem tps_of {l : Addr} {H : Hp} : ∀ {vs : List V} {ds : List PyData}, DqAll l H vs ds → ds.all okD = true → ∃ ts : List TP, vs = ts.map rf ∧ TPs H ts ∧ ds = (prs ts).map dP ∧ ∀ q ∈ prs ts, okP q
  | _, _, .nil, _ => ⟨[], rfl, TPs.nil, rfl, fun q m => by cases m⟩
  | _, _, .cons q r, h => by
    obtain ⟨h1, h2⟩ := Bool.and_eq_true_iff.mp (show (_ && _) = true from h)
    obtain ⟨ts, e1, hT, e2, hok⟩ := tps_of r h2
    obtain ⟨p, e, okp⟩ := okD_pair h1
    subst e
    cases q with
    | tup hA qa =>
      rename_i a xs
      match xs, qa with
      | [x, y], .cons q1 (.cons q2 .nil) =>
        obtain rfl := int_of q1
        obtain rfl := int_of q2
        refine ⟨(a, p) :: ts, by rw [e1]; rfl, fun t m => ?_, by rw [e2]; rfl, fun u m => ?_⟩
        · rcases List.mem_cons.mp m with e | m
          · subst e
            exact hA
          · exact hT t m
        · rcases List.mem_cons.mp m with e | m
          · subst e
            exact okp
          · exact hok u m
/-! ### texts -/
/-- no code point beyond the last one -/
def okT (t : Str) : Prop := ∀ c ∈ t.cps.toList, c < 0x110000
theorem okT.of {t : Str} (h : PyData.strOk t = true) : okT t := fun c m => by
  unfold PyData.strOk at h
  rw [← Array.all_toList] at h
  exact of_decide_eq_true (List.all_eq_true.mp h c m)
theorem okT.to {t : Str} (h : okT t) : PyData.strOk t = true := by
  unfold PyData.strOk
  rw [← Array.all_toList]
  exact List.all_eq_true.mpr fun c m => decide_eq_true (h c m)
theorem okT.app {a b : Str} (ha : okT a) (hb : okT b) : okT (a ++ b) := fun c m => by
  have e : (a ++ b).cps.toList = a.cps.toList ++ b.cps.toList := by
    show (a.cps ++ b.cps).toList = _
    simp
  rw [e] at m
  exact (List.mem_append.mp m).elim (ha c) (hb c)
theorem okT_join : ∀ ts : List Str, (∀ t ∈ ts, okT t) → okT (Str.join ", " ts)
  | [], _ => okT.of (by decide +kernel)
  | [x], h => h x List.mem_cons_self
  | x :: y :: r, h => by
    have ih := okT_join (y :: r) fun t m => h t (List.mem_cons_of_mem _ m)
    show okT (x ++ ", " ++ Str.join ", " (y :: r))
    exact ((h x List.mem_cons_self).app (okT.of (by decide +kernel))).app ih
theorem okT_from : ∀ (ts : List Str) (k : Nat) (acc : Str), okT acc → (∀ t ∈ ts, okT t) → okT (textFrom k acc ts)
  | [], _, _, ha, _ => ha
  | t :: ts, k, acc, ha, h => by
    show okT (textFrom (k + 1) (acc ++ (if k > 0 then ", " else "" : String) ++ t) ts)
    refine okT_from ts (k + 1) _ ((ha.app ?_).app (h t List.mem_cons_self)) fun u m => h u (List.mem_cons_of_mem _ m)
    split
    · exact okT.of (by decide +kernel)
    · exact okT.of (by decide +kernel)
theorem okT_tup (ts : List Str) (h : ∀ t ∈ ts, okT t) : okT (tupleText ts) := by
  unfold tupleText
  refine ((okT.of (by decide +kernel)).app (okT_join ts h)).app ?_
  split
  · exact okT.of (by decide +kernel)
  · exact okT.of (by decide +kernel)
theorem okT_lst (ts : List Str) (h : ∀ t ∈ ts, okT t) : okT (listText ts) := by
  unfold listText
  exact (okT_from ts 0 _ (okT.of (by decide +kernel)) h).app (okT.of (by decide +kernel))
theorem okT_dct (x t : Str) (hx : okT x) (ht : okT t) : okT (dictText [x ++ ": " ++ t]) := by
  unfold dictText
  refine ((okT.of (by decide +kernel)).app (okT_join _ fun u m => ?_)).app (okT.of (by decide +kernel))
  rw [List.mem_singleton.mp m]
  exact (hx.app (okT.of (by decide +kernel))).app ht
theorem okT_int (i : Int) : okT (PyData.int i).shown := fun c m => by
  by_cases z : c < 0x110000
  · exact z
  · exact absurd m (shown_int_free' (k := c) ⟨by omega, .inr (by omega)⟩ i)
/-- a value's text has room, n layers deep -/
structure Fit (n : Nat) (d : PyData) : Prop where
  show_ : d.showable = true
  deep : d.depth ≤ 3 + n
  len : d.shown.length + 10 ≤ 60 * 2 ^ n
  ok : okT d.shown
theorem Fit.up {n m : Nat} {d : PyData} (h : Fit n d) (e : n ≤ m) : Fit m d := ⟨h.show_, by have := h.deep; omega, Nat.le_trans h.len (Nat.mul_le_mul_left _ (Nat.pow_le_pow_right (by decide) e)), h.ok⟩
theorem len_tup (ts : List Str) : (tupleText ts).length ≤ piled ts + 3 := by
  have e : (tupleText ts).length ≤ 1 + (Str.join ", " ts).length + 2 := by
    unfold tupleText
    rw [strLen_append, strLen_append]
    have : ((if ts.length == 1 then ",)" else ")" : String) : Str).length ≤ 2 := by split <;> decide
    have e1 : (("(" : String) : Str).length = 1 := rfl
    omega
  by_cases h : ts = []
  · subst h
    decide +kernel
  · have := join_length_add ts h
    omega
theorem len_lst (ts : List Str) : (listText ts).length ≤ piled ts + 2 := by
  cases ts with
  | nil => decide +kernel
  | cons t r =>
    have hX : (listText (t :: r)).length = (textFrom 0 "[" (t :: r)).length + 1 := by
      unfold listText
      rw [strLen_append]
      rfl
    have h := textFrom_length_pos r 1 (("[" : Str) ++ (if (0 : Nat) > 0 then ", " else "" : String) ++ t) (Nat.succ_pos 0)
    have e2 : (("[" : Str) ++ (if (0 : Nat) > 0 then ", " else "" : String) ++ t).length = 1 + t.length := by
      rw [strLen_append, strLen_append]
      rfl
    have h2 : (textFrom 0 "[" (t :: r)).length = 1 + t.length + piled r := by
      show (textFrom 1 _ r).length = _
      rw [h, e2]
    rw [hX, h2, piled_cons]
    omega
theorem len_dct (x : Str) (t : Str) : (dictText [x ++ ": " ++ t]).length ≤ x.length + t.length + 4 := by
  have e : (dictText [x ++ ": " ++ t]).length = 1 + (Str.join ", " [x ++ ": " ++ t]).length + 1 := by
    unfold dictText
    rw [strLen_append, strLen_append]
    rfl
  have h2 := join_length_add [x ++ ": " ++ t] (by simp)
  have e3 : piled [x ++ ": " ++ t] = (x.length + 2 + t.length) + 2 := by
    rw [piled_cons, piled_nil, strLen_append, strLen_append]
    rfl
  omega
end Sps
set_option Elab.async false
set_option linter.all false
set_option maxRecDepth 100000
set_option maxHeartbeats 4000000
/-! Layers of data, their room; repr of them. -/
namespace Sps
open PySem PySem.Spec PyProof.Rows L2
theorem two_pow (n : Nat) : 60 * 2 ^ (n + 1) = 2 * (60 * 2 ^ n) := by rw [Nat.pow_succ]; omega
theorem Fit.tup1 {n : Nat} {d : PyData} (h : Fit n d) : Fit (n + 1) (.tuple [d]) := by
  obtain ⟨a, b, c, ot⟩ := h
  refine ⟨?_, ?_, ?_, ?_⟩
  · simp [PyData.showable, PyData.showableAll, a]
  · simp only [PyData.depth, PyData.depthAll]
    omega
  · have e : (PyData.tuple [d]).shown = tupleText [d.shown] := by simp only [PyData.shown, PyData.shownAll]
    have l := len_tup [d.shown]
    rw [piled_cons, piled_nil] at l
    rw [e, two_pow]
    omega
  · simp only [PyData.shown, PyData.shownAll]
    exact okT_tup _ fun t m => by rw [List.mem_singleton.mp m]; exact ot
theorem Fit.lst1 {n : Nat} {d : PyData} (h : Fit n d) : Fit (n + 1) (.list [d]) := by
  obtain ⟨a, b, c, ot⟩ := h
  refine ⟨?_, ?_, ?_, ?_⟩
  · simp [PyData.showable, PyData.showableAll, a]
  · simp only [PyData.depth, PyData.depthAll]
    omega
  · have e : (PyData.list [d]).shown = listText [d.shown] := by simp only [PyData.shown, PyData.shownAll]
    have l := len_lst [d.shown]
    rw [piled_cons, piled_nil] at l
    rw [e, two_pow]
    omega
  · simp only [PyData.shown, PyData.shownAll]
    exact okT_lst _ fun t m => by rw [List.mem_singleton.mp m]; exact ot
theorem Fit.dup {n : Nat} {d : PyData} (h : Fit n d) : Fit (n + 1) (.tuple [d, d]) := by
  obtain ⟨a, b, c, ot⟩ := h
  refine ⟨?_, ?_, ?_, ?_⟩
  · simp [PyData.showable, PyData.showableAll, a]
  · simp only [PyData.depth, PyData.depthAll]
    omega
  · have e : (PyData.tuple [d, d]).shown = tupleText [d.shown, d.shown] := by simp only [PyData.shown, PyData.shownAll]
    have l := len_tup [d.shown, d.shown]
    rw [piled_cons, piled_cons, piled_nil] at l
    rw [e, two_pow]
    omega
  · simp only [PyData.shown, PyData.shownAll]
    exact okT_tup _ fun t m => by
      rcases List.mem_cons.mp m with e | m
      · rw [e]; exact ot
      · rw [List.mem_singleton.mp m]; exact ot
theorem Fit.one {n : Nat} {d : PyData} (h : Fit n d) : Fit (n + 1) (.tuple [.int 1, d]) := by
  obtain ⟨a, b, c, ot⟩ := h
  refine ⟨?_, ?_, ?_, ?_⟩
  · simp [PyData.showable, PyData.showableAll, a]
    decide +kernel
  · simp only [PyData.depth, PyData.depthAll]
    omega
  · have e : (PyData.tuple [.int 1, d]).shown = tupleText [(PyData.int 1).shown, d.shown] := by simp only [PyData.shown, PyData.shownAll]
    have l := len_tup [(PyData.int 1).shown, d.shown]
    have e1 : (PyData.int 1).shown.length = 1 := by decide +kernel
    rw [piled_cons, piled_cons, piled_nil] at l
    rw [e, two_pow]
    have : 60 ≤ 60 * 2 ^ n := Nat.le_mul_of_pos_right _ (Nat.two_pow_pos n)
    omega
  · have e : (PyData.tuple [.int 1, d]).shown = tupleText [(PyData.int 1).shown, d.shown] := by simp only [PyData.shown, PyData.shownAll]
    rw [e]
    exact okT_tup _ fun t m => by
      rcases List.mem_cons.mp m with e | m
      · rw [e]; exact okT_int 1
      · rw [List.mem_singleton.mp m]; exact ot
theorem Fit.dct {n : Nat} {d : PyData} (h : Fit n d) : Fit (n + 1) (.dict [(.str "a", d)]) := by
  obtain ⟨a, b, c, ot⟩ := h
  refine ⟨?_, ?_, ?_, ?_⟩
  · simp [PyData.showable, PyData.showableKv, a]
  · simp only [PyData.depth, PyData.depthKv]
    omega
  · have e : (PyData.dict [(.str "a", d)]).shown = dictText [reprText "a" ++ ": " ++ d.shown] := by simp only [PyData.shown, PyData.shownKv]
    have l := len_dct (reprText "a") d.shown
    have e1 : (reprText "a").length = 3 := by decide +kernel
    rw [e, two_pow]
    have : 60 ≤ 60 * 2 ^ n := Nat.le_mul_of_pos_right _ (Nat.two_pow_pos n)
    omega
  · simp only [PyData.shown, PyData.shownKv]
    exact okT_dct _ _ (okT.of (by decide +kernel)) ot
def fit0 (d : PyData) : Bool := d.showable && decide (d.depth ≤ 3) && decide (d.shown.length ≤ 50) && PyData.strOk d.shown
theorem Fit.zero {d : PyData} (h : fit0 d = true) : Fit 0 d := by
  unfold fit0 at h
  simp only [Bool.and_eq_true, decide_eq_true_eq] at h
  exact ⟨h.1.1.1, h.1.1.2, by have := h.1.2; omega, okT.of h.2⟩
theorem int7 {i : Int} (h0 : 0 ≤ i) (h1 : i ≤ 1000000) : (PyData.int i).showable = true ∧ (PyData.int i).shown.length ≤ 8 := by
  have hn : i.natAbs < 10 ^ 7 := by omega
  refine ⟨?_, ?_⟩
  · simp only [PyData.showable]
    refine decide_eq_true ?_
    by_cases z : i.natAbs = 0
    · rw [z]; decide
    · have : i.natAbs < 2 ^ 1920 := Nat.lt_of_lt_of_le hn (Nat.le_trans (by decide : 10 ^ 7 ≤ 2 ^ 24) (Nat.pow_le_pow_right (by decide) (by decide)))
      exact (Nat.log2_lt z).mpr this
  · have := int_text_length_le10 (a := i) (k := 7) (by decide) hn
    show (Str.ofString (toString i)).length ≤ 8
    rw [PySem.ofString_length]
    exact this
theorem fit_dP {p : Pr} (h : okP p) : Fit 0 (dP p) := by
  obtain ⟨a, b, c⟩ := h
  obtain ⟨s1, l1⟩ := int7 a (by omega)
  obtain ⟨s2, l2⟩ := int7 (i := p.2) (by omega) c
  refine ⟨?_, ?_, ?_, ?_⟩
  · simp [dP, PyData.showable, PyData.showableAll] at s1 s2 ⊢
    exact ⟨s1, s2⟩
  · simp [dP, PyData.depth, PyData.depthAll]
  · have e : (dP p).shown = tupleText [(PyData.int p.1).shown, (PyData.int p.2).shown] := by simp only [dP, PyData.shown, PyData.shownAll]
    have l := len_tup [(PyData.int p.1).shown, (PyData.int p.2).shown]
    rw [piled_cons, piled_cons, piled_nil] at l
    rw [e]
    omega
  · have e : (dP p).shown = tupleText [(PyData.int p.1).shown, (PyData.int p.2).shown] := by simp only [dP, PyData.shown, PyData.shownAll]
    rw [e]
    exact okT_tup _ fun t m => by
      rcases List.mem_cons.mp m with e | m
      · rw [e]; exact okT_int _
      · rw [List.mem_singleton.mp m]; exact okT_int _
/-- may be shown -/
structure Shw (d : PyData) : Prop where
  show_ : d.showable = true
  deep : d.depth ≤ 30
  len : d.shown.length ≤ sizeLine
  ok : okT d.shown
theorem all_fit : ∀ {ds : List PyData}, (∀ d ∈ ds, Fit 9 d) → PyData.showableAll ds = true ∧ PyData.depthAll ds ≤ 12 ∧ piled (PyData.shownAll ds) ≤ 30720 * ds.length ∧ ∀ t ∈ PyData.shownAll ds, okT t
  | [], _ => ⟨by simp [PyData.showableAll], by simp [PyData.depthAll], by simp [PyData.shownAll, piled_nil], fun t m => by simp [PyData.shownAll] at m⟩
  | d :: ds, h => by
    obtain ⟨a, b, c, ot⟩ := all_fit (ds := ds) fun x m => h x (List.mem_cons_of_mem _ m)
    obtain ⟨a1, b1, c1, ot1⟩ := h d List.mem_cons_self
    refine ⟨by simp [PyData.showableAll, a, a1], ?_, ?_, ?_⟩
    · simp only [PyData.depthAll]
      omega
    · simp only [PyData.shownAll]
      rw [piled_cons, List.length_cons]
      have e9 : 60 * 2 ^ 9 = 30720 := by decide
      omega
    · intro t m
      simp only [PyData.shownAll] at m
      rcases List.mem_cons.mp m with e | m
      · rw [e]; exact ot1
      · exact ot t m
theorem Shw.list {ds : List PyData} (h : ∀ d ∈ ds, Fit 9 d) (hl : ds.length ≤ 8) : Shw (.list ds) := by
  obtain ⟨a, b, c, ot⟩ := all_fit h
  refine ⟨by simp only [PyData.showable, a], by simp only [PyData.depth]; omega, ?_, by simp only [PyData.shown]; exact okT_lst _ ot⟩
  have l := len_lst (PyData.shownAll ds)
  simp only [PyData.shown]
  rw [sizeLine_eq]
  omega
theorem Shw.tuple {ds : List PyData} (h : ∀ d ∈ ds, Fit 9 d) (hl : ds.length ≤ 8) : Shw (.tuple ds) := by
  obtain ⟨a, b, c, ot⟩ := all_fit h
  refine ⟨by simp only [PyData.showable, a], by simp only [PyData.depth]; omega, ?_, by simp only [PyData.shown]; exact okT_tup _ ot⟩
  have l := len_tup (PyData.shownAll ds)
  simp only [PyData.shown]
  rw [sizeLine_eq]
  omega
/-! ### repr -/
section
variable {X : Cx} {pins : List (Addr × Obj)} {σ : L2.St} {H : Hp} {s : Shared} {l : Addr}
mutual
theorem Dq.reads (I : Inv X pins σ H s) (hm : H sysModules = none) : ∀ {v : V} {d : PyData} {u : Value}, Dq l H v d → RelV v u → ∃ as, Reads s.heap u d as ∧ sysModules ∉ as
  | _, _, _, .non, r => by cases r; exact ⟨_, Reads.none, by simp⟩
  | _, _, _, .bl b, r => by cases r; exact ⟨_, Reads.bool b, by simp⟩
  | _, _, _, .int i, r => by obtain ⟨t, rfl⟩ := r; exact ⟨_, Reads.int i t, by simp⟩
  | _, _, _, .str x, r => by obtain ⟨t, rfl⟩ := r; exact ⟨_, Reads.str x t, by simp⟩
  | _, _, _, .lst h n q, r => by
    cases r
    obtain ⟨its, rv, ⟨o, k, ho, hc, _, hd⟩, _⟩ := I.list (SqL.of h)
    obtain ⟨as, hr, na⟩ := DqAll.reads I hm q rv
    refine ⟨_, Reads.list ho hc hd hr, fun z => ?_⟩
    rcases List.mem_cons.mp z with e | z
    · rw [← e, hm] at h
      cases h
    · exact na z
  | _, _, _, .tup h q, r => by
    cases r
    obtain ⟨its, rv, ⟨o, ho, hc, k, hd⟩, _⟩ := I.tuple (tupAt (K := X.K) h)
    obtain ⟨as, hr, na⟩ := DqAll.reads I hm q rv
    exact ⟨_, Reads.tuple ho hc hd hr, na⟩
  | _, _, _, .emp h, r => by
    cases r
    obtain ⟨_, hs, vs, kv, o, es, ep, ho, hx, hd, _, pr, _⟩ := dk_of I.hok h
    cases kv
    generalize he : es.toList = el at pr
    cases pr
    refine ⟨_, Reads.dict ho hx.1 hd (by rw [he]; exact .nil) (by rw [he]; exact .nil), fun z => ?_⟩
    rcases List.mem_cons.mp z with e | z
    · rw [← e, hm] at h
      cases h
    · simp at z
  | _, _, _, .dct (x := x) h q, r => by
    cases r
    obtain ⟨_, hs, vs, kv, o, es, ep, ho, hx, hd, _, pr, _⟩ := dk_of I.hok h
    generalize he : es.toList = el at pr
    cases kv with
    | @cons p u0 ps us hp hps =>
      cases hps
      obtain ⟨e1, rv⟩ := hp
      cases pr with
      | @cons en kv0 es0 kvs0 hk hv hrest =>
        cases hrest
        obtain ⟨as, hr, na⟩ := Dq.reads I hm q rv
        have hkey : ∃ t, en.key = Value.str x t := by
          rw [← e1] at hk
          exact Value.isStrOf_shape hk
        obtain ⟨t, ek⟩ := hkey
        refine ⟨_, Reads.dict ho hx.1 hd (by rw [he]; show ReadsAll _ [en.key] [PyData.str x] _; rw [ek]; exact .cons (.str x t) .nil) (by rw [he]; show ReadsAll _ [en.val] _ _; rw [hv]; exact .cons hr .nil), fun z => ?_⟩
        rcases List.mem_cons.mp z with e | z
        · rw [← e, hm] at h
          cases h
        · simp at z
          exact na z
theorem DqAll.reads (I : Inv X pins σ H s) (hm : H sysModules = none) : ∀ {vs : List V} {ds : List PyData} {us : List Value}, DqAll l H vs ds → Vals vs us → ∃ as, ReadsAll s.heap us ds as ∧ sysModules ∉ as
  | _, _, _, .nil, r => by cases r; exact ⟨_, ReadsAll.nil, by simp⟩
  | _, _, _, .cons q qs, r => by
    cases r with
    | cons r1 r2 =>
      obtain ⟨as, h1, n1⟩ := Dq.reads I hm q r1
      obtain ⟨bs, h2, n2⟩ := DqAll.reads I hm qs r2
      exact ⟨_, ReadsAll.cons h1 h2, fun z => (List.mem_append.mp z).elim n1 n2⟩
end
end
def rRepr (l : Addr) : List V → Hp → VK → Prop := fun xs H Q => ∃ a d, xs = [.ref a] ∧ Dq l H (.ref a) d ∧ Shw d ∧ Q (.str d.shown) H
theorem call_reprD {X : Cx} {l : Addr} (hg : X.A.guards = some []) (hu : X.A.units + 64 < cLine) (hb : ∃ o, X.base.get? sysModules = some o) : CallR X (.builtin "repr") (rRepr l) := by
  intro pins s σ H xs us Q I r h
  obtain ⟨a, d, rfl, hd, S, q⟩ := h
  obtain ⟨u, rfl, ru⟩ := vals1 r
  obtain rfl : u = Value.ref a := ru
  obtain ⟨o, ho⟩ := hb
  have hm : H sysModules = none := (I.bs _ _ ho).2
  obtain ⟨as, hr, na⟩ := hd.reads I hm (show RelV (.ref a) (.ref a) from rfl)
  exact repr_of_reads' hr S.show_ (fun _ => na) hg (by have := S.deep; omega) (fun _ _ e => e) (fun h' u tk hk => ⟨.str _, H, I.kept (t' := tk) hk, ⟨_, rfl⟩, q⟩) S.len
/-! ### written data -/
/-- the expression gives this data, made anew -/
def Lit (l : Addr) (te : TE) (d : PyData) : Prop := ∀ (σ : L2.St) (H : Hp) (Q : VK), (∃ ys, H l = some (.lst ys)) → (∀ (H' : Hp) (v : V), Same H H' → Dq l H' v d → Q v H') → te σ H Q
def LitA (l : Addr) (t : TA) (ds : List PyData) : Prop := ∀ (σ : L2.St) (H : Hp) (R : List V → Hp → Prop), (∃ ys, H l = some (.lst ys)) → (∀ (H' : Hp) (vs : List V), Same H H' → DqAll l H' vs ds → R vs H') → t σ H R
section
variable {l : Addr} {te : TE} {t : TA} {d : PyData} {ds : List PyData}
theorem Lit.non : Lit l (tC .non) .none := fun σ H Q _ k => k H _ (Same.refl H) .non
theorem Lit.bl {b : Bool} : Lit l (tC (.bl b)) (.bool b) := fun σ H Q _ k => k H _ (Same.refl H) (.bl b)
theorem Lit.int {i : Int} : Lit l (tC (.int i)) (.int i) := fun σ H Q _ k => k H _ (Same.refl H) (.int i)
theorem Lit.str {x : Str} : Lit l (tC (.str x)) (.str x) := fun σ H Q _ k => k H _ (Same.refl H) (.str x)
theorem Lit.neg {i : Int} : Lit l (tUn (rU fun i => .int (-i)) (tC (.int i))) (.int (-i)) := fun σ H Q _ k => ⟨i, rfl, k H _ (Same.refl H) (.int (-i))⟩
theorem Lit.emp : Lit l tDNewK (.dict []) := fun σ H Q _ k p hp => k _ _ (Same.upd hp) (.emp upd_same)
theorem LitA.nil : LitA l tNil [] := fun σ H R _ k => k H _ (Same.refl H) .nil
theorem LitA.cons (h : Lit l te d) (r : LitA l t ds) : LitA l (tCons te t) (d :: ds) := fun σ H R ⟨ys, hl⟩ k =>
  h σ H _ ⟨ys, hl⟩ fun H1 v s1 q1 => r σ H1 _ ⟨ys, s1 _ _ hl⟩ fun H2 vs s2 q2 => k H2 _ (s1.trans s2) (.cons (q1.same s2) q2)
theorem LitA.len (h : LitA l t ds) (z : ds.length ≤ 1000) : LitA l (fun σ H R => t σ H fun vs H1 => vs.length ≤ sizeLine ∧ R vs H1) ds := fun σ H R hl k => h σ H _ hl fun H' vs s q => ⟨by rw [q.length, sizeLine_eq]; omega, k H' vs s q⟩
theorem Lit.tup (h : LitA l t ds) (z : ds.length ≤ 1000 := by decide) : Lit l (tTup t) (.tuple ds) := fun σ H Q hl k =>
  h σ H _ hl fun H1 vs s1 q1 => ⟨by rw [q1.length, sizeLine_eq]; omega, fun p hp => k _ _ (Same.upd' s1 hp) (.tup upd_same (q1.same (Same.upd hp)))⟩
theorem Lit.lst (h : LitA l t ds) (z : ds.length ≤ 1000 := by decide) : Lit l (tLst t) (.list ds) := fun σ H Q ⟨ys, hl⟩ k =>
  h σ H _ ⟨ys, hl⟩ fun H1 vs s1 q1 => ⟨by rw [q1.length, sizeLine_eq]; omega, fun p hp => k _ _ (Same.upd' s1 hp) (.lst upd_same (fun z => by rw [z, s1 _ _ hl] at hp; cases hp) (q1.same (Same.upd hp)))⟩
end
end Sps
set_option Elab.async false
set_option linter.all false
set_option maxRecDepth 100000
set_option maxHeartbeats 4000000
/-! A caught exception that is kept beyond its suite; the making of an own exception over an own one. -/
namespace PySem.W
open PySem PySem.Spec PySem.Calls PyProof.Rows
section
variable {prog : Program} {w : World} {A : Around} {E : Value → Shared → Prop} {s : Shared} {K : Frag} {x D : Addr} {ox od : Obj}
/-- e.__class__ of an exception that has a dict -/
theorem sps_classD {Q : Option Value → Shared → Prop} (T : L2.ExcC K D) (X : K.In s.heap) (I : InstAt s.heap x ox D (some od)) (h : Q (some (.ref D)) { s with toks := s.toks + 1 }) : wpAny (model prog w) A (getAttr? (.ref x) "__class__") Q E s := by
  have hf : findObj K D (some od) "__class__" = some (.bind (.builtin "getset_descriptor.__get__") (.builtin "object.__class__")) := findObj_data (by obtain ⟨cd, hc, _⟩ := any_some T.hd; rw [hc]; rfl) T.ha T.hn T.ht
  obtain ⟨hp, g, d, t, os⟩ := s
  have L0 := I.type (M := model prog w)
  have L1 := looks_findIn (M := model prog w) X T.hg
  have L2 := looks_findIn (M := model prog w) X T.hk
  have L3 := looks_find (M := model prog w) X I hf
  have sub : Looks (model prog w) hp (isInstance (.ref x) (.type "BaseException")) true := L0.andThen (looks_subIn X T.hs)
  have hx0 : (false && onTheHeap (Value.builtin "BaseException.__getattribute__")) = false := rfl
  have hx2 : (Value.builtin "BaseException.__getattribute__" == Value.builtin "object.__getattribute__") = false := by decide +kernel
  have hx1 : (onTheHeap (Value.ref D) && Value.builtin "BaseException.__getattribute__" == Value.builtin "object.__getattribute__") = false := by rw [hx2]; rfl
  unfold getAttr? getAttrBy? getAttrBy
  refine wpAny_bind (wpAny_mkText (wpAny_bind (wpAny_attempt (wpAny_holding (wpAny_bind (L0.at (wpAny_bind (L1.at ?_))))))))
  show wpAny _ _ (if (onTheHeap (Value.ref D) && Value.builtin "BaseException.__getattribute__" == Value.builtin "object.__getattribute__") = true then _ else _) _ _ _
  rw [hx1, if_neg Bool.false_ne_true]
  unfold getAttrByItsOwn hookBefore
  refine wpAny_bind ?_
  rw [if_pos (show onTheHeap (Value.ref D) = true from rfl)]
  refine L2.at ?_
  refine wpAny_bind (wpAny_attempt (wpAny_holding ?_))
  unfold callGetattribute
  rw [hx0, if_neg Bool.false_ne_true]
  unfold boundAndCalled
  rw [PySem.F.excAttr_ValueError.ga.bind (.ref x)]
  refine wpAny_bind (wpAny_pure ?_)
  show wpAny _ _ (call (.builtin "BaseException.__getattribute__") [.ref x, .str "__class__" t]) _ _ _
  refine wpAny_call (codeAny_call_builtin PySem.F.excAttr_ValueError.ga.plain PySem.F.entry_bexc_ga ?_)
  refine @check_slot (model prog w) _ _ ⟨hp, g, d, t + 1, os⟩ "BaseException.__getattribute__" "BaseException" "__getattribute__" (.ref x) [.str "__class__" t] [] _ (by decide +kernel) (by decide +kernel) sub (PySem.F.args_bexc_ga (.ref x) (.str "__class__" t)) ?_
  unfold Builtin.«object.__getattribute__»
  refine wpAny_bind (wpAny_of_eq (a := ((Value.ref x : Value), [Value.str "__class__" t])) (by first | rfl | (simp only [slotArgs]; rfl)) ?_)
  refine wpAny_bind (wpAny_pure (wpAny_bind (L0.at (wpAny_bind (L3.at ?_)))))
  show wpAny _ _ (holding [Value.builtin "object.__class__"] (call (.builtin "getset_descriptor.__get__") [.builtin "object.__class__", .ref x, .ref D]) >>= ret) _ _ _
  refine wpAny_bind (wpAny_holding (wpAny_call (class_get (s := ⟨hp, g, d, t + 1, os⟩) (ox := ox) (od := some od) X I T.hm ?_)))
  refine wpAny_pure ?_
  show wpAny _ _ (handedOut (.ref D)) _ _ _
  rw [handedOut_of (v := .ref D) rfl]
  first
    | exact wpAny_pure (wpAny_pure h)
    | exact wpAny_pure h
    | exact wpAny_pure (wpAny_bind (wpAny_pure (wpAny_pure h)))
theorem sps_kitx (T : L2.ExcC K D) : KitX K (.ref x) (.ref D) (fun h => ∃ ox od, InstAt h x ox D (some od)) where
  ty := fun _ _ _ ⟨_, _, I⟩ => I.type
  it := fun _ _ X _ => by
    obtain ⟨cdD, hcD, _⟩ := any_some T.hd
    unfold clsIn at hcD
    split at hcD
    · rename_i c' d' cd' sl' ho
      intro A' Q' E' s' k q
      unfold isType loadHead
      exact wpAny_bind (wpAny_loadPart (k _ _ (X _ _ ho)) (wpAny_pure q))
    · cases hcD
  ne := fun h tp dd its n sl X htp => by
    obtain ⟨cdD, hcD, _⟩ := any_some T.hd
    refine Bool.eq_false_iff.mpr fun q => ?_
    have e : D = tp := Value.ref.inj (beq_iff_eq.mp q)
    subst e
    unfold clsIn at hcD
    split at hcD
    · rename_i c' d' cd' sl' ho
      have z := (X _ _ ho).symm.trans htp
      cases z
    · cases hcD
  ca := fun X ⟨_, _, I⟩ k => sps_classD T X I k
end
end PySem.W
namespace Sps
open PySem PySem.Spec PyProof.Rows L2
/-! ### kept exceptions -/
/-- at a: an exception of the class cls with the dict d -/
def exk (a : Addr) (cls : Value) (d : Option Addr) : HO := .ext fun h => ∃ (oe : Obj) (vs : Array Value), h.get? a = some oe ∧ Zc cls d oe ∧ oe.data = .fields vs
theorem exk_ok {P : Program} {w : World} {H : Hp} {h : Heap} {a : Addr} {cls : Value} {d : Option Addr} {oe : Obj} {vs : Array Value} (e : h.get? a = some oe) (z : Zc cls d oe) (hd : oe.data = .fields vs) : ObjOk P w H h a (exk a cls d) :=
  ⟨⟨oe, vs, e, z, hd⟩, ⟨oe, e⟩, fun h1 h2 q k => let ⟨o, v, x, y⟩ := q; ⟨o, v, k _ x, y⟩⟩
theorem exk_at {P : Program} {w : World} {H : Hp} {h : Heap} {a : Addr} {cls : Value} {d : Option Addr} (hok : HOk P w H h) (e : H a = some (exk a cls d)) : ∃ (oe : Obj) (vs : Array Value), h.get? a = some oe ∧ Zc cls d oe ∧ oe.data = .fields vs := by
  have x : ObjOk P w H h a (.ext fun h => ∃ (oe : Obj) (vs : Array Value), h.get? a = some oe ∧ Zc cls d oe ∧ oe.data = .fields vs) := hok a _ e
  exact x.1
section
variable {X : Cx} {pins : List (Addr × Obj)} {σ : L2.St} {H : Hp} {s : Shared} {a : Addr}
theorem track (I : Inv X pins σ H s) {cls : Value} {d : Option Addr} {oe : Obj} {vs : Array Value} (e : s.heap.get? a = some oe) (z : Zc cls d oe) (hd : oe.data = .fields vs) (ha : H a = none) (h0 : X.s_0.heap.get? a = none) (nL : a ≠ X.env.locals) (hp : ∀ p ∈ X.pn ++ pins, p.1 ≠ a) :
    Inv X pins σ (upd H a (exk a cls d)) s := by
  have nn : ∀ {b : Addr} {o : HO}, H b = some o → b ≠ a := fun {b o} q y => by rw [y, ha] at q; cases q
  have n0 : ∀ {b : Addr} {o : Obj}, X.s_0.heap.get? b = some o → b ≠ a := fun {b o} q y => by rw [y, h0] at q; cases q
  refine ⟨I.ok, I.os, I.bare, ⟨I.base.keep, I.base.slot, fun b o q n hx => ?_, I.base.there, fun b xs q => ?_, fun b o u q => ?_, fun b ps q => ?_⟩, I.loc, I.cell, ?_, fun x c q => ?_, fun p m => ?_, fun b o q => ?_, I.len⟩
  · rw [upd_ne (n0 q)]
    exact I.base.free b o q n hx
  · have y := I.base.tups b xs q
    rw [upd_ne (nn y)]
    exact y
  · have y := I.base.frzs b o u q
    rw [upd_ne (nn y)]
    exact y
  · obtain ⟨more, y⟩ := I.base.tbls b ps q
    exact ⟨more, by rw [upd_ne (nn y)]; exact y⟩
  · rw [upd_ne nL.symm]
    exact I.free
  · obtain ⟨v, o, ho, hc⟩ := I.cell x c q
    have ne : c ≠ a := fun y => by
      rw [y, e] at ho
      cases ho
      rw [hd] at hc
      cases hc
    rw [upd_ne ne]
    exact I.freeC x c q
  · obtain ⟨q1, q2, q3⟩ := I.pin p m
    exact ⟨q1, by rw [upd_ne (hp p m)]; exact q2, q3⟩
  · by_cases y : b = a
    · subst y
      rw [upd_same] at q
      cases q
      exact exk_ok e z hd
    · rw [upd_ne y] at q
      exact (I.hok b o q).stay (fun c v _ k => k) (fun c k => by rw [upd_ne (nn k)]; exact k) (fun c xs k => by rw [upd_ne (nn k)]; exact k)
end
/-- what 'except x as n' wishes, the exception known behind the suite -/
def wKeep (K : PySem.W.Frag) (c : Value) (i : Nat) (ts : Addr → Value → Option Addr → TS) (Wout : WX) (D : Ends) : WX := fun cls d σ H =>
  ∃ b, PySem.W.exmOne K cls c = some b ∧ (b = true → ∀ a, H a = none → ts a cls d { nx := fun σ' H' => H' a = none → D.nx (σ'.set i none) (upd H' a (exk a cls d)), rt := D.rt, bk := fun σ' H' => D.bk (σ'.set i none) H', ct := fun σ' H' => D.ct (σ'.set i none) H' } (σ.set i (some (.ref a))) H) ∧
    (b = false → Wout cls d σ H)
section
variable {X : Cx} {x n : Str} {c : Value} {i : Nat} {body suite : List Stmt} {b₀ : Stmt} {np pos pos' : Pos} {tb : WX → TS} {ts : Addr → Value → Option Addr → TS} {Wout : WX}
theorem ps_try_keep (hex : X.ex = []) (hs : X.stack = X.env :: X.outer) (hf : X.env.frame = some X.env.locals) (hN : X.N.Nodup) (hi : X.N[i]? = some n) (hln : X.env.kindOf n = some .local) (hc : L2.Names X x c) (tk : Takes X Wout)
    (hb : ∀ (W : WX) (pn : List (Addr × Obj)) (xe : Value → Shared → Prop), Takes (X.tr pn xe) W → PassesOwn (model X.prog X.w) X.A X.env xe → PSs (X.tr pn xe) body (tb W))
    (hsu : ∀ (a : Addr) (oe : Obj) (cls : Value) (d : Option Addr) (pn : List (Addr × Obj)), Zc cls d oe → (∃ vs, oe.data = .fields vs) → PSs (X.suite a ((a, oe) :: pn)) (b₀ :: suite) (ts a cls d)) :
    PS X (.Try body [.ExceptHandler (some (.Name x np)) (some n) (b₀ :: suite) pos'] [] [] pos) (fun D σ H => tb (wKeep X.K c i ts Wout D) D σ H) := by
  refine ⟨fun pins s σ H D I h => ?_⟩
  have ok := I.ok
  have hfr : X.A.frames = some (X.env :: X.outer) := by rw [ok.frames, hs]
  have hloc : Loc X.env.scope n := .inl hln
  refine wpAny_Try_except ?_
  refine wpAny_mono ((hb (wKeep X.K c i ts Wout D) (X.pn ++ pins) (fun e s₁ => wpAny (model X.prog X.w) X.A (noteFrame e X.env) (fun _ s₂ => wpAny (model X.prog X.w) X.A (setFlight e none) (fun _ s₃ =>
    wpAny (model X.prog X.w) X.A (handleBy e X.env [.ExceptHandler (some (.Name x np)) (some n) (b₀ :: suite) pos']) (SP X pins D) X.xe s₃) X.xe s₂) X.xe s₁) (fun u s' xx => ?_) PassesOwn.looking).run [] s σ H D (I.toTry _) h) (fun f s1 hsp => ?_) (fun e s1 he => he)
  · -- the catch
    obtain ⟨a, B, sI, pins', σ', H', cls, d, rfl, J', nb, up, sky, na, os, ag, b, hb1, hyes, hno⟩ := xx
    have J : Inv X pins σ' H' sI := J'.ofTry ok
    have sky' : Sky B (X.env :: X.outer) a (Zc cls d) X.env.locals s'.heap := by rw [← hs]; exact sky
    show wpAny (model X.prog X.w) X.A (noteFrame (.ref a) X.env) _ _ _
    refine Sky.land Zc.steady hfr hf sky' fun h3 fl3 up3 => ?_
    have J3 : Inv X pins σ' H' { s' with heap := h3 } := J.landed nb fl3.1 (up.trans up3) os ag
    obtain ⟨oe3, vs3, he3, hz3, hd3⟩ := fl3.there
    have notFr : ∀ {h : Heap} {o : Obj} {vs : Array Value}, h.FunFrames B (X.env :: X.outer) → h.get? a = some o → o.data = .fields vs → a ∉ frs (X.env :: X.outer) := fun {h o vs} ff e dd hm => by
      obtain ⟨_, o', e', hnf⟩ := ff.mem hm
      rw [e] at e'; cases e'
      exact hnf _ dd
    have nfr := notFr fl3.2.2.1 he3 hd3
    have nL : a ≠ X.env.locals := fun z => nfr (List.mem_filterMap.mpr ⟨X.env, List.mem_cons_self, by rw [hf, z]⟩)
    have nF : a ∉ X.fs := fun hm => by
      obtain ⟨e, he, q⟩ := List.mem_filterMap.mp hm
      exact nfr (List.mem_filterMap.mpr ⟨e, List.mem_cons_of_mem _ he, q⟩)
    have aI : sI.heap.get? a = none := by
      cases q : sI.heap.get? a with
      | none => rfl
      | some o =>
        have y := nb a o q (by rw [hs]; exact nfr)
        rw [fl3.2.1] at y
        cases y
    have a0 : X.s_0.heap.get? a = none := by
      cases q : X.s_0.heap.get? a with
      | none => rfl
      | some o =>
        obtain ⟨o', y⟩ := J.base.there a o q (by rw [hex]; simp)
        rw [aI] at y
        cases y
    have ap : ∀ p ∈ X.pn ++ pins, p.1 ≠ a := fun p m y => by
      have z := (J.pin p m).1
      rw [y, aI] at z
      cases z
    have S3 := J3.suite he3 hd3 na nL nF
    refine wpAny_handleBy_cons (codeAny_handlers_test ?_) (by intro q; cases q)
    have LT : PySem.W.Looks (model X.prog X.w) h3 (typeOf (.ref a)) cls := fun A Q E s k q => wpAny_typeOf_ref (k _ _ he3) (by rw [hz3.1]; exact q)
    have LM := PySem.W.exm_one (M := model X.prog X.w) (J3.kIn) LT hb1
    have test : ∀ {Q : Value → Shared → Prop} {E : Value → Shared → Prop}, Q c { s' with heap := h3 } → wpAny (model X.prog X.w) (X.A.mark (some (.ref a))) (eval (.Name x np) X.env) Q E { s' with heap := h3 } := fun {Q E} q => by
      obtain ⟨hg, hdbg, hm | ⟨hm, hv, hnn⟩⟩ := hc
      · exact ld_glob (X := X.suite a ((a, oe3) :: (X.pn ++ pins))) S3 hg hm q hdbg
      · exact ld_blt (X := X.suite a ((a, oe3) :: (X.pn ++ pins))) S3 hg hm hv q hnn hdbg
    refine test (LM.here ?_)
    cases b with
    | true =>
      refine codeAny_handlers_suite_as ?_
      refine HandSPX.lands_againZ fl3 fun h4 fl4 up4 => ?_
      have J4 : Inv X pins σ' H' { s' with heap := h4 } := J.landed nb fl4.1 ((up.trans up3).trans up4) os ag
      obtain ⟨oe4, vs4, he4, hz4, hd4⟩ := fl4.there
      have S4 := J4.suite he4 hd4 na nL nF
      refine store_ok (X := X.suite a ((a, oe4) :: (X.pn ++ pins))) (v := .ref a) S4 hN hi hloc rfl (fun s5 S5 => ?_) (.inr hln)
      refine wpAny_mono ((hsu a oe4 cls d (X.pn ++ pins) hz4 ⟨_, hd4⟩).run [] s5 _ H' _ S5 (hyes rfl a na)) (fun f s6 hsp => ?_) (fun _ _ z => False.elim z)
      have end_ : ∀ {σ6 : L2.St} {H6 : Hp} {Q : Shared → Prop}, Inv (X.suite a ((a, oe4) :: (X.pn ++ pins))) [] σ6 H6 s6 → (∀ s7, Inv X pins (σ6.set i none) H6 s7 → Q s7) →
          wpAny (model X.prog X.w) X.A (do bindName X.env n .none; unbindBehindTheSuite X.env n pos') (fun _ s7 => Q s7) X.xe s6 := fun {σ6 H6 Q} S6 hq => gone_ok (S6.unsuite ok) hN hi hln hq
      have endK : ∀ {σ6 : L2.St} {H6 : Hp} {Q : Shared → Prop}, Inv (X.suite a ((a, oe4) :: (X.pn ++ pins))) [] σ6 H6 s6 → (H6 a = none → ∀ s7, Inv X pins (σ6.set i none) (upd H6 a (exk a cls d)) s7 → Q s7) →
          wpAny (model X.prog X.w) X.A (do bindName X.env n .none; unbindBehindTheSuite X.env n pos') (fun _ s7 => Q s7) X.xe s6 := fun {σ6 H6 Q} S6 hq => by
        obtain ⟨p1, p2, _⟩ := S6.pin (a, oe4) (List.mem_append_left _ List.mem_cons_self)
        exact gone_ok (track (S6.unsuite ok) p1 hz4 hd4 p2 a0 nL ap) hN hi hln (hq p2)
      cases f with
      | next =>
        obtain ⟨σ6, H6, S6, q6⟩ := hsp
        exact endK S6 fun n6 s7 J7 => ⟨_, _, J7, q6 n6⟩
      | brk =>
        obtain ⟨σ6, H6, S6, q6⟩ := hsp
        exact end_ S6 fun s7 J7 => ⟨_, _, J7, q6⟩
      | cont =>
        obtain ⟨σ6, H6, S6, q6⟩ := hsp
        exact end_ S6 fun s7 J7 => ⟨_, _, J7, q6⟩
      | ret u =>
        obtain ⟨v6, σ6, H6, S6, r6, q6⟩ := hsp
        exact end_ S6 fun s7 J7 => ⟨_, _, _, J7, r6, q6⟩
    | false =>
      show wpAny _ X.A (handleBy (.ref a) X.env []) _ _ _
      refine wpAny_handleBy_nil ?_
      obtain ⟨k1, k2, k3, oe, vs, T, oT, ts', he, hz, hd, h1, hr⟩ := id fl3
      unfold PySem.passOn
      refine wpAny_bind (wpAny_field he hd h1 ?_)
      rw [if_neg (show ¬ ((Value.ref T == Value.none) = true) from by simp)]
      have fin : wpAny (model X.prog X.w) X.A (setFlight (.ref a) X.env.frame) (fun _ s4 => wpAny (model X.prog X.w) X.A (throw (.ref a) : Sem Flow) (SP X pins D) X.xe s4) X.xe { s' with heap := h3 } := by
        rw [hf]
        refine HandSPX.setFlight_upZ fl3 fun h4 hh4 up4 => wpAny_throw (tk _ _ ?_)
        exact ⟨a, B, sI, pins, σ', H', cls, d, rfl, J, nb, (up.trans up3).trans up4, .inr (.inr (by rw [hs]; exact hh4)), na, os, ag, hno rfl⟩
      first
        | exact wpAny_bind (wpAny_pure (wpAny_bind fin))
        | exact wpAny_bind fin
  · cases f with
    | next =>
      obtain ⟨σ', H', J', q⟩ := hsp
      exact wpAny_execs_nil ⟨σ', H', J'.ofTry ok, q⟩
    | brk =>
      obtain ⟨σ', H', J', q⟩ := hsp
      exact ⟨σ', H', J'.ofTry ok, q⟩
    | cont =>
      obtain ⟨σ', H', J', q⟩ := hsp
      exact ⟨σ', H', J'.ofTry ok, q⟩
    | ret u =>
      obtain ⟨v, σ', H', J', r, q⟩ := hsp
      exact ⟨v, σ', H', J'.ofTry ok, r, q⟩
end
/-! ### reading a kept exception -/
/-- isinstance(e, c) -/
def rIsK (K : PySem.W.Frag) : List V → Hp → VK → Prop := fun xs H Q => ∃ (a D d dxa : Addr) (fs : List (Str × V)) (c : V) (cv : Value) (b : Bool), xs = [.ref a, c] ∧ ExcC K D ∧ H a = some (exk a (.ref D) (some d)) ∧ H d = some (.xd fs) ∧ (∀ u, RelV c u → u = cv) ∧ PySem.W.kitOne K (.ref D) cv = some b ∧ dxa = d ∧ Q (.bl b) H
theorem inst_at {X : Cx} {pins : List (Addr × Obj)} {σ : L2.St} {H : Hp} {s : Shared} {a D d : Addr} {fs : List (Str × V)} (I : Inv X pins σ H s) (ha : H a = some (exk a (.ref D) (some d))) (hd : H d = some (.xd fs)) : ∃ ox od, PySem.W.InstAt s.heap a ox D (some od) ∧ (∃ mA, s.heap.Ns1 d mA ∧ s.heap.get? d = some od ∧ (∀ f, RelO (fs.lookup f) (mA f)) ∧ ∀ f, PySem.W.lookIn f od = some (mA f)) := by
  obtain ⟨oe, vs, e1, z, hv⟩ := exk_at I.hok ha
  have hx : ObjOk X.prog X.w H s.heap d (.xd fs) := I.hok d _ hd
  obtain ⟨mA, hns, hr⟩ := hx
  obtain ⟨od, ho, hl⟩ := lookIn_ns hns
  exact ⟨oe, od, ⟨e1, z.1, by unfold PySem.W.notCls; rw [hv] <;> rfl, by rw [z.2]; exact ho⟩, mA, hns, ho, hr, hl⟩
theorem call_isK {X : Cx} : CallR X (.builtin "isinstance") (rIsK X.K) := by
  intro pins s σ H xs us Q I r h
  obtain ⟨a, D, d, dxa, fs, c, cv, b, rfl, C, ha, hd, hcv, e, _, q⟩ := h
  cases r with
  | cons rx rr =>
    cases rr with
    | cons rt rr =>
      cases rr
      cases rx
      have ec := hcv _ rt
      subst ec
      obtain ⟨ox, od, J, _⟩ := inst_at I ha hd
      exact PySem.W.kia_one (PySem.W.sps_kitx C) I.kIn ⟨ox, od, J⟩ e (fun z => nomatch z) fun tk => ⟨.bl b, H, I.kept (t' := tk) fun _ _ z => z, rfl, q⟩
/-- e.f -/
def tXk (K : PySem.W.Frag) (f : Str) (te : TE) : TE := fun σ H Q => te σ H fun x H1 => ∃ (a D d : Addr) (fs : List (Str × V)) (v : V), x = .ref a ∧ XfC K D ∧ PySem.W.findIn K (.ref D) f = some none ∧ H1 a = some (exk a (.ref D) (some d)) ∧ H1 d = some (.xd fs) ∧ fs.lookup f = some v ∧ Q v H1
theorem pe_xk {X : Cx} {e : Expr} {te : TE} {pos : Pos} {n : Str} (he : PE X e te) (hb : attributeBase e n X.env (eval e X.env) = eval e X.env := by rfl) : PE X (.Attribute e n pos) (tXk X.K n te) := by
  refine ⟨fun pins s σ H Q I h => ?_⟩
  refine attr_of hb (thn (he.run pins s σ H _ I h) fun u s1 hh => ?_)
  obtain ⟨x, H1, I1, rx, a, D, d, fs, v, ex, T, hno, ha, hd, l, q⟩ := hh
  subst ex
  obtain rfl : u = Value.ref a := rx
  obtain ⟨ox, od, J, mA, hns, ho, hr, hl⟩ := inst_at I1 ha hd
  obtain ⟨u, hu, ru⟩ := RelO.some_of (v := v) (o := mA n) (by rw [← l]; exact hr n)
  exact HandSPX.exc_get I1.kIn J T.ga T.gg T.exC (PySem.W.findObj_own T.hdC hno rfl (by rw [hl, hu])) (handed_of ru) ⟨v, H1, I1.tok _, ru, q⟩
/-! ### B.__init__(self, ..), B an own class that has ValueError's -/
structure KeC (K : PySem.W.Frag) (C : Addr) : Prop where
  sp : PySem.W.specialIn K (.ref C) "__getattribute__" = some (some (.builtin "type.__getattribute__"))
  ty : PySem.W.typeIn K (.ref C) = some (.type "type")
  rd : PySem.W.readsIn K C (.type "type") = true
  vi : PySem.W.findCls K (.ref C) (.type "type") "__init__" = some (.val (.builtin "ValueError.__init__"))
theorem pe_keinit {X : Cx} {x : Str} {C : Addr} {e : Expr} {es : List Expr} {ta : TA} {p1 p2 pos : Pos} {pl : Sem Bool} (T : KeC X.K C) (hg : Gl X x) (hm : X.mg x = some (.ref C)) (ha : PA X (e :: es) ta) (hdb : (x == ("__debug__" : Str)) = false := by decide)
    (hc : eval (.Call (.Attribute (.Name x p1) "__init__" p2) (e :: es) [] pos) X.env = (do
      let ov ← eval (.Name x p1) X.env
      standAt p2.atName
      let (f, first) ← holding [ov] (getMethod ov "__init__" pl)
      callWith pos f first (backTo pos (starEach (e :: es) X.env)) (backToKw pos (keywordEach [] X.env))) := by rfl)
    (he : starEach (e :: es) X.env = (false, eval e X.env) :: starEach es X.env := by rfl) (hpl : (backTo pos (starEach es X.env)).any (·.1) = false := by rfl) :
    PE X (.Call (.Attribute (.Name x p1) "__init__" p2) (e :: es) [] pos) (tVeI X.K ta) := by
  refine ⟨fun pins s σ H Q I h => ?_⟩
  refine PySem.W.methodCall_KW (ld_glob I hg hm ?_ hdb) hc
  obtain ⟨m, fr⟩ := I.fr
  refine PySem.W.method_of_cls fr I.ok.mod.kin T.sp (PySem.W.cls_val fr I.ok.mod.kin T.ty T.rd T.vi (by decide +kernel) ?_)
  show wpAny _ _ (callWith pos (Value.builtin "ValueError.__init__") [] (backTo pos (starEach (e :: es) X.env)) []) _ _ _
  refine PyProof.Rows.callWith_method1 (thn (ha.run pos pins _ σ H _ (I.tok _) h) fun us s1 ⟨vs, H1, I1, r1, a, C, ws, ev, hl, T, ea, q⟩ => ?_) he hpl
  subst ev
  cases r1 with
  | @cons _ u0 _ ur ra rw' =>
    obtain rfl : u0 = Value.ref a := ra
    have hlen : ur.length ≤ sizeLine := by
      rw [← Paired.length rw', sizeLine_eq]
      omega
    exact oinit_ok T I1 ea hlen fun s' J => ⟨.non, H1, J, rfl, q⟩
end Sps
set_option Elab.async false
set_option linter.all false
set_option maxRecDepth 100000
set_option maxHeartbeats 4000000
/-! Defs that run where no repr is under way; the law's call from the top. -/
namespace Sps
open PySem PySem.Spec PyProof.Rows L2
structure FnG (P : Program) (w : World) (K : PySem.W.Frag) (mg : Str → Option Value) (base : Heap) (k : Nat) (f : Addr) (fd : FuncData) (ps : List Str) (sp : Sp) : Prop where
  len : ∀ vs H Q E, sp vs H Q E → vs.length = ps.length
  run : ∀ (A : Around) (outer : List Env) (s : Shared) (H : Hp) (args : Args) (us : List Value) (vs : List V) (Q : VK) (E : XK), Room k A → A.guards = some [] → Env0 P w K mg base A outer s H → BindsTo s fd args (ps.zip us) → Vals vs us → sp vs H Q E →
    codeAny (model P w) A (.call (.ref f) args) (CR CX0 outer P w H s Q E) s
theorem guards_deeper {A : Around} {env : Env} (h : A.guards = some []) : (A.deeper env).guards = some [] := h
theorem fnG_of {P : Program} {w : World} {K : PySem.W.Frag} {mg : Str → Option Value} {base : Heap} {k : Nat} {f : Addr} {x qual : Str} {st : Stmt} {fd : FuncData} {N ps : List Str} {sp : Sp} (F : Fun K x qual st f fd) (S : FnScope N ps (defScope st))
    (len : ∀ vs H Q E, sp vs H Q E → vs.length = ps.length)
    (hbody : ∀ (cdv : Value) (A : Around) (outer : List Env) (s : Shared) (H : Hp) (vs : List V) (Q : VK) (E : XK), Room k (A.deeper (envOfC qual (defScope st) s.heap.objs.size f cdv)) → (A.deeper (envOfC qual (defScope st) s.heap.objs.size f cdv)).guards = some [] → sp vs H Q E →
      ∃ t, PSs (cxOf CX0 P w K mg base N qual (defScope st) f cdv A outer s H E) (defBody st) t ∧ t { nx := fun _ H' => Q .non H', rt := Q } (start N vs) H) :
    FnG P w K mg base (k + 1) f fd ps sp := by
  obtain ⟨oc, od, kV, doc, pm, an, cdv, ct, osl, rfl, lk, hcd⟩ := F.ex
  refine ⟨len, fun A outer s H args us vs Q E hr hg e0 hb r hsp => ?_⟩
  have hl := len _ _ _ _ hsp
  have KX : K.In s.heap := e0.mod.kin.keeps fun b o e => (e0.bs b o e).1
  have lim : s.heap.NoLimit := e0.mod.nolimit.keeps fun b o e => (e0.bs b o e).1
  have hkind : ∀ y ∈ ps.zip us, (defScope st).names.lookup y.1 = some .local ∨ ((defScope st).names.lookup y.1 = some .cell ∧ ((cellsFrom (s.heap.objs.size + 1) (defScope st).names []).lookup y.1).isSome = true) := fun ⟨n, v⟩ hy => by
    rcases S.par n (List.of_mem_zip hy).1 with q | q
    · exact .inl q
    · exact .inr ⟨q, PySem.W.cellsFrom_some _ _ _ (.inl q)⟩
  refine codeAny_call_function hr.depth (KX _ _ lk) rfl S.co S.gen rfl (PySem.W.codeRec_of KX hcd) (hb _ _ _ _ ?_)
  refine wpAny_newFunctionEnv_cells S.kind hkind fun env he s1 x => ?_
  subst he
  refine ⟨lim.keeps x.toInCall.keep, codeAny_func ?_⟩
  obtain ⟨t, ht, hq⟩ := hbody cdv A outer s H vs Q E (hr.deeper _) (guards_deeper hg) hsp
  have I : Inv (cxOf CX0 P w K mg base N qual (defScope st) f cdv A outer s H E) [] (start N vs) H s1 := inv_start S hr.hd e0 hl r x
  refine wpAny_mono (ht.run [] s1 (start N vs) H _ I hq) (fun fl s' hs => ?_) fun e s' hs => hs
  have fin : ∀ {σ' : L2.St} {H' : Hp} {v : V} {u : Value}, Inv (cxOf CX0 P w K mg base N qual (defScope st) f cdv A outer s H E) [] σ' H' s' → RelV v u → Q v H' → CE outer P w H s Q u s' :=
    fun {σ' H' v u} J rv q => ⟨v, H', J.os, J.bare, J.base, J.hok, rv, q⟩
  cases fl with
  | ret u =>
    obtain ⟨v, σ', H', J, rv, q⟩ := hs
    exact fin J rv q
  | next =>
    obtain ⟨σ', H', J, q⟩ := hs
    exact fin (v := V.non) (u := Value.none) J rfl q
  | brk =>
    obtain ⟨_, _, _, q⟩ := hs
    exact False.elim q
  | cont =>
    obtain ⟨_, _, _, q⟩ := hs
    exact False.elim q
section
variable {X : Cx} {k : Nat} {f : Addr} {fd : FuncData} {ps : List Str} {sp : Sp} {x : Str} {p pos : Pos} {e : Expr} {es : List Expr} {t : TA}
theorem pe_callG (F : FnG X.prog X.w X.K X.mg X.base k f fd ps sp) (hr : Room k X.A) (hgd : X.A.guards = some []) (hg : Gl X x) (hm : X.mg x = some (.ref f)) (hk : PySem.W.keepIn X.K (.ref f) = true) (hb : Binds X.K fd ps [])
    (ha : PA X (e :: es) t) (hdb : (x == ("__debug__" : Str)) = false := by decide) (he : starEach (e :: es) X.env = (false, eval e X.env) :: starEach es X.env := by rfl) (hpl : (backTo pos (starEach es X.env)).any (·.1) = false := by rfl) :
    PE X (.Call (.Name x p) (e :: es) [] pos) (tCall sp [] E0 t) := by
  refine ⟨fun pins s σ H Q I h => ?_⟩
  refine wpAny_Call_Name_kw (ld_glob I hg hm ?_ hdb)
  refine PySem.W.callWith_K (h₀ := X.base) I.ok.mod.kin hk (thn (ha.run pos pins s σ H _ I h) fun us s1 ⟨vs, H1, I1, r, q⟩ => ⟨I1.kIn, ?_⟩) he hpl
  have q2 : sp vs H1 Q E0 := by
    have q3 : sp (vs ++ []) H1 Q E0 := q
    rw [List.append_nil] at q3
    exact q3
  have hl : us.length = ps.length := by rw [← r.length]; exact F.len _ _ _ _ q2
  have b := hb s1 us I1.kIn (by rw [List.append_nil]; exact hl)
  rw [List.append_nil] at b
  refine wpAny_call (codeAny_mono (F.run X.A X.stack s1 H1 ⟨us, []⟩ us vs Q E0 hr hgd I1.env0 b r q2) fun r s' hq => ?_)
  cases r with
  | error e => exact False.elim hq
  | ok fl =>
    cases fl with
    | ret u => exact I1.after hq
    | next => exact False.elim hq
    | brk => exact False.elim hq
    | cont => exact False.elim hq
end
/-- the law's call -/
theorem law_callG {P : Program} {w : World} {K : PySem.W.Frag} {mg mb mm : Str → Option Value} {k : Nat} {fa a : Addr} {fd : FuncData} {x : Str} {sp : Sp} {s₁ : Shared} {vs : List Value} {ns : List Int}
    (KX : K.In s₁.heap) (hns : s₁.heap.Ns mainGlobals mg) (hmods : s₁.heap.Ns sysModules mm) (hb : s₁.heap.Ns builtinsNs mb) (hbb : ∀ x : Str, x ≠ "__name__" → mb x = bootBuiltins x) (hlim : s₁.heap.NoLimit) (hg : s₁.gens = #[])
    (ha : s₁.heap.get? a = some { cls := .type "list", data := .seq vs.toArray }) (hi : IntsAre vs ns) (hl : ns.length ≤ sizeLine) (hr : Room k callerA)
    (F : ∀ base : Heap, K.In base → base.Ns mainGlobals mg → (∃ o, base.get? sysModules = some o) → FnG P w K mg base k fa fd [x] sp) (hbind : ∀ (s : Shared) (u : Value), BindsTo s fd ⟨[u], []⟩ [(x, u)])
    (hsp : ∀ H : Hp, Only H → SqL K H a (ns.map V.int) → sp [.ref a] H (fun v _ => v = .bl true) E0) :
    codeAny (model P w) callerA (.call (.ref fa) ⟨[.ref a], []⟩) (fun r s' => r = .ok (.ret (.bool true)) ∧ OldK s₁.heap s'.heap ∧ s'.os = s₁.os ∧ AllBare s'.gens) s₁ := by
  have rv := vals_ints hi
  have lenV := hi.length
  have core : ∀ H : Hp, Only H → SqL K H a (ns.map V.int) → HOk P w H s₁.heap → (∀ b, H b ≠ none → b = a) → (H a ≠ none → K.lookup a = none) →
      codeAny (model P w) callerA (.call (.ref fa) ⟨[.ref a], []⟩) (fun r s' => r = .ok (.ret (.bool true)) ∧ OldK s₁.heap s'.heap ∧ s'.os = s₁.os ∧ AllBare s'.gens) s₁ := by
    intro H hO hS hok hA hK
    have base_of : ∀ {b : Addr} {o : Obj}, s₁.heap.get? b = some o → H b = none → (hidT s₁.heap H).get? b = some o := fun e n => hidT_get e n
    have noA : ∀ {b : Addr} {o : Obj} {es : Array DictEntry} {ep : Nat}, s₁.heap.get? b = some o → o.data = .dict es ep → H b = none := fun {b o es ep} e d => by
      cases q : H b with
      | none => rfl
      | some u =>
        have e' : b = a := hA b (by rw [q]; simp)
        subst e'
        rw [ha] at e; cases e
        have d' : Data.seq vs.toArray _ = Data.dict es ep := d
        cases d'
    have nsK : ∀ {b : Addr} {m : Str → Option Value}, s₁.heap.Ns b m → (hidT s₁.heap H).Ns b m := fun {b m} ⟨o, es, ep, e, d, r⟩ => ⟨o, es, ep, base_of e (noA e d), d, r⟩
    have hKb : K.In (hidT s₁.heap H) := fun b o e => base_of (KX b o e) (by
      cases q : H b with
      | none => rfl
      | some u =>
        have e' : b = a := hA b (by rw [q]; simp)
        subst e'
        rw [hK (by rw [q]; simp)] at e; cases e)
    have hM : Mod K mg (hidT s₁.heap H) := ⟨hKb, nsK hns, ⟨mb, nsK hb, hbb⟩, let ⟨mc, h1, h2⟩ := hlim; ⟨mc, nsK h1, h2⟩⟩
    have hS0 : ∃ o, (hidT s₁.heap H).get? sysModules = some o := let ⟨o, _, _, e, _⟩ := nsK hmods; ⟨o, e⟩
    have e0 : Env0 P w K mg (hidT s₁.heap H) callerA [] s₁ H := ⟨rfl, hM, fun b o e => of_hidT e, Nat.le_of_eq (hidT_size _ _), trivial, fun b hb => absurd (show b ∈ ([] : List Addr) from hb) (by simp), hok, .of_eq hg⟩
    refine codeAny_mono ((F _ hKb (nsK hns) hS0).run callerA [] s₁ H ⟨[.ref a], []⟩ [.ref a] [.ref a] _ _ hr rfl e0 (hbind s₁ (.ref a)) (.cons rfl .nil) (hsp H hO hS)) fun r s' h => ?_
    cases r with
    | error e => exact False.elim h
    | ok fl =>
      cases fl with
      | next => exact False.elim h
      | brk => exact False.elim h
      | cont => exact False.elim h
      | ret u =>
        obtain ⟨v, H', os, bare, un, hok', r', q⟩ := h
        have q' : v = .bl true := q
        subst q'
        obtain rfl : u = Value.bool true := r'
        refine ⟨rfl, OldK.of_keep fun b o e => ?_, os, bare⟩
        cases q : H b with
        | none => exact un.keep b o e q (by intro z; exact absurd (show b ∈ ([] : List Addr) from z) (by simp)) (by simp)
        | some u =>
          rcases hO b with z | ⟨ob, xs, z⟩
          · rw [q] at z; cases z
          · have z2 := un.frzs b ob _ z
            obtain ⟨e1, _⟩ := hok b _ z
            obtain ⟨e2, _⟩ := hok' b _ z2
            rw [e] at e1; cases e1
            exact e2
  cases hk : K.lookup a with
  | some o =>
    have e := KX a o hk
    rw [ha] at e
    cases e
    refine core (fun _ => none) (fun _ => .inl rfl) (.inr ⟨_, vs.toArray, _, hk, rfl, rfl, rfl, by rw [List.size_toArray, lenV]; exact hl, by simpa using rv⟩) (fun b u z => by have z' : (none : Option HO) = some u := z; cases z') (fun b z => absurd rfl z) fun z => absurd rfl z
  | none =>
    refine core (fun b => if b = a then some (.frz { cls := .type "list", data := .seq vs.toArray } (.lst (ns.map V.int))) else none) (fun b => ?_) (.inl (.inr ⟨{ cls := .type "list", data := .seq vs.toArray }, if_pos rfl⟩)) (fun b u z => ?_) (fun b z => ?_) fun _ => hk
    · by_cases hb : b = a
      · exact .inr ⟨_, _, if_pos hb⟩
      · exact .inl (if_neg hb)
    · by_cases hb : b = a
      · have z' := (if_pos hb).symm.trans z
        cases z'
        subst hb
        exact ⟨ha, by rw [List.length_map]; exact hl, vs, _, rv, ha⟩
      · have z' := (if_neg hb).symm.trans z
        cases z'
    · by_cases hb : b = a
      · exact hb
      · exact absurd (if_neg hb) z
theorem walkG {l : PySem.W.OpenLaw} {n k : Nat} {q : Program} {loose : List Str} {XP : (Str → Option Value) → Heap → Prop} {YP : World → Heap → Prop} {d : DefRec} {K : Params → PySem.W.Frag} {sp : World → Sp} {x : Str}
    (hn : l.most = some n) (hn2 : n ≤ sizeLine) (hdf : d.params.defaults = []) (him : importsNone q = true) (hr : Room k callerA)
    (hY : ∀ (w : World) (h : Heap), YP w h → (K w.params).In h)
    (F : ∀ (w : World) (mg : Str → Option Value) (fa : Addr) (h : Heap), (K w.params).In h → h.Ns mainGlobals mg → mg d.name = some (.ref fa) →
      ∃ fd : FuncData, (∀ (s : Shared) (u : Value), BindsTo s fd ⟨[u], []⟩ [(x, u)]) ∧
        ∀ base : Heap, (K w.params).In base → base.Ns mainGlobals mg → (∃ o, base.get? sysModules = some o) → FnG l.prog w (K w.params) mg base k fa fd [x] (sp w))
    (hsp : ∀ (w : World) (H : Hp) (a : Addr) (ns : List Int), ns.length ≤ n → Only H → SqL (K w.params) H a (ns.map V.int) → sp w [.ref a] H (fun v _ => v = .bl true) E0) :
    PySem.W.WalkO q loose XP YP l.row.toRowW d [] (fun f vs => PySem.call f vs) := by
  refine Att.attach_call hn hdf fun w s₀ s₁ mg mb fa o pm cd doc a vs ns G Y ho hd hcd hmg hobj hints hlen hg => ?_
  have KX := hY w _ Y
  obtain ⟨mm, hmods, _⟩ := (G.T.seer him).mods
  obtain ⟨fd, hb, hF⟩ := F w mg fa _ KX G.T.g hmg
  exact law_callG KX G.T.g hmods G.T.b G.T.builtins G.T.nolimit hg hobj hints (Nat.le_trans hlen hn2) hr hF hb (fun H hO hS => hsp w H a ns hlen hO hS)
end Sps
set_option Elab.async false
set_option linter.all false
set_option maxRecDepth 100000
set_option maxHeartbeats 4000000
/-! x in a, a of an own class; y in d; l == []. -/
namespace Sps
open PySem PySem.Spec PyProof.Rows L2
section
variable {X : Cx} {CX : CXT} {n : Nat} {C g : Addr} {sp : Sp} {E : XK}
/-- x in a by the class's own def -/
def rInO (C : Addr) (sp : Sp) (E : XK) : R2 := fun x y H Q => ∃ a dx fs, y = .ref a ∧ H a = some (.ins C dx fs) ∧ sp [y, x] H (fun v H' => ∃ b : Bool, v = .bl b ∧ Q (.bl b) H') E
theorem op_inO (hs : PySem.W.findIn X.K (.ref C) "__contains__" = some (some (.ref g))) (hf : PySem.W.isFn X.K (.ref g) = true)
    (F : FnR X.prog X.w X.K X.mg X.base CX n g sp) (hr : Room n X.A) (hx : Passes CX X E) : OpR X (compareOp .In) (rInO C sp E) := by
  intro pins s σ H x y v u Q I rx ry h
  obtain ⟨a, dx, fs, rfl, ha, q⟩ := h
  cases (show u = Value.ref a from ry)
  obtain ⟨mA, OA, _⟩ := ins_get I.hok ha
  obtain ⟨_, JA, _⟩ := OA.look
  obtain ⟨m, hF⟩ := I.fr
  refine PySem.W.in_K hF I.ok.mod.kin JA hs hf ?_
  refine wpAny_mono (wpAny_call (run_fnR (us := [.ref a, v]) (vs := [.ref a, x]) F hr hx I (.cons rfl (.cons rx .nil)) q)) (fun w s' z => ?_) fun _ _ e => e
  obtain ⟨z', H', I', rz, b, rfl, qz⟩ := z
  cases (show w = Value.bool b from rz)
  exact wpAny_truthy_bool ⟨.bl b, H', I', rfl, qz⟩
/-- i in d, d a dict with ints and texts for keys -/
def rInDK : R2 := fun x y H Q => ∃ (i : Int) (a : Addr) (kvs : List (Key × V)), x = .int i ∧ y = .ref a ∧ H a = some (.dK kvs) ∧ Q (.bl (valV kvs (Sum.inl i)).isSome) H
theorem op_inDK (hu : X.A.units + 1 < cLine) : OpR X (compareOp .In) rInDK := by
  intro pins s σ H x y v u Q I rx ry h
  obtain ⟨i, a, kvs, rfl, rfl, ha, q⟩ := h
  cases (show u = Value.ref a from ry)
  exact d_in (y := .int i) (o := valV kvs (Sum.inl i)) hu I (.inl ⟨kvs, Sum.inl i, .inl ha, rfl, rfl⟩) rx fun s' I' => ⟨.bl _, H, I', rfl, q⟩
/-- l == [], the items of any kind -/
def rEqNil : R2 := fun x y H Q => ∃ (a b : Addr) (xs : List V), x = .ref a ∧ y = .ref b ∧ H a = some (.lst xs) ∧ H b = some (.lst []) ∧ Q (.bl xs.isEmpty) H
theorem op_eqNil (hu : X.A.units + 64 < cLine) : OpR X (compareOp .Eq) rEqNil := by
  intro pins s σ H x y v u Q I rx ry h
  obtain ⟨a, b, xs, rfl, rfl, ha, hb, q⟩ := h
  cases (show v = Value.ref a from rx)
  cases (show u = Value.ref b from ry)
  obtain ⟨its, rv, la, _⟩ := I.list (SqL.of ha)
  obtain ⟨its2, rv2, lb, _⟩ := I.list (SqL.of hb)
  cases rv2
  have hl := la.isList
  have hl' := lb.isList
  have hab : xs ≠ [] → a ≠ b := fun n z => by
    rw [z, hb] at ha
    cases ha
    exact n rfl
  cases xs with
  | nil =>
    cases rv
    obtain ⟨o, k, ho, hc, _, hd⟩ := la
    obtain ⟨o2, k2, ho2, hc2, _, hd2⟩ := lb
    have r1 : Reads s.heap (.ref a) (.list []) _ := .list ho hc hd .nil
    have r2 : Reads s.heap (.ref b) (.list []) _ := .list ho2 hc2 hd2 .nil
    exact SeqAt.compareEq_shaped r1 r2 (by decide +kernel) (by decide +kernel) hu ⟨.bl _, H, I, rfl, q⟩
  | cons x xs =>
    cases rv with
    | cons r0 rs =>
      have hd : ∀ (p : Value) (ps : List Value), (((p :: ps).toArray.size != ([] : List Value).toArray.size)) = true := fun p ps => by simp
      exact SeqAt.RcAt.lists_lengths hl hl' (hd _ _) (A := X.A) (by omega) X.prog X.w X.xe _ ⟨.bl _, H, I, rfl, q⟩
end
end Sps
set_option Elab.async false
set_option linter.all false
set_option maxRecDepth 100000
set_option maxHeartbeats 4000000
/-! BadSpans and Spans are made of any values. -/
namespace Sps
open PySem PySem.Spec PyProof.Rows L2
abbrev sBad : Stmt := inClass (top 2) 0
section
variable {P : Program} {w : World} {K : PySem.W.Frag} {mg : Str → Option Value} {base : Heap}
/-- what the program's own error must have -/
structure BadC (K : PySem.W.Frag) (mg : Str → Option Value) (CB CK fB : Addr) : Prop where
  ox : OexC K CB
  ke : KeC K CK
  mgB : mg "BadSpans" = some (.ref CB)
  mgK : mg "KeeperError" = some (.ref CK)
  noV : PySem.W.findIn K (.ref CB) "value" = some none
  ini : PySem.W.findIn K (.ref CB) "__init__" = some (some (.ref fB))
  fn : PySem.W.typeIn K (.ref fB) = some (.type "function")
def spBadInit (CB : Addr) : Sp := fun vs H Q _ => ∃ (a : Addr) (v : V), vs = [.ref a, v] ∧ H a = some (exo a CB none) ∧ ∀ dx, H dx = none → dx ≠ a → Q .non (L2.upd (L2.upd H dx (exd dx [("value", v)])) a (exo a CB (some dx)))
theorem scB : FnScope ["self", "value"] ["self", "value"] (defScope sBad) := ⟨rfl, rfl, rfl, by decide +kernel, rfl, by decide +kernel, by decide +kernel⟩
theorem ok_bad {f CB CK fB : Addr} {fd : FuncData} (F : Fun K "__init__" "BadSpans.__init__" sBad f fd) (B : BadC K mg CB CK fB) : FnOk P w K mg base CX0 2 f fd ["self", "value"] (spBadInit CB) := by
  refine F.ok scB (fun vs H Q E h => ?_) (fun cdv A outer s H vs Q E hr h => ?_)
  · obtain ⟨_, _, rfl, _⟩ := h
    rfl
  · obtain ⟨a, v, rfl, ha, k⟩ := h
    refine ⟨_, pss_cons (ps_expr (pe_keinit B.ke rfl B.mgK (pa_cons (pv 0) (pa_cons pe_str pa_nil)))) (pss_one (ps_ost (pv 0) (pv 1) rfl)), ?_⟩
    refine ⟨_, rfl, a, CB, [_], rfl, (by show 1 ≤ 1000; decide), B.ox, ha, ?_⟩
    exact ⟨_, rfl, _, rfl, a, CB, rfl, B.ox, B.noV, .inl ⟨ha, fun dx hd ne => k dx hd ne⟩⟩
/-! ### Spans( *pairs) -/
def spInitX (C CB : Addr) : Sp := fun vs H Q E => ∃ (l x p dx : Addr) (xs : List V) (ds : List PyData), vs = [.ref x, .ref p] ∧ H x = some (.ins C dx []) ∧ H p = some (.tup xs) ∧ DqAll l H xs ds ∧ xs.length ≤ 1000 ∧
  (∀ ts : List TP, xs = ts.map rf → TPs H ts → (∀ q ∈ prs ts, okP q) → ∀ (H' : Hp) (ms : List Pr), SameX x H H' → SpAt C H' x ms → Norm ms → (∀ y, inS y ms ↔ inS y (prs ts)) → Q .non H') ∧
  (ds.all okD = false → ∀ (H' : Hp) (d : Addr), Same H H' → H' d = some (.xd [("value", .ref p)]) → E (.ref CB) (some d) H')
def spNewX (C CB : Addr) : Sp := fun vs H Q E => ∃ (l x dx : Addr) (xs : List V) (ds : List PyData), vs = .ref x :: xs ∧ H x = some (.ins C dx []) ∧ DqAll l H xs ds ∧ xs.length ≤ 1000 ∧
  (∀ ts : List TP, xs = ts.map rf → TPs H ts → (∀ q ∈ prs ts, okP q) → ∀ (H' : Hp) (ms : List Pr), SameX x H H' → SpAt C H' x ms → Norm ms → (∀ y, inS y ms ↔ inS y (prs ts)) → Q .non H') ∧
  (ds.all okD = false → ∀ (H' : Hp) (d p : Addr), Same H H' → H' d = some (.xd [("value", .ref p)]) → H' p = some (.tup xs) → E (.ref CB) (some d) H')
theorem ok_initX {f C CB CK fB fP fM : Addr} {fd fdP fdM fdB : FuncData} (F : Fun K "__init__" "Spans.__init__" sInit f fd) (T : Names mg) (S : SpCls K mg C) (B : BadC K mg CB CK fB)
    (GP : FnOk P w K mg base CX0 3 fP fdP ["value"] (spIsPair K)) (mgP : mg "_is_pair" = some (.ref fP)) (kP : PySem.W.keepIn K (.ref fP) = true) (bP : Binds K fdP ["value"] [])
    (GM : FnOk P w K mg base CX0 2 fM fdM ["pairs"] spMerged) (mgM : mg "_merged" = some (.ref fM)) (kM : PySem.W.keepIn K (.ref fM) = true) (bM : Binds K fdM ["pairs"] [])
    (GB : FnOk P w K mg base CX0 2 fB fdB ["self", "value"] (spBadInit CB)) (bB : Binds K fdB ["self", "value"] []) :
    FnR P w K mg base (L2.CX P w) 4 f (spNewX C CB) := by
  obtain ⟨oc, od, kV, doc, pm, an, cdv, ct, osl, efd, lk, hcd⟩ := F.ex
  rw [efd] at lk
  have R := StX.fn_star (P := P) (w := w) (mg := mg) (base := base) (CX := L2.CX P w) (k := 3) (ps := ["self"]) (pv := "pairs") (sp := spInitX C CB) lk hcd scI StX.cxUp (StX.bind_star1 (B := fun us => bindArgs (PySem.W.fnOf "__init__" "Spans.__init__" (defArgs sInit) (defBody sInit) (defScope sInit) .none kV doc pm an cdv ct) ⟨us, []⟩) (p1 := "self") (pv := "pairs") (fun a => rfl) (fun a r rs => rfl)) (fun A outer s H vs Q E hr h => by
    obtain ⟨l, x, p, dx, xs, ds, rfl, hx, hA, hD, hlen, good, bad⟩ := h
    have hr1 : Room 2 _ := hr.mono (by decide)
    refine ⟨_, pss_cons (ps_if (pt_not (pt_val (pe_callB (cr_all rfl) (by rfl) T.all (by decide +kernel) (pa_cons (pe_lc (own := [("pair", 2)]) (g := gName 2) (tt := tYes) rfl scI.nd (pi_tup (pv 1)) (blkOk_by (own := [("pair", 2)]) (N := ["self", "pairs", "pair"]) (sc := defScope sInit) (by decide +kernel))
          (fun _ _ _ _ _ => pg_name (i := 2) scI.nd rfl (Or.inl rfl)) (fun _ _ _ _ _ => pts_nil) (fun _ _ _ _ _ => pe_call GP hr rfl mgP kP bP .nil pass0 (pa_cons (pv 2) pa_nil))) pa_nil))))
          (pss_one (ps_raise rfl (takes_of rfl rfl rfl rfl) (pmk_oex B.ox B.ini B.fn GB hr bB .nil pass0 rfl B.mgB (pa_cons (pv 1) pa_nil)))) pss_nil)
      (pss_one (ps_fld (pv 0) (pe_call GM hr1 rfl mgM kM bM .nil pass0 (pa_cons (pv 1) pa_nil)) rfl)), ?_⟩
    refine ⟨_, rfl, p, rfl, ⟨_, tupAt hA⟩, fun D hD0 => lc_tup (K := K) (a := p) (xs := xs) (fun i H' => Same H H' ∧ H' D = some (.lst (((ds.map okD).take i).map V.bl))) ⟨Same.upd hD0, upd_same⟩ (fun i H' _ ⟨sH, _⟩ => tupAt (sH _ _ hA)) ?_ ?_⟩
    · rintro i y H' hi ⟨sH, hL⟩
      obtain ⟨d, hd, qd⟩ := hD.at_ hi
      refine ⟨rfl, ?_⟩
      refine ⟨_, rfl, _, _, rfl, pairV_of (qd.same sH), ?_⟩
      refine ⟨_, hL, ?_, Same.put sH hD0, ?_⟩
      · rw [List.length_map, List.length_take, List.length_map]
        have e1 := hD.length
        exact Nat.lt_of_le_of_lt (Nat.le_trans (Nat.min_le_right _ _) (by rw [← e1]; exact hlen)) (by decide)
      · have hd2 : (ds.map okD)[i]? = some (okD d) := by rw [List.getElem?_map, hd]; rfl
        rw [upd_same, take_snoc hd2, List.map_append]
        rfl
    · rintro H' ⟨sH, hL⟩
      have et : (ds.map okD).take xs.length = ds.map okD := List.take_of_length_le (by rw [List.length_map, hD.length]; exact Nat.le_refl _)
      rw [et] at hL
      refine ⟨D, ds.map okD, rfl, SqL.of hL, ds.all okD, ?_, ?_⟩
      · simp [List.all_map]
      · cases hb : ds.all okD with
        | true =>
          refine iteF ?_
          obtain ⟨ts, ex, hT, ed, hok⟩ := tps_of hD hb
          subst ex
          refine ⟨_, rfl, p, prs ts, rfl, ⟨ts, sH _ _ hA, hT.same sH, rfl⟩, hok, fun H2 q ms s2 hq nm hin => ?_⟩
          have sA := sH.trans s2
          refine ⟨_, rfl, x, C, dx, [], rfl, sA _ _ hx, S.cl, S.nP, (by show 0 < 1000; decide), ?_⟩
          refine good ts rfl hT hok _ ms (fun b o nb e => ?_) ⟨dx, q, ?_, ?_⟩ nm hin
          · rw [upd_ne nb]
            exact sA _ _ e
          · rw [upd_same]
            rfl
          · obtain ⟨us, h1, h2, h3⟩ := hq
            have nq : q ≠ x := ne_of h1 (sA _ _ hx) (by intro z; cases z)
            refine ⟨us, by rw [upd_ne nq]; exact h1, fun t m => ?_, h3⟩
            rw [upd_ne (ne_of (h2 t m) (sA _ _ hx) (by intro z; cases z))]
            exact h2 t m
        | false =>
          refine iteT ?_
          refine ⟨_, rfl, (by show 1 ≤ 1000; decide), fun a ha => ⟨a, .ref p, rfl, upd_same, fun d hd ne => ⟨rfl, d, [("value", V.ref p)], upd_same, ?_, ?_, ?_⟩⟩⟩
          · rw [upd_ne ne, upd_same]
          · rw [upd_ne ne] at hd
            exact hd
          · rw [upd_ne ne] at hd
            refine bad hb _ d (fun b o e => ?_) upd_same
            have e1 := sH _ _ e
            have nba : b ≠ a := ne_of_none e1 ha
            have nbd : b ≠ d := ne_of_none e1 hd
            rw [upd_ne nbd, del_ne nba, upd_ne nba, upd_ne nbd, upd_ne nba]
            exact e1)
  refine R.imp fun vs H Q E h => ?_
  obtain ⟨l, x, dx, xs, ds, rfl, hx, hD, hlen, good, bad⟩ := h
  refine ⟨[.ref x], xs, rfl, rfl, Nat.le_trans hlen (by decide), fun p hp => ?_⟩
  have sp := Same.upd (o := .tup xs) hp
  refine ⟨l, x, p, dx, xs, ds, rfl, sp _ _ hx, upd_same, hD.same sp, hlen, fun ts ex hT hok H' ms sx hs nm hin => ?_, fun hb H' d s2 hd => ?_⟩
  · subst ex
    refine good ts rfl (fun t m => ?_) hok H' ms (fun b o nb e => sx b o nb (sp _ _ e)) hs nm hin
    obtain ⟨d, _, q⟩ := (hD.same sp).mem (List.mem_map.mpr ⟨t, m, rfl⟩)
    obtain ⟨d0, _, q0⟩ := hD.mem (List.mem_map.mpr ⟨t, m, rfl⟩)
    have e1 := hT t m
    have np : H t.1 ≠ none := fun z => by
      cases q0 with
      | lst h _ _ => rw [z] at h; cases h
      | tup h _ => rw [z] at h; cases h
      | emp h => rw [z] at h; cases h
      | dct h _ => rw [z] at h; cases h
    have ne : t.1 ≠ p := fun z => np (by rw [z]; exact hp)
    rw [upd_ne ne] at e1
    exact e1
  · exact bad hb H' d p (sp.trans s2) hd (s2 _ _ upd_same)
end
end Sps
set_option Elab.async false
set_option linter.all false
set_option maxRecDepth 100000
set_option maxHeartbeats 4000000
/-! x in a Spans; is a value a couple. -/
namespace Sps
open PySem PySem.Spec PyProof.Rows L2
/-- a op1 b op2 c op3 d -/
def tChain3 (r1 r2 r3 : R2) (ta tb tc td : TE) : TE := fun σ H Q => ta σ H fun x H1 => tb σ H1 fun y H2 => r1 x y H2 fun z H3 => ∃ k, z = .bl k ∧
  (if k = true then (tc σ H3 fun y' H4 => r2 y y' H4 fun z' H5 => ∃ k', z' = .bl k' ∧ (if k' = true then td σ H5 fun w' H6 => r3 y' w' H6 Q else Q (.bl false) H5)) else Q (.bl false) H3)
theorem pe_chain3 {X : Cx} {a b c d : Expr} {ta tb tc td : TE} {pos : Pos} {op1 op2 op3 : CmpOp} {r1 r2 r3 : R2} (h1 : OpR X (compareOp op1) r1) (h2 : OpR X (compareOp op2) r2) (h3 : OpR X (compareOp op3) r3) (ha : PE X a ta) (hb : PE X b tb) (hc : PE X c tc) (hd : PE X d td)
    (hm : lastMarks [op1, op2, op3] [b, c, d] = false := by with_unfolding_all rfl) : PE X (.Compare a [op1, op2, op3] [b, c, d] pos) (tChain3 r1 r2 r3 ta tb tc td) := by
  refine ⟨fun pins s σ H Q I h => ?_⟩
  refine Compare_chain (thn (ha.run pins s σ H _ I h) fun v s1 ⟨x, H1, I1, q1, q⟩ => chain_link (thn (hb.run pins s1 σ H1 _ I1 q) fun u s2 ⟨y, H2, I2, q2, q⟩ =>
    thn (h1 pins s2 σ H2 x y v u _ I2 q1 q2 q) fun d s3 ⟨z, H3, I3, q3, k, e, q⟩ => ?_)) hm
  subst e
  cases q3
  refine wpAny_truthy_bool ?_
  cases k with
  | false => exact ite_ff ⟨.bl false, H3, I3, rfl, q⟩
  | true =>
    refine ite_tt (chain_link (thn (hc.run pins s3 σ H3 _ I3 q) fun u' s4 ⟨y', H4, I4, q4, q⟩ => thn (h2 pins s4 σ H4 y y' u u' _ I4 q2 q4 q) fun d s5 ⟨z', H5, I5, q5, k', e', q⟩ => ?_))
    subst e'
    cases q5
    refine wpAny_truthy_bool ?_
    cases k' with
    | false => exact ite_ff ⟨.bl false, H5, I5, rfl, q⟩
    | true => exact ite_tt (chain_last (thn (hd.run pins s5 σ H5 _ I5 q) fun w' s6 ⟨z6, H6, I6, q6, q⟩ => h3 pins s6 σ H6 y' z6 u' w' Q I6 q4 q6 q))
abbrev sCouple : Stmt := top 20
theorem seq_set {te : TE} {u : TS} {D : Ends} {σ : L2.St} {H : Hp} {i : Nat} (h : te σ H fun x H1 => u D (σ.set i (some x)) H1) : tSeq (tAsg te (gName i)) u D σ H := h
theorem asg_set {te : TE} {D : Ends} {σ : L2.St} {H : Hp} {i : Nat} (h : te σ H fun x H1 => D.nx (σ.set i (some x)) H1) : tAsg te (gName i) D σ H := h
theorem seq_if {c : TT} {t u v : TS} {D : Ends} {σ : L2.St} {H : Hp} (h : tIfS c t u { D with nx := v D } σ H) : tSeq (tIfS c t u) v D σ H := h
def inB (d : PyData) (p : Pr) : Bool := match d with
  | .int i => decide (p.1 ≤ i) && decide (i ≤ p.2 - 1)
  | _ => false
theorem inB_int {i : Int} {p : Pr} : inB (.int i) p = true ↔ inP i p := by
  unfold inB inP
  simp only [Bool.and_eq_true, decide_eq_true_eq]
  omega
theorem inB_no {d : PyData} {p : Pr} (n : ∀ i, d ≠ .int i) : inB d p = false := by
  cases d with
  | int i => exact absurd rfl (n i)
  | _ => rfl
def isI : PyData → Bool
  | .int _ => true
  | _ => false
section
variable {P : Program} {w : World} {K : PySem.W.Frag} {mg : Str → Option Value} {base : Heap}
def spIn (C : Addr) : Sp := fun vs H Q _ => ∃ (S : Int → Prop) (l : Addr) (u x : V) (d : PyData), vs = [u, x] ∧ IsSp C S u H ∧ Dq l H x d ∧ ∀ (H' : Hp) (b : Bool), Same H H' → (b = true ↔ ∃ i, d = .int i ∧ S i) → Q (.bl b) H'
theorem scCn : FnScope ["self", "x", "start", "stop"] ["self", "x"] (defScope sIn) := ⟨rfl, rfl, rfl, by decide +kernel, rfl, by decide +kernel, by decide +kernel⟩
theorem ok_in {f fW C : Addr} {fd fdW : FuncData} (F : Fun K "__contains__" "Spans.__contains__" sIn f fd) (T : Names mg) (S : SpCls K mg C) (G : FnOk P w K mg base CX0 2 fW fdW ["value", "least", "most"] (spWithin K)) (mgG : mg "is_within" = some (.ref fW)) (kG : PySem.W.keepIn K (.ref fW) = true) (bG : Binds K fdW ["value", "least", "most"] []) :
    FnOk P w K mg base CX0 3 f fd ["self", "x"] (spIn C) := by
  refine F.ok scCn (fun vs H Q E h => ?_) (fun cdv A outer s H vs Q E hr h => ?_)
  · obtain ⟨_, _, _, _, _, rfl, _⟩ := h
    rfl
  · obtain ⟨S1, l, u, x0, d, rfl, ⟨x, ms, rfl, ⟨dx, t, hx, ⟨ts, hA, hT, rfl⟩⟩, nm, im⟩, hd, k⟩ := h
    refine ⟨_, pss_one (ps_ret (pe_callB (cr_any rfl) (by rfl) T.any (by decide +kernel) (pa_cons
      (pe_lc (own := [("start", 2), ("stop", 3)]) (g := gTup K 2 (gCons (gName 2) (gCons (gName 3) gNil))) (tt := tYes) rfl scCn.nd (pi_tup (pe_fld (pv 0) rfl)) (blkOk_by (own := [("start", 2), ("stop", 3)]) (N := ["self", "x", "start", "stop"]) (sc := defScope sIn) (by decide +kernel))
        (fun _ _ _ _ _ => pg_tup rfl (pgs_cons (pg_name (i := 2) scCn.nd rfl (Or.inl rfl)) (pgs_cons (pg_name (i := 3) scCn.nd rfl (Or.inl rfl)) pgs_nil))) (fun _ _ _ _ _ => pts_nil)
        (fun _ _ _ _ _ => pe_call G hr rfl mgG kG bG .nil pass0 (pa_cons (pv 1) (pa_cons (pv 2) (pa_cons (pe_op op_sub (pv 3) pe_int) pa_nil))))) pa_nil))), ?_⟩
    refine ⟨_, rfl, x, C, dx, _, _, rfl, hx, S.cl, S.nP, look_pairs _, t, rfl, ⟨_, tupAt hA⟩, fun D hD => lc_tup (K := K) (a := t) (xs := ts.map rf) (fun i H' => Same H H' ∧ H' D = some (.lst ((((prs ts).map (inB d)).take i).map V.bl))) ⟨Same.upd hD, upd_same⟩ (fun i H' _ ⟨sH, _⟩ => tupAt (sH _ _ hA)) ?_ ?_⟩
    · rintro i y H' hi ⟨sH, hL⟩
      rw [List.getElem?_map] at hi
      obtain ⟨u, hu, e⟩ : ∃ u, ts[i]? = some u ∧ rf u = y := by
        cases e : ts[i]? with
        | none => rw [e] at hi; cases hi
        | some u => rw [e] at hi; exact ⟨u, rfl, Option.some.inj hi⟩
      subst e
      have mu : u ∈ ts := List.mem_of_getElem? hu
      have hp : ((prs ts).map (inB d))[i]? = some (inB d u.2) := by
        unfold prs
        rw [List.getElem?_map, List.getElem?_map, hu]
        rfl
      have fin : ∃ b, H' D = some (.lst b) ∧ b.length < sizeLine ∧ Same H (L2.upd H' D (.lst (b ++ [V.bl (inB d u.2)]))) ∧ (L2.upd H' D (.lst (b ++ [V.bl (inB d u.2)]))) D = some (.lst ((((prs ts).map (inB d)).take (i + 1)).map V.bl)) := by
        refine ⟨_, hL, ?_, Same.put sH hD, ?_⟩
        · rw [List.length_map, List.length_take, List.length_map]
          have := nm.len
          exact Nat.lt_of_le_of_lt (Nat.le_trans (Nat.min_le_right _ _) this) (by decide)
        · rw [upd_same, take_snoc hp, List.map_append]
          rfl
      refine ⟨u.1, _, rfl, tupAt (hT.same sH u mu), rfl, _, _, rfl, _, _, rfl, rfl, rfl, ?_⟩
      refine ⟨_, rfl, _, rfl, _, rfl, _, _, rfl, rfl, x0, u.2.1, u.2.2 - 1, rfl, ?_⟩
      rcases isInt d with ⟨j, rfl⟩ | n
      · obtain rfl := int_of hd
        exact .inl ⟨j, rfl, fin⟩
      · rw [inB_no n] at fin
        exact .inr ⟨noInt_of (hd.same sH) n, fin⟩
    · rintro H' ⟨sH, hL⟩
      have et : ((prs ts).map (inB d)).take (ts.map rf).length = (prs ts).map (inB d) := List.take_of_length_le (by unfold prs; rw [List.length_map, List.length_map, List.length_map]; exact Nat.le_refl _)
      rw [et] at hL
      refine ⟨D, (prs ts).map (inB d), rfl, SqL.of hL, k H' _ sH ?_⟩
      rw [List.any_map]
      constructor
      · intro h
        obtain ⟨p, hp, hb⟩ := List.any_eq_true.mp h
        rcases isInt d with ⟨j, rfl⟩ | n
        · exact ⟨j, rfl, (im j).mp ⟨p, hp, inB_int.mp hb⟩⟩
        · have z : inB d p = true := hb
          rw [inB_no n] at z
          cases z
      · rintro ⟨j, rfl, hj⟩
        obtain ⟨p, hp, hb⟩ := (im j).mpr hj
        exact List.any_eq_true.mpr ⟨p, hp, inB_int.mpr hb⟩
/-! ### _law_is_couple -/
theorem ty_int {l : Addr} {H : Hp} {x : V} {d : PyData} (h : Dq l H x d) : ∃ t b1 b2, TyX K H x t ∧ PySem.W.kitOne K t (.type "int") = some b1 ∧ PySem.W.kitOne K t (.type "bool") = some b2 ∧ (b1 && !b2) = isI d ∧ (b1 = false → isI d = false) := by
  cases h with
  | non => exact ⟨_, false, false, .base .non, kit_ty (by decide +kernel), kit_ty (by decide +kernel), rfl, fun _ => rfl⟩
  | bl b => exact ⟨_, true, true, .base (.bl b), kit_ty (by decide +kernel), kit_ty (by decide +kernel), rfl, fun _ => rfl⟩
  | int i => exact ⟨_, true, false, .base (.int i), kit_ty (by decide +kernel), kit_ty (by decide +kernel), rfl, fun z => by cases z⟩
  | str x => exact ⟨_, false, false, .base (.str x), kit_ty (by decide +kernel), kit_ty (by decide +kernel), rfl, fun _ => rfl⟩
  | lst h _ _ => exact ⟨_, false, false, .base (.lst h), kit_ty (by decide +kernel), kit_ty (by decide +kernel), rfl, fun _ => rfl⟩
  | tup h _ => exact ⟨_, false, false, .base (.tup h), kit_ty (by decide +kernel), kit_ty (by decide +kernel), rfl, fun _ => rfl⟩
  | emp h => exact ⟨_, false, false, .base (.dK h), kit_ty (by decide +kernel), kit_ty (by decide +kernel), rfl, fun _ => rfl⟩
  | dct h _ => exact ⟨_, false, false, .base (.dK h), kit_ty (by decide +kernel), kit_ty (by decide +kernel), rfl, fun _ => rfl⟩
theorem ty_tup {l : Addr} {H : Hp} {x : V} {d : PyData} (h : Dq l H x d) : (∃ t, TyX K H x t ∧ PySem.W.kitOne K t (.type "tuple") = some false ∧ okD d = false) ∨ ∃ a xs ds, x = .ref a ∧ H a = some (.tup xs) ∧ DqAll l H xs ds ∧ d = .tuple ds := by
  cases h with
  | tup h q => exact .inr ⟨_, _, _, rfl, h, q, rfl⟩
  | non => exact .inl ⟨_, .base .non, kit_ty (by decide +kernel), rfl⟩
  | bl b => exact .inl ⟨_, .base (.bl b), kit_ty (by decide +kernel), rfl⟩
  | int i => exact .inl ⟨_, .base (.int i), kit_ty (by decide +kernel), rfl⟩
  | str x => exact .inl ⟨_, .base (.str x), kit_ty (by decide +kernel), rfl⟩
  | lst h _ _ => exact .inl ⟨_, .base (.lst h), kit_ty (by decide +kernel), rfl⟩
  | emp h => exact .inl ⟨_, .base (.dK h), kit_ty (by decide +kernel), rfl⟩
  | dct h _ => exact .inl ⟨_, .base (.dK h), kit_ty (by decide +kernel), rfl⟩
def spCouple : Sp := fun vs H Q _ => ∃ (l : Addr) (x : V) (d : PyData), vs = [x] ∧ Dq l H x d ∧ ∀ H', Same H H' → Q (.bl (okD d)) H'
theorem scCp : FnScope ["_law_thing", "_law_one"] ["_law_thing"] (defScope sCouple) := ⟨rfl, rfl, rfl, by decide +kernel, rfl, by decide +kernel, by decide +kernel⟩
theorem ok_couple {f : Addr} {fd : FuncData} (F : Fun K "_law_is_couple" "_law_is_couple" sCouple f fd) (T : Names mg) : FnOk P w K mg base CX0 2 f fd ["_law_thing"] spCouple := by
  refine F.ok scCp (fun vs H Q E h => ?_) (fun cdv A outer s H vs Q E hr h => ?_)
  · obtain ⟨_, _, _, rfl, _⟩ := h
    rfl
  · obtain ⟨l, x, d, rfl, hd, k⟩ := h
    refine ⟨_, pss_cons (ps_if (PW.pt (pw_or (pt_not (pt_val (pe_callB call_isi (by rfl) T.isinstance (by decide +kernel) (pa_cons (pv 0) (pa_cons (pe_bltn (v := .ty "tuple") (by rfl) T.tuple (by decide +kernel) rfl) pa_nil)))))
        (pw_or1 (pt_cmpR op_ne (pe_callB call_len_seq (by rfl) T.len PySem.boot_len (pa_cons (pv 0) pa_nil)) pe_int (nomark _))))) (pss_one (ps_ret pe_bl)) pss_nil)
      (pss_cons (ps_if (pt_not (pt_val (pe_callB (cr_all rfl) (by rfl) T.all (by decide +kernel) (pa_cons (pe_lc (own := [("_law_one", 1)]) (g := gName 1) (tt := tYes) rfl scCp.nd (pi_tup (pv 0)) (blkOk_by (own := [("_law_one", 1)]) (N := ["_law_thing", "_law_one"]) (sc := defScope sCouple) (by decide +kernel))
          (fun _ _ _ _ _ => pg_name (i := 1) scCp.nd rfl (Or.inl rfl)) (fun _ _ _ _ _ => pts_nil) (fun _ _ _ _ _ => pe_and (pe_callB (id := "isinstance") (r := rIsi K) call_isi (by rfl) T.isinstance (by decide +kernel) (pa_cons (pv 1) (pa_cons (pe_bltn (v := .ty "int") (by rfl) T.int (by decide +kernel) rfl) pa_nil)))
            (pe_one (pe_not (pe_callB (id := "isinstance") (r := rIsi K) call_isi (by rfl) T.isinstance (by decide +kernel) (pa_cons (pv 1) (pa_cons (pe_bltn (v := .ty "bool") (by rfl) T.bool (by decide +kernel) rfl) pa_nil))))))) pa_nil)))) (pss_one (ps_ret pe_bl)) pss_nil)
      (pss_one (ps_ret (pe_chain3 op_le op_lt op_le pe_int (pe_ix ix_tup (pv 0) pe_int (fun _ _ => rfl)) (pe_ix ix_tup (pv 0) pe_int (fun _ _ => rfl)) pe_int)))), ?_⟩
    rcases ty_tup (K := K) hd with ⟨t, ty, kt, ok⟩ | ⟨a, xs, ds, rfl, hA, hAll, rfl⟩
    · refine ⟨_, rfl, _, _, _, _, false, rfl, .ty "tuple", ty, kt, false, rfl, ?_⟩
      have z := k H (Same.refl H)
      rw [ok] at z
      exact iteT (iteT z)
    · refine ⟨_, rfl, _, _, _, _, true, rfl, .ty "tuple", .base (.tup hA), kit_tt K, true, rfl, ?_⟩
      refine iteF ?_
      refine ⟨_, rfl, _, _, rfl, .inr (tupAt hA), rfl, _, rfl, ?_⟩
      by_cases n : ds.length = 2
      · have nx : xs.length = 2 := by rw [hAll.length]; exact n
        refine iteNS (by rw [nx]; rfl) ?_
        refine ⟨_, rfl, a, rfl, ⟨_, tupAt hA⟩, fun D hD => lc_tup (K := K) (a := a) (xs := xs) (fun i H' => Same H H' ∧ H' D = some (.lst (((ds.map isI).take i).map V.bl))) ⟨Same.upd hD, upd_same⟩ (fun i H' _ ⟨sH, _⟩ => tupAt (sH _ _ hA)) ?_ ?_⟩
        · rintro i y H' hi ⟨sH, hL⟩
          obtain ⟨d1, e1, q1⟩ := hAll.at_ hi
          obtain ⟨t, b1, b2, ty, k1, k2, eb, ef⟩ := ty_int (K := K) (q1.same sH)
          have hp : (ds.map isI)[i]? = some (isI d1) := by rw [List.getElem?_map, e1]; rfl
          have fin : ∃ b, H' D = some (.lst b) ∧ b.length < sizeLine ∧ Same H (L2.upd H' D (.lst (b ++ [V.bl (isI d1)]))) ∧ (L2.upd H' D (.lst (b ++ [V.bl (isI d1)]))) D = some (.lst (((ds.map isI).take (i + 1)).map V.bl)) := by
            refine ⟨_, hL, ?_, Same.put sH hD, ?_⟩
            · rw [List.length_map, List.length_take, List.length_map, n]
              exact Nat.lt_of_le_of_lt (Nat.min_le_right _ _) (by decide)
            · rw [upd_same, take_snoc hp, List.map_append]
              rfl
          refine ⟨rfl, ?_⟩
          refine ⟨_, rfl, _, _, _, _, b1, rfl, .ty "int", ty, k1, b1, rfl, ?_⟩
          cases b1 with
          | false =>
            rw [ef rfl] at fin
            exact iteF fin
          | true =>
            refine iteT ⟨_, rfl, _, _, _, _, b2, rfl, .ty "bool", ty, k2, b2, rfl, ?_⟩
            have eb2 : (!b2) = isI d1 := eb
            rw [eb2]
            exact fin
        · rintro H' ⟨sH, hL⟩
          have et : (ds.map isI).take xs.length = ds.map isI := List.take_of_length_le (by rw [List.length_map, hAll.length]; exact Nat.le_refl _)
          rw [et] at hL
          refine ⟨D, ds.map isI, rfl, SqL.of hL, _, rfl, ?_⟩
          match ds, n, hAll with
          | [d1, d2], _, .cons (v := x1) q1 (.cons (v := x2) q2 .nil) =>
            have z := k H' sH
            rcases isInt d1 with ⟨i, rfl⟩ | n1
            · obtain rfl := int_of q1
              rcases isInt d2 with ⟨j, rfl⟩ | n2
              · obtain rfl := int_of q2
                refine iteF ?_
                refine ⟨_, rfl, a, _, 0, _, rfl, rfl, tupAt (sH _ _ hA), atI_nat (j := 0) rfl, _, _, rfl, rfl, _, rfl, ?_⟩
                have e : okD (.tuple [.int i, .int j]) = okB i j := rfl
                rw [e] at z
                refine ite2 (fun c => ?_) (fun c => ?_)
                · have c1 : 0 ≤ i := of_decide_eq_true c
                  refine ⟨_, rfl, a, _, 1, _, rfl, rfl, tupAt (sH _ _ hA), atI_nat (j := 1) rfl, _, _, rfl, rfl, _, rfl, ?_⟩
                  refine ite2 (fun c => ?_) (fun c => ?_)
                  · have c2 : i < j := of_decide_eq_true c
                    refine ⟨_, _, rfl, rfl, ?_⟩
                    have eb : okB i j = decide (j ≤ 1000000) := by
                      rw [Bool.eq_iff_iff, okB_iff, decide_eq_true_eq]
                      unfold okP
                      dsimp only
                      omega
                    rw [eb] at z
                    exact z
                  · have c2 : ¬ i < j := fun y => c (decide_eq_true y)
                    have eb : okB i j = false := Bool.eq_false_iff.mpr fun y => c2 (okB_iff.mp y).2.1
                    rw [eb] at z
                    exact z
                · have c1 : ¬ 0 ≤ i := fun y => c (decide_eq_true y)
                  have eb : okB i j = false := Bool.eq_false_iff.mpr fun y => c1 (okB_iff.mp y).1
                  rw [eb] at z
                  exact z
              · have eb : ([PyData.int i, d2].map isI).all id = false := by
                  have e2 : isI d2 = false := by
                    cases d2 with
                    | int j => exact absurd rfl (n2 j)
                    | _ => rfl
                  simp [e2]
                rw [eb]
                rw [okD_snd n2] at z
                exact iteT z
            · have eb : ([d1, d2].map isI).all id = false := by
                have e2 : isI d1 = false := by
                  cases d1 with
                  | int j => exact absurd rfl (n1 j)
                  | _ => rfl
                simp [e2]
              rw [eb]
              rw [okD_fst n1] at z
              exact iteT z
      · have nx : xs.length ≠ 2 := by rw [hAll.length]; exact n
        have z := k H (Same.refl H)
        rw [okD_len n] at z
        refine iteNS_not ?_ z
        intro y
        have y2 := V.int.inj y
        omega
end
end Sps
set_option Elab.async false
set_option linter.all false
set_option maxRecDepth 100000
set_option maxHeartbeats 4000000
/-! _law_odd: values of any kind. -/
namespace Sps
open PySem PySem.Spec PyProof.Rows L2
abbrev sOdd : Stmt := top 19
/-- the expression gives this data, from H0 on -/
def La (l : Addr) (σ : L2.St) (H0 : Hp) (te : TE) (d : PyData) : Prop := ∀ (H : Hp) (Q : VK), Same H0 H → (∀ (H' : Hp) (v : V), Same H H' → Dq l H' v d → Q v H') → te σ H Q
def LaA (l : Addr) (σ : L2.St) (H0 : Hp) (t : TA) (ds : List PyData) : Prop := ∀ (H : Hp) (R : List V → Hp → Prop), Same H0 H → (∀ (H' : Hp) (vs : List V), Same H H' → DqAll l H' vs ds → R vs H') → t σ H R
section
variable {l : Addr} {σ : L2.St} {H0 : Hp} {te : TE} {t : TA} {d : PyData} {ds : List PyData}
theorem La.non : La l σ H0 (tC .non) .none := fun H Q _ k => k H _ (Same.refl H) .non
theorem La.bl {b : Bool} : La l σ H0 (tC (.bl b)) (.bool b) := fun H Q _ k => k H _ (Same.refl H) (.bl b)
theorem La.int {i : Int} : La l σ H0 (tC (.int i)) (.int i) := fun H Q _ k => k H _ (Same.refl H) (.int i)
theorem La.str {x : Str} : La l σ H0 (tC (.str x)) (.str x) := fun H Q _ k => k H _ (Same.refl H) (.str x)
theorem La.neg {i : Int} : La l σ H0 (tUn (rU fun i => .int (-i)) (tC (.int i))) (.int (-i)) := fun H Q _ k => ⟨i, rfl, k H _ (Same.refl H) (.int (-i))⟩
theorem La.big : La l σ H0 (tOp (rI CPow fun i j => .int (i ^ j.toNat)) (tC (.int 10)) (tC (.int 30))) (.int (10 ^ 30)) := fun H Q _ k => ⟨10, 30, rfl, rfl, ⟨by decide, by decide, by decide⟩, k H _ (Same.refl H) (.int (10 ^ 30))⟩
theorem La.emp : La l σ H0 tDNewK (.dict []) := fun H Q _ k p hp => k _ _ (Same.upd hp) (.emp upd_same)
theorem La.var {i : Nat} {v : V} (h : σ[i]? = some (some v)) (q : Dq l H0 v d) : La l σ H0 (tVar i) d := fun H Q s k => ⟨v, h, k H _ (Same.refl H) (q.same s)⟩
theorem LaA.nil : LaA l σ H0 tNil [] := fun H R _ k => k H _ (Same.refl H) .nil
theorem LaA.cons (h : La l σ H0 te d) (r : LaA l σ H0 t ds) : LaA l σ H0 (tCons te t) (d :: ds) := fun H R s k =>
  h H _ s fun H1 v s1 q1 => r H1 _ (s.trans s1) fun H2 vs s2 q2 => k H2 _ (s1.trans s2) (.cons (q1.same s2) q2)
theorem La.tup (h : LaA l σ H0 t ds) (z : ds.length ≤ 1000 := by first | decide | (simp only [List.length_cons, List.length_nil]; decide)) : La l σ H0 (tTup t) (.tuple ds) := fun H Q s k =>
  h H _ s fun H1 vs s1 q1 => ⟨by rw [q1.length, sizeLine_eq]; omega, fun p hp => k _ _ (Same.upd' s1 hp) (.tup upd_same (q1.same (Same.upd hp)))⟩
theorem La.lst {o0 : HO} (hl : H0 l = some o0) (h : LaA l σ H0 t ds) (z : ds.length ≤ 1000 := by first | decide | (simp only [List.length_cons, List.length_nil]; decide)) : La l σ H0 (tLst t) (.list ds) := fun H Q s k =>
  h H _ s fun H1 vs s1 q1 => ⟨by rw [q1.length, sizeLine_eq]; omega, fun p hp => k _ _ (Same.upd' s1 hp) (.lst upd_same (fun z => by rw [z, s1 _ _ (s _ _ hl)] at hp; cases hp) (q1.same (Same.upd hp)))⟩
theorem La.dct {i : Nat} {v : V} (h : σ[i]? = some (some v)) (q : Dq l H0 v d) : La l σ H0 (tDisp [(tC (.str "a"), tVar i)]) (.dict [(.str "a", d)]) := fun H Q s k p hp =>
  ⟨v, h, upd_same, [(Sum.inr "a", v)], rfl, (by show 1 ≤ 15; decide), k _ _ (Same.put (Same.upd hp) hp) (.dct upd_same ((q.same s).same (Same.put (Same.upd hp) hp)))⟩
end
def odd0 : List PyData := [.none, .bool true, .bool false, .int 0, .int 1, .int (-1), .int (10 ^ 30), .str "", .str "x", .str "0", .tuple [], .list [], .dict [], .tuple [.int 0], .tuple [.int 0, .int 1], .list [.int 0, .int 1], .tuple [.int 1, .int 0], .tuple [.int 3, .int 3]]
def odd1 : List PyData := [.tuple [.int 0, .bool true], .tuple [.int (-1), .int 2], .tuple [.int 0, .int 1000000], .tuple [.int 0, .int 1000001], .tuple [.int 999999, .int 1000000], .tuple [.tuple [.int 0, .int 1]], .tuple [.int 0, .int 1, .int 2]]
theorem fit_odd : ∀ d ∈ odd0 ++ odd1, fit0 d = true := by decide +kernel
section
variable {P : Program} {w : World} {K : PySem.W.Frag} {mg : Str → Option Value} {base : Heap}
def spOdd : Sp := fun vs H Q _ => ∃ (l : Addr) (n : Int), vs = [.ref l] ∧ PotOk n H l ∧ n ≤ 90000 ∧ ∀ (H' : Hp) (x : V) (d : PyData), SameX l H H' → PotOk (n + 11) H' l → Dq l H' x d → Fit 9 d → Q x H'
theorem scOd : FnScope ["_law_pot_here", "_law_some", "_law_found", "_law_turn"] ["_law_pot_here"] (defScope sOdd) := ⟨rfl, rfl, rfl, by decide +kernel, rfl, by decide +kernel, by decide +kernel⟩
theorem ok_odd {f gA : Addr} {fd fdA : FuncData} (F : Fun K "_law_odd" "_law_odd" sOdd f fd) (T : Names mg)
    (A : FnOk P w K mg base CX0 3 gA fdA ["_law_pot_here", "_law_items"] spAny) (mgA : mg "_law_any" = some (.ref gA)) (kA : PySem.W.keepIn K (.ref gA) = true) (bA : Binds K fdA ["_law_pot_here", "_law_items"] []) :
    FnOk P w K mg base CX0 4 f fd ["_law_pot_here"] spOdd := by
  refine F.ok scOd (fun vs H Q E h => ?_) (fun cdv Ar outer s H vs Q E hr h => ?_)
  · obtain ⟨l, n, rfl, _⟩ := h
    rfl
  · obtain ⟨l, n, rfl, hp, hn, k⟩ := h
    refine ⟨_, pss_cons (ps_set (i := 1) scOd.nd rfl (Or.inl rfl) (pe_lst (pa_cons pe_non (pa_cons pe_bl (pa_cons pe_bl (pa_cons pe_int (pa_cons pe_int (pa_cons (pe_un un_neg pe_int) (pa_cons (pe_op op_pow pe_int pe_int) (pa_cons pe_str (pa_cons pe_str (pa_cons pe_str
        (pa_cons (pe_tup pa_nil) (pa_cons (pe_lst pa_nil) (pa_cons pe_dnewK (pa_cons (pe_tup (pa_cons pe_int pa_nil)) (pa_cons (pe_tup (pa_cons pe_int (pa_cons pe_int pa_nil))) (pa_cons (pe_lst (pa_cons pe_int (pa_cons pe_int pa_nil)))
        (pa_cons (pe_tup (pa_cons pe_int (pa_cons pe_int pa_nil))) (pa_cons (pe_tup (pa_cons pe_int (pa_cons pe_int pa_nil))) pa_nil))))))))))))))))))))
      (pss_cons (ps_set (i := 1) scOd.nd rfl (Or.inl rfl) (pe_op op_cat (pv 1) (pe_lst (pa_cons (pe_tup (pa_cons pe_int (pa_cons pe_bl pa_nil))) (pa_cons (pe_tup (pa_cons (pe_un un_neg pe_int) (pa_cons pe_int pa_nil))) (pa_cons (pe_tup (pa_cons pe_int (pa_cons pe_int pa_nil)))
        (pa_cons (pe_tup (pa_cons pe_int (pa_cons pe_int pa_nil))) (pa_cons (pe_tup (pa_cons pe_int (pa_cons pe_int pa_nil))) (pa_cons (pe_tup (pa_cons (pe_tup (pa_cons pe_int (pa_cons pe_int pa_nil))) pa_nil)) (pa_cons (pe_tup (pa_cons pe_int (pa_cons pe_int (pa_cons pe_int pa_nil)))) pa_nil))))))))))
      (pss_cons (ps_set (i := 2) scOd.nd rfl (Or.inl rfl) (pe_call A hr rfl mgA kA bA .nil pass0 (pa_cons (pv 0) (pa_cons (pv 1) pa_nil))))
      (pss_cons (ps_for PassesOwn.never rfl (pi_range1 rfl T.range (pa_cons (pe_call A hr rfl mgA kA bA .nil pass0 (pa_cons (pv 0) (pa_cons (pe_lst (pa_cons pe_int (pa_cons pe_int (pa_cons pe_int (pa_cons pe_int (pa_cons pe_int (pa_cons pe_int pa_nil))))))) pa_nil))) pa_nil)) (pg_name (i := 3) scOd.nd rfl (Or.inl rfl))
        (pss_one (ps_set (i := 2) scOd.nd rfl (Or.inl rfl) (pe_call A hr rfl mgA kA bA .nil pass0 (pa_cons (pv 0) (pa_cons (pe_lst (pa_cons (pe_tup (pa_cons (pv 2) pa_nil)) (pa_cons (pe_lst (pa_cons (pv 2) pa_nil)) (pa_cons (pe_disp (pps_cons pe_str (pv 2) pps_nil) rfl rfl (by simp) (by decide))
          (pa_cons (pe_tup (pa_cons (pv 2) (pa_cons (pv 2) pa_nil))) (pa_cons (pe_tup (pa_cons pe_int (pa_cons (pv 2) pa_nil))) pa_nil)))))) pa_nil))))))
      (pss_one (ps_ret (pv 2)))))), ?_⟩
    obtain ⟨ys, hl⟩ := hp.at_
    refine seq_set ((La.lst (ds := odd0) hl (LaA.cons .non (LaA.cons .bl (LaA.cons .bl (LaA.cons .int (LaA.cons .int (LaA.cons .neg (LaA.cons .big (LaA.cons .str (LaA.cons .str (LaA.cons .str (LaA.cons (.tup .nil) (LaA.cons (.lst hl .nil) (LaA.cons .emp
      (LaA.cons (.tup (.cons .int .nil)) (LaA.cons (.tup (.cons .int (.cons .int .nil))) (LaA.cons (.lst hl (.cons .int (.cons .int .nil))) (LaA.cons (.tup (.cons .int (.cons .int .nil))) (LaA.cons (.tup (.cons .int (.cons .int .nil))) .nil)))))))))))))))))))
      H _ (Same.refl H) fun H1 v1 s1 q1 => ?_)
    cases q1 with
    | @lst a0 xs0 _ h0 n0 r0 =>
    refine seq_set ⟨_, rfl, (La.lst (ds := odd1) hl (LaA.cons (.tup (.cons .int (.cons .bl .nil))) (LaA.cons (.tup (.cons .neg (.cons .int .nil))) (LaA.cons (.tup (.cons .int (.cons .int .nil))) (LaA.cons (.tup (.cons .int (.cons .int .nil))) (LaA.cons (.tup (.cons .int (.cons .int .nil)))
      (LaA.cons (.tup (.cons (.tup (.cons .int (.cons .int .nil))) .nil)) (LaA.cons (.tup (.cons .int (.cons .int (.cons .int .nil)))) .nil)))))))) H1 _ s1 fun H2 v2 s2 q2 => ?_⟩
    cases q2 with
    | @lst b0 ys0 _ h2 n2 r2 =>
    have l0 := r0.length
    have l2 := r2.length
    have e0 : odd0.length = 18 := rfl
    have e1 : odd1.length = 7 := rfl
    refine ⟨a0, b0, xs0, ys0, rfl, rfl, s2 _ _ h0, h2, by rw [sizeLine_eq]; omega, fun p hpn => ?_⟩
    have s3 : Same H (L2.upd H2 p (.lst (xs0 ++ ys0))) := (s1.trans s2).trans (Same.upd hpn)
    have hp3 := hp.same s3
    have pl : p ≠ l := (hp.same (s1.trans s2)).ne hpn
    have hAll : DqAll l (L2.upd H2 p (.lst (xs0 ++ ys0))) (xs0 ++ ys0) (odd0 ++ odd1) := ((r0.same s2).app r2).same (Same.upd hpn)
    have hlen : (xs0 ++ ys0).length = 25 := by rw [List.length_append]; omega
    refine seq_set ⟨_, rfl, _, rfl, l, p, xs0 ++ ys0, n, rfl, hp3, by omega, pl, upd_same, by omega, by omega, fun H4 x sx4 hp4 hx => ?_⟩
    obtain ⟨d, md, qd⟩ := hAll.mem hx
    have fd0 : Fit 0 d := Fit.zero (fit_odd d md)
    have hl3 := s3 _ _ hl
    have qd4 := qd.x hl3 sx4
    have sA : SameX l H H4 := (Same.x s3 l).trans sx4
    refine ⟨_, rfl, (by show 6 ≤ sizeLine; decide), fun c hcn => ?_⟩
    have cl := hp4.ne hcn
    refine ⟨l, c, _, n + 1, rfl, hp4.put cl, by omega, cl, upd_same, by decide, by decide, fun H5 y sx5 hp5 hy => ?_⟩
    obtain ⟨r, rfl, r0', r1'⟩ : ∃ r : Int, y = V.int r ∧ 0 ≤ r ∧ r ≤ 9 := by
      rcases List.mem_cons.mp hy with e | hy
      · exact ⟨0, e, by decide, by decide⟩
      rcases List.mem_cons.mp hy with e | hy
      · exact ⟨0, e, by decide, by decide⟩
      rcases List.mem_cons.mp hy with e | hy
      · exact ⟨0, e, by decide, by decide⟩
      rcases List.mem_cons.mp hy with e | hy
      · exact ⟨1, e, by decide, by decide⟩
      rcases List.mem_cons.mp hy with e | hy
      · exact ⟨2, e, by decide, by decide⟩
      rcases List.mem_cons.mp hy with e | hy
      · exact ⟨9, e, by decide, by decide⟩
      cases hy
    have sB : SameX l H H5 := (sA.upd' hcn).trans sx5
    obtain ⟨zs, hl4⟩ := hp4.at_
    have qd5 : Dq l H5 x d := (qd4.same (Same.upd hcn)).x ((Same.upd hcn) _ _ hl4) sx5
    refine ⟨r, rfl, by omega, by omega, for_range (lo := 0) (n := r.toNat) (fun i σ H' => ∃ (v1 : V) (x : V) (v3 : Option V) (d : PyData), σ = [some (.ref l), some v1, some x, v3] ∧ SameX l H H' ∧ PotOk (n + 2 + i) H' l ∧ Dq l H' x d ∧ Fit i d)
      ⟨_, x, none, d, rfl, sB, hp5.mono (by omega), qd5, fd0⟩ ?_ ?_⟩
    · rintro i σ H' hi ⟨v1, x, v3, d, rfl, sx, hp', qx, fx⟩
      have i9 : (i : Int) < 9 := by omega
      obtain ⟨ws, hl'⟩ := hp'.at_
      refine ⟨_, rfl, (La.lst hl' (LaA.cons (.tup (.cons (.var rfl qx) .nil)) (LaA.cons (.lst hl' (.cons (.var rfl qx) .nil)) (LaA.cons (.dct rfl qx) (LaA.cons (.tup (.cons (.var rfl qx) (.cons (.var rfl qx) .nil))) (LaA.cons (.tup (.cons .int (.cons (.var rfl qx) .nil))) .nil)))))) H' _ (Same.refl H') fun H6 v6 s6 q6 => ?_⟩
      cases q6 with
      | @lst a6 xs6 _ h6 n6 r6 =>
      have l6 := r6.length
      refine ⟨l, a6, xs6, _, rfl, hp'.same s6, by omega, n6, h6, by rw [l6]; show 0 < 5; decide, by rw [l6]; show 5 < 1000; decide, fun H7 y sx7 hp7 hy => ?_⟩
      obtain ⟨d7, md, q7⟩ := r6.mem hy
      have f7 : Fit (i + 1) d7 := by
        rcases List.mem_cons.mp md with e | md
        · rw [e]; exact fx.tup1
        rcases List.mem_cons.mp md with e | md
        · rw [e]; exact fx.lst1
        rcases List.mem_cons.mp md with e | md
        · rw [e]; exact fx.dct
        rcases List.mem_cons.mp md with e | md
        · rw [e]; exact fx.dup
        rcases List.mem_cons.mp md with e | md
        · rw [e]; exact fx.one
        cases md
      exact ⟨_, y, _, d7, rfl, (sx.trans (Same.x s6 l)).trans sx7, hp7.mono (by push_cast; omega), q7.x (s6 _ _ hl') sx7, f7⟩
    · rintro σ H' ⟨v1, x, v3, d, rfl, sx, hp', qx, fx⟩
      exact ⟨_, rfl, k H' x d sx (hp'.mono (by omega)) qx (fx.up (by omega))⟩
end
end Sps
set_option Elab.async false
set_option linter.all false
set_option maxRecDepth 100000
set_option maxHeartbeats 4000000
/-! Spans is asked for with any values; what it answers. -/
namespace Sps
open PySem PySem.Spec PyProof.Rows L2
abbrev sMade : Stmt := top 21
abbrev sMet : Stmt := top 22
theorem ite_t {c A B : Prop} [Decidable c] (hc : c) (h : A) : if decide c = true then A else B := by
  rw [decide_eq_true hc]
  exact iteT h
theorem ite_f {c A B : Prop} [Decidable c] (hc : ¬ c) (h : B) : if decide c = true then A else B := by
  rw [decide_eq_false hc]
  exact iteF h
section
variable {P : Program} {w : World} {K : PySem.W.Frag} {mg : Str → Option Value} {base : Heap}
/-- both outcomes of a making -/
structure Outs (C CB : Addr) (H : Hp) (xs : List V) (ds : List PyData) (Q : VK) (E : XK) : Prop where
  good : ∀ ts : List TP, xs = ts.map rf → TPs H ts → (∀ q ∈ prs ts, okP q) → ∀ (H' : Hp) (v : V), Same H H' → IsSp C (fun y => inS y (prs ts)) v H' → Q v H'
  bad : ds.all okD = false → ∀ (H' : Hp) (d p : Addr), Same H H' → H' d = some (.xd [("value", .ref p)]) → H' p = some (.tup xs) → E (.ref CB) (some d) H'
theorem Outs.go {C CB : Addr} {H H1 : Hp} {l : Addr} {xs : List V} {ds : List PyData} {Q : VK} {E : XK} (h : Outs C CB H xs ds Q E) (hD : DqAll l H xs ds) (s : Same H H1) : Outs C CB H1 xs ds Q E :=
  ⟨fun ts ex hT hok H' v s' hv => by
    have ex' := ex
    subst ex'
    refine h.good ts rfl (fun t m => ?_) hok H' v (s.trans s') hv
    obtain ⟨d, _, q⟩ := hD.mem (List.mem_map.mpr ⟨t, m, rfl⟩)
    have e1 := hT t m
    have key : ∀ o, H t.1 = some o → H t.1 = some (.tup [.int t.2.1, .int t.2.2]) := fun o e => by
      have e2 := s _ _ e
      rw [e1] at e2
      cases e2
      exact e
    cases q with
    | lst h _ _ => exact key _ h
    | tup h _ => exact key _ h
    | emp h => exact key _ h
    | dct h _ => exact key _ h,
  fun hb H' d p s' => h.bad hb H' d p (s.trans s')⟩
theorem made_read {C CB l : Addr} {H : Hp} {xs : List V} {ds : List PyData} {Q : VK} {E : XK} (hD : DqAll l H xs ds) (hl : xs.length ≤ 1000) (o : Outs C CB H xs ds Q E) :
    ∀ x dx, H x = Option.none → H dx = Option.none → dx ≠ x → spNewX C CB (V.ref x :: xs) (L2.upd (L2.upd H dx (.own x)) x (.ins C dx [])) (fun v H2 => v = .non ∧ Q (.ref x) H2) E := by
  intro x dx nx ndx ne
  have s0 : Same H (L2.upd (L2.upd H dx (.own x)) x (.ins C dx [])) := Same.put (Same.upd ndx) nx
  have o2 := o.go hD s0
  refine ⟨l, x, dx, xs, ds, rfl, upd_same, hD.same s0, hl, fun ts ex hT hok H' ms sx hs nm hin => ⟨rfl, ?_⟩, fun hb H' d p s' h1 h2 => o2.bad hb H' d p s' h1 h2⟩
  have hT0 : TPs H ts := by
    subst ex
    intro t m
    obtain ⟨d, _, q⟩ := hD.mem (List.mem_map.mpr ⟨t, m, rfl⟩)
    have e1 := hT t m
    have key : ∀ o, H t.1 = some o → H t.1 = some (.tup [.int t.2.1, .int t.2.2]) := fun o e => by
      have e2 := s0 _ _ e
      rw [e1] at e2
      cases e2
      exact e
    cases q with
    | lst h _ _ => exact key _ h
    | tup h _ => exact key _ h
    | emp h => exact key _ h
    | dct h _ => exact key _ h
  refine o.good ts ex hT0 hok H' _ (fun b u e => ?_) ⟨x, ms, rfl, hs, nm, hin⟩
  exact sx b u (ne_of_none e nx) (s0 b u e)
def spMade (C CB : Addr) : Sp := fun vs H Q E => ∃ (l a : Addr) (xs : List V) (ds : List PyData), vs = [.ref a] ∧ H a = some (.lst xs) ∧ DqAll l H xs ds ∧ xs.length ≤ 6 ∧ Outs C CB H xs ds Q E
theorem scMa : FnScope ["_law_some"] ["_law_some"] (defScope sMade) := ⟨rfl, rfl, rfl, by decide +kernel, rfl, by decide +kernel, by decide +kernel⟩
theorem ok_made {f C CB fI : Addr} {fd : FuncData} (F : Fun K "_law_made" "_law_made" sMade f fd) (T : Names mg) (S : SpCls K mg C) (M : Mk K C fI) (I : FnR P w K mg base (L2.CX P w) 4 fI (spNewX C CB)) : FnOk P w K mg base (L2.CX P w) 6 f fd ["_law_some"] (spMade C CB) := by
  refine F.okX scMa (fun vs H Q E h => ?_) (fun cdv A outer s H vs Q E hr h => ?_)
  · obtain ⟨_, _, _, _, rfl, _⟩ := h
    rfl
  · obtain ⟨l, a, xs, ds, rfl, hA, hD, hlen, o⟩ := h
    have hu : _ := hr.units
    refine ⟨_, pss_cons (ps_if (pt_cmpR op_lt (pe_callB call_len_seq (by rfl) T.len PySem.boot_len (pa_cons (pv 0) pa_nil)) pe_int (nomark _))
        (pss_one (ps_ret (pe_ifExp (pt_cmpR (op_eqNil hu) (pv 0) (pe_lst pa_nil) (nomark _)) (pe_makeR0 M I hr rfl S.mgC (passes_call (takes_of rfl rfl rfl rfl) fun _ _ _ _ h => h))
          (pe_ifExp (pt_cmpR op_eq (pe_callB call_len_seq (by rfl) T.len PySem.boot_len (pa_cons (pv 0) pa_nil)) pe_int (nomark _))
            (StX.pe_makeR M I hr rfl S.mgC (passes_call (takes_of rfl rfl rfl rfl) fun _ _ _ _ h => h) (pa_cons (pe_ix ix_list (pv 0) pe_int (fun _ _ => rfl)) pa_nil))
            (StX.pe_makeR M I hr rfl S.mgC (passes_call (takes_of rfl rfl rfl rfl) fun _ _ _ _ h => h) (pa_cons (pe_ix ix_list (pv 0) pe_int (fun _ _ => rfl)) (pa_cons (pe_ix ix_list (pv 0) pe_int (fun _ _ => rfl)) pa_nil))))))) pss_nil)
      (pss_cons (ps_if (pt_cmpR op_lt (pe_callB call_len_seq (by rfl) T.len PySem.boot_len (pa_cons (pv 0) pa_nil)) pe_int (nomark _))
        (pss_one (ps_ret (pe_ifExp (pt_cmpR op_eq (pe_callB call_len_seq (by rfl) T.len PySem.boot_len (pa_cons (pv 0) pa_nil)) pe_int (nomark _))
            (StX.pe_makeR M I hr rfl S.mgC (passes_call (takes_of rfl rfl rfl rfl) fun _ _ _ _ h => h) (pa_cons (pe_ix ix_list (pv 0) pe_int (fun _ _ => rfl)) (pa_cons (pe_ix ix_list (pv 0) pe_int (fun _ _ => rfl)) (pa_cons (pe_ix ix_list (pv 0) pe_int (fun _ _ => rfl)) pa_nil))))
            (StX.pe_makeR M I hr rfl S.mgC (passes_call (takes_of rfl rfl rfl rfl) fun _ _ _ _ h => h) (pa_cons (pe_ix ix_list (pv 0) pe_int (fun _ _ => rfl)) (pa_cons (pe_ix ix_list (pv 0) pe_int (fun _ _ => rfl)) (pa_cons (pe_ix ix_list (pv 0) pe_int (fun _ _ => rfl)) (pa_cons (pe_ix ix_list (pv 0) pe_int (fun _ _ => rfl)) pa_nil)))))))) pss_nil)
      (pss_cons (ps_if (pt_cmpR op_eq (pe_callB call_len_seq (by rfl) T.len PySem.boot_len (pa_cons (pv 0) pa_nil)) pe_int (nomark _))
        (pss_one (ps_ret (StX.pe_makeR M I hr rfl S.mgC (passes_call (takes_of rfl rfl rfl rfl) fun _ _ _ _ h => h) (pa_cons (pe_ix ix_list (pv 0) pe_int (fun _ _ => rfl)) (pa_cons (pe_ix ix_list (pv 0) pe_int (fun _ _ => rfl)) (pa_cons (pe_ix ix_list (pv 0) pe_int (fun _ _ => rfl)) (pa_cons (pe_ix ix_list (pv 0) pe_int (fun _ _ => rfl)) (pa_cons (pe_ix ix_list (pv 0) pe_int (fun _ _ => rfl)) pa_nil)))))))) pss_nil)
      (pss_one (ps_ret (StX.pe_makeR M I hr rfl S.mgC (passes_call (takes_of rfl rfl rfl rfl) fun _ _ _ _ h => h) (pa_cons (pe_ix ix_list (pv 0) pe_int (fun _ _ => rfl)) (pa_cons (pe_ix ix_list (pv 0) pe_int (fun _ _ => rfl)) (pa_cons (pe_ix ix_list (pv 0) pe_int (fun _ _ => rfl)) (pa_cons (pe_ix ix_list (pv 0) pe_int (fun _ _ => rfl)) (pa_cons (pe_ix ix_list (pv 0) pe_int (fun _ _ => rfl)) (pa_cons (pe_ix ix_list (pv 0) pe_int (fun _ _ => rfl)) pa_nil))))))))))), ?_⟩
    have qA : SqL K H a xs := SqL.of hA
    have nil_ : ∀ n : Addr, H n = none → Same H (L2.upd H n (.lst [])) := fun n hn => Same.upd hn
    match xs, hlen with
    | [], _ =>
      refine ⟨_, rfl, a, [], rfl, .inl qA, _, _, rfl, rfl, _, rfl, ite_t (by show (0 : Int) < 3; decide) ?_⟩
      refine ⟨_, rfl, Nat.zero_le _, fun n hn => ?_⟩
      have s1 := nil_ n hn
      refine ⟨a, n, [], rfl, rfl, s1 _ _ hA, upd_same, _, rfl, iteT ?_⟩
      exact made_read (hD.same s1) (by simp only [List.length_cons, List.length_nil]; omega) (o.go hD s1)
    | [x0], _ =>
      refine ⟨_, rfl, a, [x0], rfl, .inl qA, _, _, rfl, rfl, _, rfl, ite_t (by show (1 : Int) < 3; decide) ?_⟩
      refine ⟨_, rfl, Nat.zero_le _, fun n hn => ?_⟩
      have s1 := nil_ n hn
      have q1 : SqL K (L2.upd H n (.lst [])) a [x0] := SqL.of (s1 _ _ hA)
      refine ⟨a, n, [x0], rfl, rfl, s1 _ _ hA, upd_same, _, rfl, iteF ?_⟩
      refine ⟨_, rfl, a, [x0], rfl, .inl q1, rfl, _, rfl, ite_t rfl ?_⟩
      refine ⟨_, rfl, a, _, 0, _, rfl, rfl, q1, atI_nat (j := 0) rfl, ?_⟩
      exact made_read (hD.same s1) (by simp only [List.length_cons, List.length_nil]; omega) (o.go hD s1)
    | [x0, x1], _ =>
      refine ⟨_, rfl, a, [x0, x1], rfl, .inl qA, _, _, rfl, rfl, _, rfl, ite_t (by show (2 : Int) < 3; decide) ?_⟩
      refine ⟨_, rfl, Nat.zero_le _, fun n hn => ?_⟩
      have s1 := nil_ n hn
      have q1 : SqL K (L2.upd H n (.lst [])) a [x0, x1] := SqL.of (s1 _ _ hA)
      refine ⟨a, n, [x0, x1], rfl, rfl, s1 _ _ hA, upd_same, _, rfl, iteF ?_⟩
      refine ⟨_, rfl, a, [x0, x1], rfl, .inl q1, rfl, _, rfl, ite_f (fun z => absurd (V.int.inj z) (by show ¬ ((2:Int) = 1); decide)) ?_⟩
      refine ⟨_, rfl, a, _, 0, _, rfl, rfl, q1, atI_nat (j := 0) rfl, _, rfl, a, _, 1, _, rfl, rfl, q1, atI_nat (j := 1) rfl, ?_⟩
      exact made_read (hD.same s1) (by simp only [List.length_cons, List.length_nil]; omega) (o.go hD s1)
    | [x0, x1, x2], _ =>
      refine ⟨_, rfl, a, _, rfl, .inl qA, _, _, rfl, rfl, _, rfl, ite_f (by show ¬ (3 : Int) < 3; decide) ?_⟩
      refine ⟨_, rfl, a, _, rfl, .inl qA, _, _, rfl, rfl, _, rfl, ite_t (by show (3 : Int) < 5; decide) ?_⟩
      refine ⟨_, rfl, a, _, rfl, .inl qA, rfl, _, rfl, ite_t rfl ?_⟩
      refine ⟨_, rfl, a, _, 0, _, rfl, rfl, qA, atI_nat (j := 0) rfl, _, rfl, a, _, 1, _, rfl, rfl, qA, atI_nat (j := 1) rfl, _, rfl, a, _, 2, _, rfl, rfl, qA, atI_nat (j := 2) rfl, ?_⟩
      exact made_read hD (by simp only [List.length_cons, List.length_nil]; omega) o
    | [x0, x1, x2, x3], _ =>
      refine ⟨_, rfl, a, _, rfl, .inl qA, _, _, rfl, rfl, _, rfl, ite_f (by show ¬ (4 : Int) < 3; decide) ?_⟩
      refine ⟨_, rfl, a, _, rfl, .inl qA, _, _, rfl, rfl, _, rfl, ite_t (by show (4 : Int) < 5; decide) ?_⟩
      refine ⟨_, rfl, a, _, rfl, .inl qA, rfl, _, rfl, ite_f (fun z => absurd (V.int.inj z) (by show ¬ ((4:Int) = 3); decide)) ?_⟩
      refine ⟨_, rfl, a, _, 0, _, rfl, rfl, qA, atI_nat (j := 0) rfl, _, rfl, a, _, 1, _, rfl, rfl, qA, atI_nat (j := 1) rfl, _, rfl, a, _, 2, _, rfl, rfl, qA, atI_nat (j := 2) rfl, _, rfl, a, _, 3, _, rfl, rfl, qA, atI_nat (j := 3) rfl, ?_⟩
      exact made_read hD (by simp only [List.length_cons, List.length_nil]; omega) o
    | [x0, x1, x2, x3, x4], _ =>
      refine ⟨_, rfl, a, _, rfl, .inl qA, _, _, rfl, rfl, _, rfl, ite_f (by show ¬ (5 : Int) < 3; decide) ?_⟩
      refine ⟨_, rfl, a, _, rfl, .inl qA, _, _, rfl, rfl, _, rfl, ite_f (by show ¬ (5 : Int) < 5; decide) ?_⟩
      refine ⟨_, rfl, a, _, rfl, .inl qA, rfl, _, rfl, ite_t rfl ?_⟩
      refine ⟨_, rfl, a, _, 0, _, rfl, rfl, qA, atI_nat (j := 0) rfl, _, rfl, a, _, 1, _, rfl, rfl, qA, atI_nat (j := 1) rfl, _, rfl, a, _, 2, _, rfl, rfl, qA, atI_nat (j := 2) rfl, _, rfl, a, _, 3, _, rfl, rfl, qA, atI_nat (j := 3) rfl, _, rfl, a, _, 4, _, rfl, rfl, qA, atI_nat (j := 4) rfl, ?_⟩
      exact made_read hD (by simp only [List.length_cons, List.length_nil]; omega) o
    | [x0, x1, x2, x3, x4, x5], _ =>
      refine ⟨_, rfl, a, _, rfl, .inl qA, _, _, rfl, rfl, _, rfl, ite_f (by show ¬ (6 : Int) < 3; decide) ?_⟩
      refine ⟨_, rfl, a, _, rfl, .inl qA, _, _, rfl, rfl, _, rfl, ite_f (by show ¬ (6 : Int) < 5; decide) ?_⟩
      refine ⟨_, rfl, a, _, rfl, .inl qA, rfl, _, rfl, ite_f (fun z => absurd (V.int.inj z) (by show ¬ ((6:Int) = 5); decide)) ?_⟩
      refine ⟨_, rfl, a, _, 0, _, rfl, rfl, qA, atI_nat (j := 0) rfl, _, rfl, a, _, 1, _, rfl, rfl, qA, atI_nat (j := 1) rfl, _, rfl, a, _, 2, _, rfl, rfl, qA, atI_nat (j := 2) rfl, _, rfl, a, _, 3, _, rfl, rfl, qA, atI_nat (j := 3) rfl, _, rfl, a, _, 4, _, rfl, rfl, qA, atI_nat (j := 4) rfl, _, rfl, a, _, 5, _, rfl, rfl, qA, atI_nat (j := 5) rfl, ?_⟩
      exact made_read hD (by simp only [List.length_cons, List.length_nil]; omega) o
    | _ :: _ :: _ :: _ :: _ :: _ :: _ :: _, h => exact absurd h (by simp only [List.length_cons]; omega)
end
end Sps
set_option Elab.async false
set_option linter.all false
set_option maxRecDepth 100000
set_option maxHeartbeats 4000000
/-! _law_met: told or bad. -/
namespace Sps
open PySem PySem.Spec PyProof.Rows L2
section
variable {P : Program} {w : World} {K : PySem.W.Frag} {mg : Str → Option Value} {base : Heap}
/-- further names and what the error's class answers -/
structure MetC (K : PySem.W.Frag) (mg : Str → Option Value) (CB CK : Addr) : Prop where
  repr : mg "repr" = none
  ve : mg "ValueError" = none
  mgB : mg "BadSpans" = some (.ref CB)
  mgK : mg "KeeperError" = some (.ref CK)
  exm : PySem.W.exmOne K (.ref CB) (.ref CK) = some true
  ec : ExcC K CB
  xf : XfC K CB
  noV : PySem.W.findIn K (.ref CB) "value" = some none
  kBB : PySem.W.kitOne K (.ref CB) (.ref CB) = some true
  kBV : PySem.W.kitOne K (.ref CB) (.type "ValueError") = some true
def spMet (C : Addr) : Sp := fun vs H Q _ => ∃ (l a : Addr) (xs : List V) (ds : List PyData) (ys : List V), vs = [.ref a] ∧ H a = some (.lst xs) ∧ H l = some (.lst ys) ∧ DqAll l H xs ds ∧ xs.length ≤ 6 ∧ (∀ d ∈ ds, Fit 9 d) ∧
  (∀ ts : List TP, xs = ts.map rf → TPs H ts → (∀ q ∈ prs ts, okP q) → ∀ (H' : Hp) (v : V) (p : Addr), Same H H' → IsSp C (fun y => inS y (prs ts)) v H' → H' p = some (.tup [.str "told", v]) → Q (.ref p) H') ∧
  (ds.all okD = false → ∀ (H' : Hp) (p : Addr), Same H H' → H' p = some (.tup [.str "bad", .str (PyData.tuple ds).shown]) → Q (.ref p) H')
theorem scMt : FnScope ["_law_some", "_law_caught", "_law_told", "error", "_law_is_due"] ["_law_some"] (defScope sMet) := ⟨rfl, rfl, rfl, by decide +kernel, rfl, by decide +kernel, by decide +kernel⟩
theorem ok_met {f g C CB CK : Addr} {fd fdG : FuncData} (F : Fun K "_law_met" "_law_met" sMet f fd) (T : Names mg) (Z : MetC K mg CB CK) (hB : ∃ o, base.get? sysModules = some o)
    (G : FnOk P w K mg base (L2.CX P w) 6 g fdG ["_law_some"] (spMade C CB)) (mgG : mg "_law_made" = some (.ref g)) (kG : PySem.W.keepIn K (.ref g) = true) (bG : Binds K fdG ["_law_some"] []) :
    FnG P w K mg base 7 f fd ["_law_some"] (spMet C) := by
  refine fnG_of F scMt (fun vs H Q E h => ?_) (fun cdv A outer s H vs Q E hr hgd h => ?_)
  · obtain ⟨_, _, _, _, _, rfl, _⟩ := h
    rfl
  · obtain ⟨l, a, xs, ds, ys, rfl, hA, hl, hD, hlen, hfit, good, bad⟩ := h
    refine ⟨_, pss_cons (ps_asg (pe_tup (pa_cons pe_non (pa_cons pe_non pa_nil))) (pg_tup rfl (pgs_cons (pg_name (i := 1) scMt.nd rfl (Or.inl rfl)) (pgs_cons (pg_name (i := 2) scMt.nd rfl (Or.inl rfl)) pgs_nil))))
      (pss_cons (ps_try_keep (i := 3) (c := .ref CK) (Wout := fun _ _ _ _ => False) rfl rfl rfl scMt.nd rfl rfl ⟨rfl, by decide, .inl Z.mgK⟩ takes0
          (fun W pn xe tk _ => pss_one (ps_set (i := 2) scMt.nd rfl (Or.inl rfl) (pe_callS G hr rfl mgG kG bG (fun σ => passAt tk σ) (pa_cons (pv 0) pa_nil))))
          (fun a oe cls d pn hz hf => pss_one (ps_set (i := 1) scMt.nd rfl (Or.inl rfl) (pv 3))))
      (pss_cons (ps_if (pt_cmpR op_isN (pv 1) pe_non (nomark _)) (pss_one (ps_ret (pe_tup (pa_cons pe_str (pa_cons (pv 2) pa_nil))))) pss_nil)
      (pss_cons (ps_set (i := 4) scMt.nd rfl (Or.inl rfl) (pe_and (pe_callB (call_isK) (by rfl) T.isinstance (by decide +kernel) (pa_cons (pv 1) (pa_cons (pe_glob (v := .ref CB) rfl Z.mgB rfl) pa_nil)))
          (pe_one (pe_callB (call_isK) (by rfl) T.isinstance (by decide +kernel) (pa_cons (pv 1) (pa_cons (pe_bltn (v := .ty "ValueError") (by rfl) Z.ve (by decide +kernel) rfl) pa_nil))))))
      (pss_one (ps_ret (pe_ifExp (pt_val (pv 4)) (pe_tup (pa_cons pe_str (pa_cons (pe_callB (call_reprD (l := l) hgd hr.units hB) (by rfl) Z.repr (by decide +kernel) (pa_cons (pe_xk (pv 1)) pa_nil)) pa_nil))) (pe_tup (pa_cons pe_str (pa_cons pe_non pa_nil))))))))), ?_⟩
    refine ⟨by show 2 ≤ sizeLine; decide, fun p0 hp0 => ?_⟩
    have s0 : Same H (L2.upd H p0 (.tup [.non, .non])) := Same.upd hp0
    refine ⟨p0, _, rfl, tupAt upd_same, rfl, _, _, rfl, _, _, rfl, rfl, ?_⟩
    have o : Outs C CB H xs ds (fun v H1 => Same H H1 ∧ ∃ ts : List TP, xs = ts.map rf ∧ TPs H ts ∧ (∀ q ∈ prs ts, okP q) ∧ IsSp C (fun y => inS y (prs ts)) v H1) (fun cls d H1 => Same H H1 ∧ cls = .ref CB ∧ ds.all okD = false ∧ ∃ dd p, d = some dd ∧ H1 dd = some (.xd [("value", .ref p)]) ∧ H1 p = some (.tup xs)) :=
      ⟨fun ts ex hT hok H' v s' hv => ⟨s', ts, ex, hT, hok, hv⟩, fun hb H' d p s' h1 h2 => ⟨s', rfl, hb, d, p, rfl, h1, h2⟩⟩
    have o0 := o.go hD s0
    refine ⟨_, rfl, l, a, xs, ds, rfl, s0 _ _ hA, hD.same s0, hlen, ⟨fun ts ex hT hok H1 v s1 hv => ?_, fun hb H1 d p s1 hd hp => ?_⟩⟩
    · obtain ⟨s1, ts, ex, hT, hok, hv⟩ := o0.good ts ex hT hok H1 v s1 hv
      refine ⟨_, rfl, rfl, _, rfl, ite_t rfl ?_⟩
      refine ⟨_, rfl, (by show 2 ≤ sizeLine; decide), fun p hp => ?_⟩
      exact good ts ex hT hok _ v p (Same.upd' s1 hp) (hv.same (Same.upd hp)) upd_same
    · replace s1 := s0.trans s1
      refine ⟨true, Z.exm, fun _ e he => ?_, fun z => by cases z⟩
      refine ⟨_, rfl, fun he2 => ?_⟩
      have ed : d ≠ e := ne_of_none hd he
      have ep : p ≠ e := ne_of_none hp he
      have s2 : Same H1 (L2.upd H1 e (exk e (.ref CB) (some d))) := Same.upd he
      refine ⟨_, rfl, rfl, _, rfl, ite_f (by intro z; cases z) ?_⟩
      refine ⟨_, rfl, e, CB, d, d, _, .ref CB, .ref CB, true, rfl, Z.ec, upd_same, s2 _ _ hd, fun u hu => hu, Z.kBB, rfl, true, rfl, iteT ?_⟩
      refine ⟨_, rfl, e, CB, d, d, _, .ty "ValueError", .type "ValueError", true, rfl, Z.ec, upd_same, s2 _ _ hd, fun u hu => hu, Z.kBV, rfl, ?_⟩
      refine ⟨_, rfl, true, rfl, iteT ?_⟩
      have hq : Dq l (L2.upd H1 e (exk e (.ref CB) (some d))) (.ref p) (.tuple ds) := .tup (s2 _ _ hp) ((hD.same s1).same s2)
      refine ⟨_, rfl, e, CB, d, _, .ref p, rfl, Z.xf, Z.noV, upd_same, s2 _ _ hd, (by rw [List.lookup_cons, beq_self_eq_true]), p, .tuple ds, rfl, hq, Shw.tuple hfit (by rw [← hD.length]; omega), ?_⟩
      refine ⟨(by show 2 ≤ sizeLine; decide), fun t ht => ?_⟩
      exact bad hb _ t (Same.upd' (s1.trans s2) ht) upd_same
end
end Sps
set_option Elab.async false
set_option linter.all false
set_option maxRecDepth 100000
set_option maxHeartbeats 4000000
/-! _law_is_right. -/
namespace Sps
open PySem PySem.Spec PyProof.Rows L2
abbrev sIsRight : Stmt := top 23
theorem tCons_eq {ta : TE} {tr : TA} {σ : L2.St} {H : Hp} {Q : List V → Hp → Prop} : tCons ta tr σ H Q = ta σ H fun x H1 => tr σ H1 fun xs H2 => Q (x :: xs) H2 := rfl
theorem num_list : ∀ {ks : List Int}, ks.Nodup → (∀ x ∈ ks, 0 ≤ x ∧ x < 1000000) → num (fun y => y ∈ ks) = ks.length
  | [], _, _ => by
    have e := num_size (ms := []) (S := fun y => y ∈ ([] : List Int)) Norm.nil (fun y => ⟨fun h => (inS_nil h).elim, fun h => by cases h⟩)
    rw [← e]
    rfl
  | k :: ks, hn, hr => by
    have h1 := List.nodup_cons.mp hn
    have ih := num_list h1.2 fun x m => hr x (List.mem_cons_of_mem _ m)
    have hk := hr k List.mem_cons_self
    have e1 : num (fun y => y ∈ k :: ks) = num (fun y => y = k ∨ y ∈ ks) := num_iff fun y => List.mem_cons
    have e2 := num_or_and (fun y => y = k) (fun y => y ∈ ks)
    have e3 : num (fun y => y = k ∧ y ∈ ks) = 0 := by
      have e := num_size (ms := []) (S := fun y => y = k ∧ y ∈ ks) Norm.nil (fun y => ⟨fun h => (inS_nil h).elim, fun h => absurd (h.1 ▸ h.2) h1.1⟩)
      rw [← e]
      rfl
    have e4 : num (fun y => y = k) = 1 := by
      have nk : Norm [(k, k + 1)] := Norm.snoc Norm.nil (p := (k, k + 1)) ⟨hk.1, by show k < k + 1; omega, by show k + 1 ≤ 1000000; omega⟩ (fun q m => by cases m)
      have e := num_size (ms := [(k, k + 1)]) (S := fun y => y = k) nk (fun y => by
        rw [inS_one]
        unfold inP
        dsimp only
        omega)
      rw [← e]
      show (k + 1 - k) + 0 = 1
      omega
    rw [e1, List.length_cons]
    push_cast
    omega
section
variable {X : Cx}
theorem call_lenDK : CallR X (.builtin "len") (fun xs H Q => ∃ a kvs, xs = [.ref a] ∧ H a = some (.dK kvs) ∧ Q (.int kvs.length) H) := by
  intro pins s σ H xs us Q I r h
  obtain ⟨a, kvs, rfl, ha, q⟩ := h
  obtain ⟨u, rfl, ru⟩ := vals1 r
  obtain rfl : u = Value.ref a := ru
  exact d_len I (.inl ha) fun t s' I' => ⟨.int _, H, I', ⟨t, rfl⟩, q⟩
end
section
variable {P : Program} {w : World} {K : PySem.W.Frag} {mg : Str → Option Value} {base : Heap}
/-- what _law_is_right has of the class -/
structure Sp3 (P : Program) (w : World) (K : PySem.W.Frag) (mg : Str → Option Value) (base : Heap) (C : Addr) where
  cls : SpCls K mg C
  gL : Addr
  oL : Op K C "__len__" gL
  Len_ : FnR P w K mg base CX0 3 gL (spLen C)
  gI : Addr
  oI : Op K C "__contains__" gI
  In_ : FnR P w K mg base CX0 3 gI (spIn C)
def spIsR (C : Addr) : Sp := fun vs H Q _ => ∃ (u : V) (d : Addr) (ks : List Int), vs = [u, .ref d] ∧ IsSp C (fun y => y ∈ ks) u H ∧ DK H d ks ∧ (∀ x ∈ ks, 0 ≤ x ∧ x < 1000000) ∧ ∀ H', Same H H' → Q (.bl true) H'
theorem scIr : FnScope ["_law_spans", "_law_places_here", "_law_near", "_law_start", "_law_stop", "_law_spot", "_law_thing"] ["_law_spans", "_law_places_here"] (defScope sIsRight) := ⟨rfl, rfl, rfl, by decide +kernel, rfl, by decide +kernel, by decide +kernel⟩
theorem ok_isR {f g C : Addr} {fd fdG : FuncData} (F : Fun K "_law_is_right" "_law_is_right" sIsRight f fd) (T : Names mg) (B : Sp3 P w K mg base C)
    (G : FnOk P w K mg base CX0 2 g fdG ["_law_places_here"] spCouples) (mgG : mg "_law_couples" = some (.ref g)) (kG : PySem.W.keepIn K (.ref g) = true) (bG : Binds K fdG ["_law_places_here"] []) :
    FnOk P w K mg base CX0 5 f fd ["_law_spans", "_law_places_here"] (spIsR C) := by
  refine F.ok scIr (fun vs H Q E h => ?_) (fun cdv Ar outer s H vs Q E hr h => ?_)
  · obtain ⟨_, _, _, rfl, _⟩ := h
    rfl
  · obtain ⟨u, d, ks, rfl, hu, hD, hrg, k⟩ := h
    have hr1 : Room 2 _ := hr.mono (by decide)
    have hr2 : Room 3 _ := hr.mono (by decide)
    obtain ⟨x, ms, rfl, ⟨dx, t, hx, hpt⟩, nm, im⟩ := id hu
    refine ⟨_, pss_cons (ps_if (PW.pt (pw_or (pt_cmpR (op_neD hr.units) (pe_fld (pv 0) rfl) (pe_call G hr1 rfl mgG kG bG .nil pass0 (pa_cons (pv 1) pa_nil)) (nomark _))
          (pw_or1 (pt_cmpR op_ne (pe_callB (call_lenO B.oL.at_ B.oL.fn B.Len_ hr pass0) (by rfl) T.len PySem.boot_len (pa_cons (pv 0) pa_nil)) (pe_callB call_lenDK (by rfl) T.len PySem.boot_len (pa_cons (pv 1) pa_nil)) (nomark _))))) (pss_one (ps_ret pe_bl)) pss_nil)
      (pss_cons (ps_set (i := 2) scIr.nd rfl (Or.inl rfl) (pe_lst (pa_cons pe_int (pa_cons pe_int (pa_cons (pe_op op_pow pe_int pe_int) pa_nil)))))
      (pss_cons (ps_for PassesOwn.never rfl (pi_tup (pe_fld (pv 0) rfl)) (pg_tup rfl (pgs_cons (pg_name (i := 3) scIr.nd rfl (Or.inl rfl)) (pgs_cons (pg_name (i := 4) scIr.nd rfl (Or.inl rfl)) pgs_nil)))
        (pss_one (ps_expr (pe_bm PySem.F.plainAttrs_list PySem.F.slot_list_extend PySem.F.type_list_extend mt_extend (pv 2) (pa_cons (pe_lst (pa_cons (pe_op op_sub (pv 3) pe_int) (pa_cons (pv 3) (pa_cons (pe_op op_sub (pv 4) pe_int) (pa_cons (pv 4) pa_nil))))) pa_nil)))))
      (pss_cons (ps_if (pt_val (pe_callB (cr_any rfl) (by rfl) T.any (by decide +kernel) (pa_cons
          (pe_lc (own := [("_law_spot", 5)]) (g := gName 5) (tt := tYes) rfl scIr.nd (pi_list (pv 2)) (blkOk_by (own := [("_law_spot", 5)]) (N := ["_law_spans", "_law_places_here", "_law_near", "_law_start", "_law_stop", "_law_spot", "_law_thing"]) (sc := defScope sIsRight) (by decide +kernel))
            (fun _ _ _ _ _ => pg_name (i := 5) scIr.nd rfl (Or.inl rfl)) (fun _ _ _ _ _ => pts_nil)
            (fun _ _ _ _ _ => pe_cmpR op_ne (pe_cmpR (r := rInO C (spIn C) E0) (op_inO B.oI.at_ B.oI.fn B.In_ hr2 pass0) (pv 5) (pv 0) (by with_unfolding_all rfl)) (pe_cmpR (r := rInDK) (op_inDK (by have := hr.units; exact Nat.lt_of_le_of_lt (Nat.add_le_add_left (by decide) _) this)) (pv 5) (pv 1) (by with_unfolding_all rfl)) (nomark _))) pa_nil))) (pss_one (ps_ret pe_bl)) pss_nil)
      (pss_one (ps_ret (pe_not (pe_callB (cr_any rfl) (by rfl) T.any (by decide +kernel) (pa_cons
          (pe_lc (own := [("_law_thing", 6)]) (g := gName 6) (tt := tYes) rfl scIr.nd (pi_list (pe_lst (pa_cons pe_bl (pa_cons pe_non (pa_cons pe_str (pa_cons (pe_tup (pa_cons pe_int pa_nil)) (pa_cons (pe_lst (pa_cons pe_int pa_nil)) (pa_cons pe_dnewK (pa_cons (pe_tup (pa_cons pe_int (pa_cons pe_int pa_nil))) pa_nil)))))))))
            (blkOk_by (own := [("_law_thing", 6)]) (N := ["_law_spans", "_law_places_here", "_law_near", "_law_start", "_law_stop", "_law_spot", "_law_thing"]) (sc := defScope sIsRight) (by decide +kernel))
            (fun _ _ _ _ _ => pg_name (i := 6) scIr.nd rfl (Or.inl rfl)) (fun _ _ _ _ _ => pts_nil)
            (fun _ _ _ _ _ => pe_cmpR (r := rInO C (spIn C) E0) (op_inO B.oI.at_ B.oI.fn B.In_ hr2 pass0) (pv 6) (pv 0) (by with_unfolding_all rfl))) pa_nil)))))))), ?_⟩
    have fld : ∀ {H' : Hp}, Same H H' → H' x = some (.ins C dx (flds t)) := fun s => s _ _ hx
    refine ⟨_, rfl, x, C, dx, _, _, rfl, hx, B.cls.cl, B.cls.nP, look_pairs _, _, rfl, d, ks, rfl, hD, hrg, fun H1 p ms' s1 hp n' i' => ?_⟩
    have em : ms = ms' := nm.uniq n' fun y => (im y).trans (i' y).symm
    subst em
    refine ⟨_, _, dp_pt (hpt.same s1), dp_pt hp, shaped_datP _, shaped_datP _, _, rfl, ?_⟩
    rw [eqv_datP, decide_eq_true rfl]
    refine iteF ?_
    have b := num_ok (fun y => y ∈ ks)
    refine ⟨_, rfl, x, dx, _, rfl, fld s1, _, _, rfl, hu.same s1, fun H2 s2 => ⟨_, rfl, b.1, by omega, ?_⟩⟩
    have s12 := s1.trans s2
    refine ⟨_, rfl, d, kd ks, rfl, (hD.same s12).1, rfl, _, rfl, ?_⟩
    have el : V.int (num fun y => y ∈ ks) = V.int ((kd ks).length : Nat) := by
      rw [num_list hD.2 hrg]
      unfold kd
      rw [List.length_map]
    rw [decide_eq_true el]
    refine iteF ?_
    refine ⟨10, 30, rfl, rfl, ⟨by decide, by decide, by decide⟩, (by show 3 ≤ sizeLine; decide), fun N hN => ?_⟩
    have hN0 : H N = none := by
      cases q : H N with
      | none => rfl
      | some o =>
        rw [s12 _ _ q] at hN
        cases hN
    obtain ⟨ts, hA, hT, hms⟩ := hpt
    have s3 : Same H (L2.upd H2 N (.lst [.int 0, .int 999999, .int (10 ^ (30 : Int).toNat)])) := Same.upd' s12 hN
    refine ⟨_, rfl, x, C, dx, _, _, rfl, fld s3, B.cls.cl, B.cls.nP, look_pairs _, t, rfl, ⟨_, tupAt (s3 _ _ hA)⟩, for_tup (K := K) (a := t) (xs := ts.map rf)
      (fun i σ H' => ∃ (js : List Int) (v3 v4 : Option V), σ = [some (.ref x), some (.ref d), some (.ref N), v3, v4, none, none] ∧ Same H H' ∧ H' N = some (.lst (js.map V.int)) ∧ js.length ≤ 3 + 4 * i)
      ⟨[0, 999999, 10 ^ (30 : Int).toNat], none, none, rfl, s3, upd_same, by decide⟩ (fun i σ H' _ ⟨_, _, _, _, sH, _⟩ => tupAt (sH _ _ hA)) ?_ ?_⟩
    · rintro i y σ H' hi ⟨js, v3, v4, rfl, sH, hL, hlen⟩
      rw [List.getElem?_map] at hi
      obtain ⟨u, hu, e⟩ : ∃ u, ts[i]? = some u ∧ rf u = y := by
        cases e : ts[i]? with
        | none => rw [e] at hi; cases hi
        | some u => rw [e] at hi; exact ⟨u, rfl, Option.some.inj hi⟩
      subst e
      have mu : u ∈ ts := List.mem_of_getElem? hu
      have hi2 : i < ts.length := (List.getElem?_eq_some_iff.mp hu).1
      have hz : ts.length ≤ 1000000 := by
        have := nm.len
        rw [← hms] at this
        unfold prs at this
        rw [List.length_map] at this
        exact this
      refine ⟨u.1, _, rfl, tupAt (hT.same sH u mu), rfl, _, _, rfl, _, _, rfl, rfl, ?_⟩
      refine ⟨_, rfl, .inl ⟨rfl, _, SqL.of hL⟩, _, rfl, _, _, rfl, rfl, _, rfl, _, rfl, _, _, rfl, rfl, _, rfl, (by show 4 ≤ sizeLine; decide), fun b hb => ?_⟩
      refine ⟨N, b, _, _, rfl, rfl, (Same.upd hb) _ _ hL, upd_same, ?_, ?_⟩
      · rw [List.length_map, sizeLine_eq]
        show js.length + 4 ≤ 16777216
        omega
      · refine ⟨js ++ [u.2.1 - 1, u.2.1, u.2.2 - 1, u.2.2], _, _, rfl, Same.put (Same.upd' sH hb) hN0, ?_, ?_⟩
        · rw [upd_same, List.map_append]
          rfl
        · rw [List.length_append]
          show js.length + 4 ≤ _
          omega
    · rintro σ H4 ⟨js, v3, v4, rfl, s4, hL, hlen⟩
      have hz : ts.length ≤ 1000000 := by
        have := nm.len
        rw [← hms] at this
        unfold prs at this
        rw [List.length_map] at this
        exact this
      rw [List.length_map] at hlen
      refine ⟨_, rfl, N, rfl, ⟨_, SqL.of hL⟩, fun D hD0 => lc_list (K := K) (a := N) (xs := js.map V.int) (fun i H' => Same H4 H' ∧ H' D = some (.lst (List.replicate i (V.bl false)))) ⟨Same.upd hD0, upd_same⟩ (fun i H' _ ⟨sH, _⟩ => SqL.of (sH _ _ hL)) ?_ ?_⟩
      · rintro i y H' hi ⟨sH, hLD⟩
        rw [List.getElem?_map] at hi
        obtain ⟨j, hj, e⟩ : ∃ j, js[i]? = some j ∧ V.int j = y := by
          cases e : js[i]? with
          | none => rw [e] at hi; cases hi
          | some j => rw [e] at hi; exact ⟨j, rfl, Option.some.inj hi⟩
        subst e
        have hi2 : i < js.length := (List.getElem?_eq_some_iff.mp hj).1
        have sA := s4.trans sH
        refine ⟨rfl, ?_⟩
        refine ⟨_, rfl, _, rfl, x, dx, _, rfl, fld sA, _, x, _, _, .int j, rfl, hu.same sA, .int j, fun H5 b5 s5 hb5 => ⟨b5, rfl, ?_⟩⟩
        refine ⟨_, rfl, _, rfl, j, d, kd ks, rfl, rfl, (hD.same (sA.trans s5)).1, rfl, ?_⟩
        have eb : b5 = (valV (kd ks) (Sum.inl j)).isSome := by
          rw [val_kd]
          by_cases m : j ∈ ks
          · rw [if_pos m]
            exact hb5.mpr ⟨j, rfl, m⟩
          · rw [if_neg m]
            refine Bool.eq_false_iff.mpr fun z => ?_
            obtain ⟨j', ej, mj⟩ := hb5.mp z
            cases ej
            exact m mj
        rw [eb, decide_eq_true rfl]
        refine ⟨_, s5 _ _ hLD, ?_, Same.put (sH.trans s5) hD0, ?_⟩
        · rw [List.length_replicate]
          exact Nat.lt_of_lt_of_le (show i < 4000003 + 1 by omega) (by decide)
        · rw [upd_same, List.replicate_succ']
          rfl
      · rintro H5 ⟨s5, hLD⟩
        refine ⟨D, List.replicate (js.map V.int).length false, rfl, ?_, _, rfl, ?_⟩
        · rw [List.map_replicate]
          exact SqL.of hLD
        · have e : (List.replicate (js.map V.int).length false).any id = false := by simp
          rw [e]
          refine iteF ?_
          have s45 := s4.trans s5
          unfold tNext tRet tNotV tCB
          dsimp only
          rw [tCons_eq]
          unfold tLc iList
          dsimp only
          refine (La.lst (l := x) (ds := [.bool true, .none, .str "0", .tuple [.int 0], .list [.int 0], .dict [], .tuple [.int 0, .int 1]]) (fld s45) (LaA.cons .bl (LaA.cons .non (LaA.cons .str (LaA.cons (.tup (.cons .int .nil)) (LaA.cons (.lst (fld s45) (.cons .int .nil)) (LaA.cons .emp (LaA.cons (.tup (.cons .int (.cons .int .nil))) .nil)))))))) H5 _ (Same.refl _) fun H6 v6 s6 q6 => ?_
          cases q6 with
          | @lst a6 xs6 _ h6 n6 r6 =>
          have l6 := r6.length
          have noI : ∀ d7 ∈ ([.bool true, .none, .str "0", .tuple [.int 0], .list [.int 0], .dict [], .tuple [.int 0, .int 1]] : List PyData), ∀ i, d7 ≠ .int i := by
            intro d7 m i z
            subst z
            simp at m
          have s456 := s45.trans s6
          refine ⟨a6, rfl, ⟨_, SqL.of h6⟩, fun D7 hD7 => lc_list (K := K) (a := a6) (xs := xs6) (fun i H' => Same H6 H' ∧ H' D7 = some (.lst (List.replicate i (V.bl false)))) ⟨Same.upd hD7, upd_same⟩ (fun i H' _ ⟨sH, _⟩ => SqL.of (sH _ _ h6)) ?_ ?_⟩
          · rintro i y H' hi ⟨sH, hLD7⟩
            obtain ⟨d7, e7, q7⟩ := r6.at_ hi
            have hi2 : i < xs6.length := (List.getElem?_eq_some_iff.mp hi).1
            have sA := s456.trans sH
            refine ⟨rfl, ?_⟩
            refine ⟨_, rfl, _, rfl, x, dx, _, rfl, fld sA, _, x, _, _, d7, rfl, hu.same sA, q7.same sH, fun H8 b8 s8 hb8 => ⟨b8, rfl, ?_⟩⟩
            have eb : b8 = false := Bool.eq_false_iff.mpr fun z => by
              obtain ⟨j', ej, _⟩ := hb8.mp z
              exact noI d7 (List.mem_of_getElem? e7) j' ej
            subst eb
            refine ⟨_, s8 _ _ hLD7, ?_, Same.put (sH.trans s8) hD7, ?_⟩
            · rw [List.length_replicate]
              rw [l6] at hi2
              exact Nat.lt_of_lt_of_le hi2 (by decide)
            · rw [upd_same, List.replicate_succ']
          · rintro H8 ⟨s8, hLD8⟩
            refine ⟨D7, List.replicate xs6.length false, rfl, ?_, _, rfl, ?_⟩
            · rw [List.map_replicate]
              exact SqL.of hLD8
            · have e : (List.replicate xs6.length false).any id = false := by simp
              rw [e]
              exact k H8 (s456.trans s8)
end
end Sps
set_option Elab.async false
set_option linter.all false
set_option maxRecDepth 100000
set_option maxHeartbeats 4000000
/-! The law itself. -/
namespace Sps
open PySem PySem.Spec PyProof.Rows L2
abbrev sRight : Stmt := top 24
abbrev sLaw : Stmt := top 25
theorem seq_join {t v : TS} {D : Ends} {σ : L2.St} {H : Hp} (W : L2.St → Hp → Prop) (h1 : ∀ σ2 H2, W σ2 H2 → v D σ2 H2) (h2 : (∀ σ2 H2, W σ2 H2 → v D σ2 H2) → t { D with nx := v D } σ H) : tSeq t v D σ H := h2 h1
theorem SameX.same {H H1 H' : Hp} {l : Addr} (s : Same H H1) (x : SameX l H1 H') (n : H l = none) : Same H H' := fun b o e => x b o (ne_of_none e n) (s b o e)
theorem cut_all {l : Addr} {H : Hp} {xs : List V} {ds : List PyData} (lo hi : Option Int) (h : DqAll l H xs ds) : ∃ es : List PyData, DqAll l H (cutV xs lo hi) es ∧ (∀ d ∈ es, d ∈ ds) :=
  ⟨_, (h.drop _).take _, fun d m => List.mem_of_mem_drop (List.mem_of_mem_take m)⟩
theorem cut_len {xs : List V} {r : Int} (h0 : 0 ≤ r) : (cutV xs none (some r)).length + (cutV xs (some r) none).length ≤ xs.length := by
  obtain ⟨k, rfl⟩ := Int.eq_ofNat_of_zero_le h0
  unfold cutV
  have e := HT.sIx_nat xs.length xs.length k
  have e2 := HT.sIx_nat xs.length 0 k
  have e3 := HT.sIx_none xs.length 0
  have e4 := HT.sIx_none xs.length xs.length
  rw [e, e2, e3, e4, List.length_take, List.length_take, List.length_drop, List.length_drop]
  omega
def d2 (a b : Str) : PyData := .tuple [.str a, .str b]
theorem shaped_d2 {a b : Str} (ha : okT a) (hb : okT b) : SeqAt.shaped (d2 a b) = true := by
  simp [SeqAt.shaped, d2, PyData.canLay0, PyData.canLayAll0, PyData.depth, PyData.depthAll, ha.to, hb.to]
theorem all_ok {l : Addr} {H : Hp} : ∀ {ts : List TP} {ds : List PyData}, DqAll l H (ts.map rf) ds → TPs H ts → (∀ q ∈ prs ts, okP q) → ds.all okD = true
  | [], _, .nil, _, _ => rfl
  | t :: ts, _, .cons q r, hT, hok => by
    have ih := all_ok r (fun u m => hT u (List.mem_cons_of_mem _ m)) fun u m => hok u (List.mem_cons_of_mem _ m)
    have e := hT t List.mem_cons_self
    have o := hok t.2 List.mem_cons_self
    rw [List.all_cons, ih, Bool.and_true]
    have hv : Dq l H (.ref t.1) _ := q
    cases hv with
    | lst h _ _ => rw [e] at h; cases h
    | emp h => rw [e] at h; cases h
    | dct h _ => rw [e] at h; cases h
    | tup h qa =>
      rw [e] at h
      cases h
      match qa with
      | .cons (d := x) q1 (.cons (d := y) q2 .nil) =>
        cases q1
        cases q2
        exact okB_iff.mpr o
theorem eqv_d2 (a b : Str) : PyData.eqv (d2 a b) (d2 a b) = true := by
  simp [d2, PyData.eqv, PyData.eqvAll]
theorem dp_d2 {K : PySem.W.Frag} {H : Hp} {p : Addr} {a b : Str} (h : H p = some (.tup [.str a, .str b])) : Dp K H (.ref p) (d2 a b) := .tup (tupAt h) (.cons (.str _) (.cons (.str _) .nil))
section
variable {P : Program} {w : World} {K : PySem.W.Frag} {mg : Str → Option Value} {base : Heap}
/-- the defs that the law calls -/
structure Dfs (P : Program) (w : World) (K : PySem.W.Frag) (mg : Str → Option Value) (base : Heap) (C : Addr) where
  aPl : Addr
  dPl : FuncData
  gPl : FnOk P w K mg base CX0 2 aPl dPl ["_law_couples_here"] spPlaces
  mPl : mg "_law_places" = some (.ref aPl)
  kPl : PySem.W.keepIn K (.ref aPl) = true
  bPl : Binds K dPl ["_law_couples_here"] []
  aDn : Addr
  dDn : FuncData
  gDn : FnOk P w K mg base CX0 4 aDn dDn ["_law_pot_here", "_law_most", "_law_wide"] spDrawn
  mDn : mg "_law_drawn" = some (.ref aDn)
  kDn : PySem.W.keepIn K (.ref aDn) = true
  bDn : Binds K dDn ["_law_pot_here", "_law_most", "_law_wide"] []
  aDr : Addr
  dDr : FuncData
  gDr : FnOk P w K mg base CX0 2 aDr dDr ["_law_pot_here", "_law_many"] spDraw
  mDr : mg "_law_draw" = some (.ref aDr)
  kDr : PySem.W.keepIn K (.ref aDr) = true
  bDr : Binds K dDr ["_law_pot_here", "_law_many"] []
  aOd : Addr
  dOd : FuncData
  gOd : FnOk P w K mg base CX0 4 aOd dOd ["_law_pot_here"] spOdd
  mOd : mg "_law_odd" = some (.ref aOd)
  kOd : PySem.W.keepIn K (.ref aOd) = true
  bOd : Binds K dOd ["_law_pot_here"] []
  aCp : Addr
  dCp : FuncData
  gCp : FnOk P w K mg base CX0 2 aCp dCp ["_law_thing"] spCouple
  mCp : mg "_law_is_couple" = some (.ref aCp)
  kCp : PySem.W.keepIn K (.ref aCp) = true
  bCp : Binds K dCp ["_law_thing"] []
  aMt : Addr
  dMt : FuncData
  gMt : FnG P w K mg base 7 aMt dMt ["_law_some"] (spMet C)
  mMt : mg "_law_met" = some (.ref aMt)
  kMt : PySem.W.keepIn K (.ref aMt) = true
  bMt : Binds K dMt ["_law_some"] []
  aIs : Addr
  dIs : FuncData
  gIs : FnOk P w K mg base CX0 5 aIs dIs ["_law_spans", "_law_places_here"] (spIsR C)
  mIs : mg "_law_is_right" = some (.ref aIs)
  kIs : PySem.W.keepIn K (.ref aIs) = true
  bIs : Binds K dIs ["_law_spans", "_law_places_here"] []
def spRight : Sp := fun vs H Q _ => ∃ l : Addr, vs = [.ref l] ∧ PotOk 0 H l ∧ ∀ H', SameX l H H' → Q (.bl true) H'
theorem scRt : FnScope ["_law_pot_here", "_law_turn", "_law_some", "_law_spot", "_law_kept", "_law_told", "_law_thing", "_law_start", "_law_stop"] ["_law_pot_here"] (defScope sRight) := ⟨rfl, rfl, rfl, by decide +kernel, rfl, by decide +kernel, by decide +kernel⟩
theorem ok_right {f C : Addr} {fd : FuncData} (F : Fun K "_law_right" "_law_right" sRight f fd) (T : Names mg) (hRp : mg "repr" = none) (hB : ∃ o, base.get? sysModules = some o) (D : Dfs P w K mg base C) : FnG P w K mg base 8 f fd ["_law_pot_here"] spRight := by
  refine fnG_of F scRt (fun vs H Q E h => ?_) (fun cdv A outer s H vs Q E hr hgd h => ?_)
  · obtain ⟨_, rfl, _⟩ := h
    rfl
  · obtain ⟨l, rfl, hp, k⟩ := h
    have h4 : Room 5 _ := hr.mono (by decide)
    have h3 : Room 4 _ := hr.mono (by decide)
    have h1 : Room 2 _ := hr.mono (by decide)
    have hu : _ := hr.units
    refine ⟨_, pss_cons (ps_for PassesOwn.leaving rfl (pi_range1 rfl T.range (pa_cons pe_int pa_nil)) (pg_name (i := 1) scRt.nd rfl (Or.inl rfl))
        (pss_cons (ps_set (i := 2) scRt.nd rfl (Or.inl rfl) (pe_call D.gDn h3 rfl D.mDn D.kDn D.bDn .nil pass0 (pa_cons (pv 0) (pa_cons pe_int (pa_cons pe_int pa_nil)))))
        (pss_cons (ps_if (pt_cmpR op_eq (pe_call D.gDr h1 rfl D.mDr D.kDr D.bDr .nil pass0 (pa_cons (pv 0) (pa_cons pe_int pa_nil))) pe_int (nomark _))
            (pss_cons (ps_set (i := 3) scRt.nd rfl (Or.inl rfl) (pe_call D.gDr h1 rfl D.mDr D.kDr D.bDr .nil pass0 (pa_cons (pv 0) (pa_cons (pe_op op_add (pe_callB call_len_seq (by rfl) T.len PySem.boot_len (pa_cons (pv 2) pa_nil)) pe_int) pa_nil))))
            (pss_one (ps_set (i := 2) scRt.nd rfl (Or.inl rfl) (pe_op op_cat (pe_op op_cat (pe_slice sl_list (pv 2) po_none (po_some (pv 3))) (pe_lst (pa_cons (pe_call D.gOd h3 rfl D.mOd D.kOd D.bOd .nil pass0 (pa_cons (pv 0) pa_nil)) pa_nil)))
              (pe_slice sl_list (pv 2) (po_some (pv 3)) po_none))))) pss_nil)
        (pss_cons (ps_par (i := 4) (j := 5) (by rfl) scRt.nd rfl rfl (by decide) rfl rfl (pa_cons (pe_callB (call_reprD (l := l) hgd hu hB) (by rfl) hRp (by decide +kernel) (pa_cons (pv 2) pa_nil)) (pa_cons (pe_callG D.gMt hr hgd rfl D.mMt D.kMt D.bMt (pa_cons (pv 2) pa_nil)) pa_nil)) (by rfl))
        (pss_cons (ps_if (pt_not (pt_val (pe_callB (cr_all rfl) (by rfl) T.all (by decide +kernel) (pa_cons
              (pe_lc (own := [("_law_thing", 6)]) (g := gName 6) (tt := tYes) rfl scRt.nd (pi_list (pv 2)) (blkOk_by (own := [("_law_thing", 6)]) (N := ["_law_pot_here", "_law_turn", "_law_some", "_law_spot", "_law_kept", "_law_told", "_law_thing", "_law_start", "_law_stop"]) (sc := defScope sRight) (by decide +kernel))
                (fun _ _ _ _ _ => pg_name (i := 6) scRt.nd rfl (Or.inl rfl)) (fun _ _ _ _ _ => pts_nil) (fun _ _ _ _ _ => pe_call D.gCp h1 rfl D.mCp D.kCp D.bCp .nil pass0 (pa_cons (pv 6) pa_nil))) pa_nil))))
            (pss_one (ps_if (pt_cmpR (op_neD hu) (pv 5) (pe_tup (pa_cons pe_str (pa_cons (pe_callB (call_reprD (l := l) hgd hu hB) (by rfl) hRp (by decide +kernel) (pa_cons (pe_callTy call_tuple_of (by rfl) T.tuple (by decide +kernel) (pa_cons (pv 2) pa_nil)) pa_nil)) pa_nil))) (nomark _)) (pss_one (ps_ret pe_bl)) pss_nil))
            (pss_one (ps_if (pt_val (pe_callB (cr_any rfl) (by rfl) T.any (by decide +kernel) (pa_cons
                (pe_lc (own := [("_law_start", 7), ("_law_stop", 8)]) (g := gTup K 2 (gCons (gName 7) (gCons (gName 8) gNil))) (tt := tYes) rfl scRt.nd (pi_list (pv 2)) (blkOk_by (own := [("_law_start", 7), ("_law_stop", 8)]) (N := ["_law_pot_here", "_law_turn", "_law_some", "_law_spot", "_law_kept", "_law_told", "_law_thing", "_law_start", "_law_stop"]) (sc := defScope sRight) (by decide +kernel))
                  (fun _ _ _ _ _ => pg_tup rfl (pgs_cons (pg_name (i := 7) scRt.nd rfl (Or.inl rfl)) (pgs_cons (pg_name (i := 8) scRt.nd rfl (Or.inl rfl)) pgs_nil))) (fun _ _ _ _ _ => pts_nil)
                  (fun _ _ _ _ _ => pe_cmpR op_gt (pe_op op_sub (pv 8) (pv 7)) pe_int (nomark _))) pa_nil)))
              (pss_one (ps_if (pt_cmpR op_ne (pe_ix ix_tup (pv 5) pe_int (fun _ _ => rfl)) pe_str (nomark _)) (pss_one (ps_ret pe_bl)) pss_nil))
              (pss_one (ps_if (PW.pt (pw_or (pt_cmpR op_ne (pe_ix ix_tup (pv 5) pe_int (fun _ _ => rfl)) pe_str (nomark _)) (pw_or1 (pt_not (pt_val (pe_call D.gIs h4 rfl D.mIs D.kIs D.bIs .nil pass0
                  (pa_cons (pe_ix ix_tup (pv 5) pe_int (fun _ _ => rfl)) (pa_cons (pe_call D.gPl h1 rfl D.mPl D.kPl D.bPl .nil pass0 (pa_cons (pv 2) pa_nil)) pa_nil)))))))) (pss_one (ps_ret pe_bl)) pss_nil)))))
        (pss_one (ps_if (pt_cmpR op_ne (pe_callB (call_reprD (l := l) hgd hu hB) (by rfl) hRp (by decide +kernel) (pa_cons (pv 2) pa_nil)) (pv 4) (nomark _)) (pss_one (ps_ret pe_bl)) pss_nil)))))))
      (pss_one (ps_ret pe_bl)), ?_⟩
    refine ⟨60, rfl, by decide, by decide, for_range (lo := 0) (n := 60) (fun i σ H' => ∃ (y1 y2 y3 y4 y5 y6 y7 y8 : Option V), σ = [some (.ref l), y1, y2, y3, y4, y5, y6, y7, y8] ∧ SameX l H H' ∧ PotOk (100 * i) H' l)
      ⟨none, none, none, none, none, none, none, none, rfl, SameX.refl H l, hp.mono (by omega)⟩ ?_ ?_⟩
    · rintro i σ H0 hi ⟨y1, y2, y3, y4, y5, y6, y7, y8, rfl, sx0, hp0⟩
      have hi60 : (i : Int) < 60 := by omega
      refine seq_set ⟨_, rfl, l, 5, 20, _, rfl, hp0, by omega, by decide, by decide, by decide, by decide, fun H1 a ts s1 hp1 nal hA hT htl hok _ => ?_⟩
      refine seq_join (fun σ2 H2 => ∃ (a : Addr) (xs : List V) (ds : List PyData) (y3 : Option V), σ2 = [some (.ref l), some (.int (0 + (i : Int))), some (.ref a), y3, y4, y5, y6, y7, y8] ∧ SameX l H0 H2 ∧ PotOk (100 * i + 50) H2 l ∧ a ≠ l ∧ H2 a = some (.lst xs) ∧ DqAll l H2 xs ds ∧ xs.length ≤ 6 ∧ (∀ d ∈ ds, Fit 9 d))
        ?_ fun nxt => ?_
      rotate_left
      · -- an odd one may be put in
        have hD1 : DqAll l H1 (ts.map rf) ((prs ts).map dP) := dqAll_tps hT
        have hfit1 : ∀ d ∈ (prs ts).map dP, Fit 9 d := fun d m => by
          obtain ⟨q, mq, e⟩ := List.mem_map.mp m
          rw [← e]
          exact (fit_dP (hok q mq)).up (by decide)
        have hl1 : (ts.map rf).length ≤ 5 := by rw [List.length_map]; exact htl
        refine ⟨_, rfl, l, 3, _, rfl, hp1, by omega, by decide, by decide, fun H2 r s2 hp2 r0 r1 => ⟨rfl, _, rfl, ?_⟩⟩
        obtain ⟨ys1, hly1⟩ := hp1.at_
        have hA2 : H2 a = some (.lst (ts.map rf)) := s2 _ _ nal hA
        have hD2 := hD1.x hly1 s2
        refine ite2 (fun c => ?_) (fun c => ?_)
        · refine seq_set ⟨_, rfl, _, rfl, a, ts.map rf, rfl, .inl (SqL.of hA2), _, _, rfl, rfl, l, _, _, rfl, hp2, by omega, by omega, by omega, fun H3 r3 s3 hp3 q0 q1 => ?_⟩
          obtain ⟨ys2, hly2⟩ := hp2.at_
          have hA3 : H3 a = some (.lst (ts.map rf)) := s3 _ _ nal hA2
          have hD3 := hD2.x hly2 s3
          obtain ⟨es1, hE1, hs1⟩ := cut_all none (some r3) hD3
          obtain ⟨es2, hE2, hs2⟩ := cut_all (some r3) none hD3
          have hcl := cut_len (xs := ts.map rf) q0
          refine ⟨_, rfl, _, rfl, _, rfl, a, _, rfl, SqL.of hA3, fun p hp => ?_⟩
          have npl := hp3.ne hp
          have s34 : Same H3 (L2.upd H3 p (.lst (cutV (ts.map rf) none (some r3)))) := Same.upd hp
          refine ⟨_, rfl, l, _, rfl, hp3.put npl, by omega, fun H5 x d s5 hp5 qx fx => ⟨(by show 1 ≤ sizeLine; decide), fun q hq => ?_⟩⟩
          obtain ⟨ys3, hly3⟩ := hp3.at_
          have s35 : SameX l H3 H5 := (Same.x s34 l).trans s5
          have hp5' : H5 p = some (.lst (cutV (ts.map rf) none (some r3))) := s5 _ _ npl upd_same
          have s6 : Same H5 (L2.upd H5 q (.lst [x])) := Same.upd hq
          refine ⟨p, q, _, _, rfl, rfl, s6 _ _ hp5', upd_same, ?_, fun c hc => ?_⟩
          · rw [sizeLine_eq]
            show _ + 1 ≤ _
            omega
          have s7 := Same.upd' s6 hc (o := .lst (cutV (ts.map rf) none (some r3) ++ [x]))
          refine ⟨_, rfl, _, rfl, _, rfl, a, _, rfl, SqL.of (s7 _ _ (s35 _ _ nal hA3)), fun e he => ?_⟩
          have s8 := Same.upd' s7 he (o := .lst (cutV (ts.map rf) (some r3) none))
          refine ⟨c, e, _, _, rfl, rfl, (Same.upd he) _ _ upd_same, upd_same, ?_, fun g hg => ?_⟩
          · rw [List.length_append, sizeLine_eq]
            show _ + 1 + _ ≤ _
            omega
          have s9 := Same.upd' s8 hg (o := .lst ((cutV (ts.map rf) none (some r3) ++ [x]) ++ cutV (ts.map rf) (some r3) none))
          have hp9 := hp5.same s9
          refine nxt _ _ ⟨g, _, (es1 ++ [d]) ++ es2, _, rfl, ((((s1.trans s2).trans s3).trans s35).trans (Same.x s9 l)), hp9.mono (by omega), (hp5.same s8).ne hg, upd_same, ?_, ?_, ?_⟩
          · exact (((hE1.x hly3 s35).app (.cons qx .nil)).app (hE2.x hly3 s35)).same s9
          · rw [List.length_append, List.length_append]
            show _ + 1 + _ ≤ 6
            omega
          · intro d' m
            rcases List.mem_append.mp m with m | m
            · rcases List.mem_append.mp m with m | m
              · exact hfit1 d' (hs1 d' m)
              · rw [List.mem_singleton.mp m]
                exact fx
            · exact hfit1 d' (hs2 d' m)
        · exact nxt _ _ ⟨a, ts.map rf, (prs ts).map dP, y3, rfl, s1.trans s2, hp2.mono (by omega), nal, hA2, hD2, by omega, hfit1⟩
      · rintro σ2 H2 ⟨a, xs, ds, y3, rfl, sx2, hp2, nal, hA, hD, hlen, hfit⟩
        obtain ⟨ys, hly⟩ := hp2.at_
        have hdl : ds.length ≤ 8 := by rw [← hD.length]; omega
        have shL : Shw (.list ds) := Shw.list hfit hdl
        have shT : Shw (.tuple ds) := Shw.tuple hfit hdl
        refine seq_join (fun σ3 H3 => ∃ (p : Addr), σ3 = [some (.ref l), some (.int (0 + (i : Int))), some (.ref a), y3, some (.str (PyData.list ds).shown), some (.ref p), y6, y7, y8] ∧ Same H2 H3 ∧
            ((∃ (v : V) (ts : List TP), H3 p = some (.tup [.str "told", v]) ∧ ds.all okD = true ∧ xs = ts.map rf ∧ TPs H3 ts ∧ (∀ q ∈ prs ts, okP q) ∧ IsSp C (fun y => inS y (prs ts)) v H3) ∨ (ds.all okD = false ∧ H3 p = some (.tup [.str "bad", .str (PyData.tuple ds).shown])))) ?_ fun nxt => ?_
        rotate_left
        · refine ⟨_, rfl, a, .list ds, rfl, .lst hA nal hD, shL, _, rfl, l, a, xs, ds, ys, rfl, hA, hly, hD, hlen, hfit, fun ts ex hT hok H3 v p s3 hv hp => ?_, fun hb H3 p s3 hp => ?_⟩
          · subst ex
            exact ⟨_, _, rfl, nxt _ _ ⟨p, rfl, s3, .inl ⟨v, ts, hp, all_ok hD hT hok, rfl, hT.same s3, hok, hv⟩⟩⟩
          · exact ⟨_, _, rfl, nxt _ _ ⟨p, rfl, s3, .inr ⟨hb, hp⟩⟩⟩
        · rintro σ3 H3 ⟨p, rfl, s3, out⟩
          have hA3 := s3 _ _ hA
          have hD3 := hD.same s3
          refine seq_join (fun σ4 H4 => ∃ (y6 y7 y8 : Option V), σ4 = [some (.ref l), some (.int (0 + (i : Int))), some (.ref a), y3, some (.str (PyData.list ds).shown), some (.ref p), y6, y7, y8] ∧ Same H3 H4) ?_ fun nxt => ?_
          rotate_left
          · refine ⟨_, rfl, a, rfl, ⟨_, SqL.of hA3⟩, fun Dl hDl => lc_list (K := K) (a := a) (xs := xs) (fun i H' => Same H3 H' ∧ H' Dl = some (.lst (((ds.map okD).take i).map V.bl))) ⟨Same.upd hDl, upd_same⟩ (fun i H' _ ⟨sH, _⟩ => SqL.of (sH _ _ hA3)) ?_ ?_⟩
            · rintro j y H' hj ⟨sH, hL⟩
              obtain ⟨d, hd, qd⟩ := hD3.at_ hj
              have hd2 : (ds.map okD)[j]? = some (okD d) := by rw [List.getElem?_map, hd]; rfl
              refine ⟨rfl, ?_⟩
              refine ⟨_, rfl, l, _, d, rfl, qd.same sH, fun H5 s5 => ?_⟩
              refine ⟨_, s5 _ _ hL, ?_, Same.put (sH.trans s5) hDl, ?_⟩
              · rw [List.length_map, List.length_take, List.length_map]
                exact Nat.lt_of_le_of_lt (Nat.le_trans (Nat.min_le_right _ _) hdl) (by decide)
              · rw [upd_same, take_snoc hd2, List.map_append]
                rfl
            · rintro H4 ⟨s4, hL⟩
              have et : (ds.map okD).take xs.length = ds.map okD := List.take_of_length_le (by rw [List.length_map, hD.length]; exact Nat.le_refl _)
              rw [et] at hL
              refine ⟨Dl, ds.map okD, rfl, SqL.of hL, _, rfl, ?_⟩
              have e : (ds.map okD).all id = ds.all okD := by simp [List.all_map]
              rw [e]
              rcases out with ⟨v, ts, hpT, hb, ex, hT, hok, hv⟩ | ⟨hb, hpB⟩
              · rw [hb]
                refine iteF ?_
                subst ex
                have hA4 := s4 _ _ hA3
                have hT4 := hT.same s4
                have hz : ts.length ≤ 6 := by rw [List.length_map] at hlen; exact hlen
                refine ⟨_, rfl, a, rfl, ⟨_, SqL.of hA4⟩, fun D2 hD2 => lc_list (K := K) (a := a) (xs := ts.map rf) (fun j H' => Same H4 H' ∧ H' D2 = some (.lst ((((prs ts).map fun q => decide (99 < q.2 - q.1)).take j).map V.bl))) ⟨Same.upd hD2, upd_same⟩ (fun i H' _ ⟨sH, _⟩ => SqL.of (sH _ _ hA4)) ?_ ?_⟩
                · rintro j y H' hj ⟨sH, hL2⟩
                  rw [List.getElem?_map] at hj
                  obtain ⟨u, hu, e⟩ : ∃ u, ts[j]? = some u ∧ rf u = y := by
                    cases e : ts[j]? with
                    | none => rw [e] at hj; cases hj
                    | some u => rw [e] at hj; exact ⟨u, rfl, Option.some.inj hj⟩
                  subst e
                  have mu : u ∈ ts := List.mem_of_getElem? hu
                  have hpp : ((prs ts).map fun q => decide (99 < q.2 - q.1))[j]? = some (decide (99 < u.2.2 - u.2.1)) := by
                    unfold prs
                    rw [List.getElem?_map, List.getElem?_map, hu]
                    rfl
                  refine ⟨u.1, _, rfl, tupAt (hT4.same sH u mu), rfl, _, _, rfl, _, _, rfl, rfl, rfl, ?_⟩
                  refine ⟨_, rfl, _, rfl, _, _, rfl, rfl, _, _, rfl, rfl, ?_⟩
                  refine ⟨_, hL2, ?_, Same.put sH hD2, ?_⟩
                  · rw [List.length_map, List.length_take, List.length_map]
                    unfold prs
                    rw [List.length_map]
                    exact Nat.lt_of_le_of_lt (Nat.le_trans (Nat.min_le_right _ _) hz) (by decide)
                  · rw [upd_same, take_snoc hpp, List.map_append]
                    rfl
                · rintro H5 ⟨s5, hL2⟩
                  have et2 : ((prs ts).map fun q => decide (99 < q.2 - q.1)).take (ts.map rf).length = (prs ts).map fun q => decide (99 < q.2 - q.1) := List.take_of_length_le (by unfold prs; rw [List.length_map, List.length_map, List.length_map]; exact Nat.le_refl _)
                  rw [et2] at hL2
                  have s35 := s4.trans s5
                  refine ⟨D2, _, rfl, SqL.of hL2, _, rfl, ite2 (fun c => ?_) (fun c => ?_)⟩
                  · refine ⟨_, rfl, p, _, 0, _, rfl, rfl, tupAt (s35 _ _ hpT), atI_nat (j := 0) rfl, rfl, _, rfl, iteNS rfl ?_⟩
                    exact nxt _ _ ⟨_, _, _, rfl, s35⟩
                  · refine ⟨_, rfl, p, _, 0, _, rfl, rfl, tupAt (s35 _ _ hpT), atI_nat (j := 0) rfl, rfl, _, rfl, iteNS rfl ?_⟩
                    refine ⟨_, rfl, p, _, 1, _, rfl, rfl, tupAt (s35 _ _ hpT), atI_nat (j := 1) rfl, _, rfl, a, ts, rfl, s35 _ _ hA3, hT.same s35, hok, by omega, fun H6 d ks s6 hd hin hkl => ?_⟩
                    refine ⟨v, d, ks, rfl, (hv.same (s35.trans s6)).iff fun y => (hin y).symm, hd, fun x m => ?_, fun H7 s7 => ⟨true, rfl, iteF ?_⟩⟩
                    · obtain ⟨q, mq, hx⟩ := (hin x).mp m
                      obtain ⟨o1, o2, o3⟩ := hok q mq
                      obtain ⟨a1, a2⟩ := hx
                      omega
                    · exact nxt _ _ ⟨_, _, _, rfl, (s35.trans s6).trans s7⟩
              · rw [hb]
                refine iteT ?_
                refine ⟨_, rfl, _, rfl, a, xs, rfl, .inl ⟨SqL.of (s4 _ _ hA3), fun t ht => ?_⟩⟩
                have s5 := Same.upd' s4 ht (o := .tup xs)
                refine ⟨t, .tuple ds, rfl, .tup upd_same (hD3.same s5), shT, (by show 2 ≤ sizeLine; decide), fun c hc => ?_⟩
                have s6 := Same.upd' s5 hc (o := .tup [.str "bad", .str (PyData.tuple ds).shown])
                have okb : okT ("bad" : Str) := okT.of (by decide +kernel)
                refine ⟨d2 "bad" (PyData.tuple ds).shown, d2 "bad" (PyData.tuple ds).shown, dp_d2 (s6 _ _ hpB), dp_d2 upd_same, shaped_d2 okb shT.ok, shaped_d2 okb shT.ok, _, rfl, ?_⟩
                rw [eqv_d2]
                refine iteF ?_
                exact nxt _ _ ⟨_, _, _, rfl, s6⟩
          · rintro σ4 H4 ⟨z6, z7, z8, rfl, s4⟩
            have s24 := s3.trans s4
            refine ⟨_, rfl, a, .list ds, rfl, .lst (s24 _ _ hA) nal (hD.same s24), shL, _, rfl, rfl, _, rfl, iteNS rfl ?_⟩
            exact ⟨_, _, _, _, _, _, _, _, rfl, (sx0.trans sx2).trans (Same.x s24 l), (hp2.same s24).mono (by push_cast; omega)⟩
    · rintro σ H' ⟨y1, y2, y3, y4, y5, y6, y7, y8, rfl, sx, hp'⟩
      exact k H' sx
end
end Sps
set_option Elab.async false
set_option linter.all false
set_option maxRecDepth 100000
set_option maxHeartbeats 4000000
/-! law. -/
namespace Sps
open PySem PySem.Spec PyProof.Rows L2
section
variable {P : Program} {w : World} {K : PySem.W.Frag} {mg : Str → Option Value} {base : Heap}
def spLaw (K : PySem.W.Frag) : Sp := fun vs H Q _ => ∃ (a : Addr) (ns : List Int), vs = [.ref a] ∧ SqL K H a (ns.map V.int) ∧ ns.length ≤ 63 ∧ ∀ H', Q (.bl true) H'
theorem scLw : FnScope ["_law_script", "_law_k"] ["_law_script"] (defScope sLaw) := ⟨rfl, rfl, rfl, by decide +kernel, rfl, by decide +kernel, by decide +kernel⟩
theorem ok_law {f g gP : Addr} {fd fdG fdP : FuncData} (F : Fun K "law" "law" sLaw f fd) (T : Names mg) (G : FnG P w K mg base 8 g fdG ["_law_pot_here"] spRight) (mgG : mg "_law_right" = some (.ref g)) (kG : PySem.W.keepIn K (.ref g) = true) (bG : Binds K fdG ["_law_pot_here"] [])
    (O : FnOk P w K mg base CX0 2 gP fdP ["_law_script", "_law_k"] (spPot K)) (mgO : mg "_law_pot" = some (.ref gP)) (kO : PySem.W.keepIn K (.ref gP) = true) (bO : Binds K fdP ["_law_script", "_law_k"] []) :
    FnG P w K mg base 9 f fd ["_law_script"] (spLaw K) := by
  refine fnG_of F scLw (fun vs H Q E h => ?_) (fun cdv Ar outer s H vs Q E hr hgd h => ?_)
  · obtain ⟨_, _, rfl, _⟩ := h
    rfl
  · obtain ⟨a, ns, rfl, ha, hlen, k⟩ := h
    have h1 : Room 2 _ := hr.mono (by decide)
    refine ⟨_, pss_cons (ps_for PassesOwn.leaving rfl (pi_range1 rfl T.range (pa_cons (pe_callB (call_max2 rfl) (by rfl) T.max (by decide +kernel) (pa_cons pe_int (pa_cons (pe_callB (call_min2 rfl) (by rfl) T.min (by decide +kernel)
          (pa_cons pe_int (pa_cons (pe_callB call_len_seq (by rfl) T.len PySem.boot_len (pa_cons (pv 0) pa_nil)) pa_nil))) pa_nil))) pa_nil)) (pg_name (i := 1) scLw.nd rfl (Or.inl rfl))
        (pss_one (ps_if (pt_not (pt_val (pe_callG G hr hgd rfl mgG kG bG (pa_cons (pe_call O h1 rfl mgO kO bO .nil pass0 (pa_cons (pv 0) (pa_cons (pv 1) pa_nil))) pa_nil)))) (pss_one (ps_ret pe_bl)) pss_nil)))
      (pss_one (ps_ret pe_bl)), ?_⟩
    refine ⟨_, rfl, _, _, rfl, .inl ha, _, _, rfl, _, _, rfl, ?_⟩
    generalize hm : (if (if (((ns.map V.int).length : Nat) : Int) < 3 then (((ns.map V.int).length : Nat) : Int) else 3) > 1 then (if (((ns.map V.int).length : Nat) : Int) < 3 then (((ns.map V.int).length : Nat) : Int) else 3) else 1) = m
    have m0 : 1 ≤ m ∧ m ≤ 3 := by
      rw [← hm]
      split <;> split <;> omega
    refine ⟨m, rfl, by omega, by omega, for_range (lo := 0) (n := m.toNat) (fun i σ H' => ∃ x1 : Option V, σ = [some (.ref a), x1] ∧ Same H H') ⟨none, rfl, Same.refl H⟩ ?_ ?_⟩
    · rintro i σ H0 hi ⟨x1, rfl, s0⟩
      refine ⟨_, rfl, _, rfl, a, ns, 0 + (i : Int), rfl, s0.seq ha, by omega, by omega, fun H1 l s1 hl hp => ⟨l, rfl, hp, fun H2 sx => ⟨true, rfl, iteF ?_⟩⟩⟩
      exact ⟨_, rfl, s0.trans (SameX.same s1 sx hl)⟩
    · rintro σ H' ⟨x1, rfl, s0⟩
      exact k H'
end
end Sps
set_option Elab.async false
set_option linter.all false
set_option maxRecDepth 100000
set_option maxHeartbeats 4000000
/-! What the top has left, and the end. -/
namespace Sps
open PySem PySem.Spec PyProof.Rows L2
theorem all_mk {l : PySem.W.OpenLaw} {w : World} {K : PySem.W.Frag} {h : Heap} {mg : Str → Option Value} {fa C CB CK f1 f2 f3 f4 f5 f6 f7 f8 f9 f10 f11 f12 f13 f14 f15 f16 f17 m1 m2 m3 m4 : Addr} (X : K.In h) (G : h.Ns mainGlobals mg) (hfa : mg "law" = some (.ref fa)) {tE : Tok}
    {xnm xq : Str} {xN : Addr} {xbs : List Value} {xsn : List Str} {xsub : List Value} {xab : Bool} {xcol : Option Bool} {xdd : Option Addr} {x0 x1 x2 x3 x5 : Option Value}
    {odf1 anf1 odf2 anf2 odf3 anf3 odf4 anf4 odf5 anf5 odf6 anf6 odf7 anf7 odf8 anf8 odf9 anf9 odf10 anf10 odf11 anf11 odf12 anf12 odf13 anf13 odf14 anf14 odf15 anf15 odf16 anf16 odf17 anf17 odm1 anm1 odm2 anm2 odm3 anm3 odm4 anm4 : Option Addr}
    {slf1 slf2 slf3 slf4 slf5 slf6 slf7 slf8 slf9 slf10 slf11 slf12 slf13 slf14 slf15 slf16 slf17 slm1 slm2 slm3 slm4 : Array (Option Value)}
    {ocf1 kVf1 dcf1 pmf1 cdf1 ctf1 ocf2 kVf2 dcf2 pmf2 cdf2 ctf2 ocf3 kVf3 dcf3 pmf3 cdf3 ctf3 ocf4 kVf4 dcf4 pmf4 cdf4 ctf4 ocf5 kVf5 dcf5 pmf5 cdf5 ctf5 ocf6 kVf6 dcf6 pmf6 cdf6 ctf6 ocf7 kVf7 dcf7 pmf7 cdf7 ctf7 ocf8 kVf8 dcf8 pmf8 cdf8 ctf8 ocf9 kVf9 dcf9 pmf9 cdf9 ctf9 ocf10 kVf10 dcf10 pmf10 cdf10 ctf10 ocf11 kVf11 dcf11 pmf11 cdf11 ctf11 ocf12 kVf12 dcf12 pmf12 cdf12 ctf12 ocf13 kVf13 dcf13 pmf13 cdf13 ctf13 ocf14 kVf14 dcf14 pmf14 cdf14 ctf14 ocf15 kVf15 dcf15 pmf15 cdf15 ctf15 ocf16 kVf16 dcf16 pmf16 cdf16 ctf16 ocf17 kVf17 dcf17 pmf17 cdf17 ctf17 ocm1 kVm1 dcm1 pmm1 cdm1 ctm1 ocm2 kVm2 dcm2 pmm2 cdm2 ctm2 ocm3 kVm3 dcm3 pmm3 cdm3 ctm3 ocm4 kVm4 dcm4 pmm4 cdm4 ctm4 : Value}
    (aC : PySem.W.nsIn K mainGlobals "Spans" = some (some (.ref C)))
    (aCB : PySem.W.nsIn K mainGlobals "BadSpans" = some (some (.ref CB)))
    (aCK : PySem.W.nsIn K mainGlobals "KeeperError" = some (some (.ref CK)))
    (af1 : PySem.W.nsIn K mainGlobals "is_whole_number" = some (some (.ref f1)))
    (lf1 : K.lookup f1 = some ⟨ocf1, odf1, .func (PySem.W.fnOf "is_whole_number" "is_whole_number" (defArgs sWhole) (defBody sWhole) (defScope sWhole) .none kVf1 dcf1 pmf1 anf1 cdf1 ctf1), slf1⟩)
    (cf1 : PySem.W.codeIn K cdf1 "is_whole_number" = true)
    (kf1 : PySem.W.keepIn K (.ref f1) = true)
    (af2 : PySem.W.nsIn K mainGlobals "is_within" = some (some (.ref f2)))
    (lf2 : K.lookup f2 = some ⟨ocf2, odf2, .func (PySem.W.fnOf "is_within" "is_within" (defArgs sWithin) (defBody sWithin) (defScope sWithin) .none kVf2 dcf2 pmf2 anf2 cdf2 ctf2), slf2⟩)
    (cf2 : PySem.W.codeIn K cdf2 "is_within" = true)
    (kf2 : PySem.W.keepIn K (.ref f2) = true)
    (af3 : PySem.W.nsIn K mainGlobals "_is_pair" = some (some (.ref f3)))
    (lf3 : K.lookup f3 = some ⟨ocf3, odf3, .func (PySem.W.fnOf "_is_pair" "_is_pair" (defArgs sIsPair) (defBody sIsPair) (defScope sIsPair) .none kVf3 dcf3 pmf3 anf3 cdf3 ctf3), slf3⟩)
    (cf3 : PySem.W.codeIn K cdf3 "_is_pair" = true)
    (kf3 : PySem.W.keepIn K (.ref f3) = true)
    (af4 : PySem.W.nsIn K mainGlobals "_merged" = some (some (.ref f4)))
    (lf4 : K.lookup f4 = some ⟨ocf4, odf4, .func (PySem.W.fnOf "_merged" "_merged" (defArgs sMerged) (defBody sMerged) (defScope sMerged) .none kVf4 dcf4 pmf4 anf4 cdf4 ctf4), slf4⟩)
    (cf4 : PySem.W.codeIn K cdf4 "_merged" = true)
    (kf4 : PySem.W.keepIn K (.ref f4) = true)
    (af5 : PySem.W.nsIn K mainGlobals "_law_pot" = some (some (.ref f5)))
    (lf5 : K.lookup f5 = some ⟨ocf5, odf5, .func (PySem.W.fnOf "_law_pot" "_law_pot" (defArgs sPot) (defBody sPot) (defScope sPot) .none kVf5 dcf5 pmf5 anf5 cdf5 ctf5), slf5⟩)
    (cf5 : PySem.W.codeIn K cdf5 "_law_pot" = true)
    (kf5 : PySem.W.keepIn K (.ref f5) = true)
    (af6 : PySem.W.nsIn K mainGlobals "_law_draw" = some (some (.ref f6)))
    (lf6 : K.lookup f6 = some ⟨ocf6, odf6, .func (PySem.W.fnOf "_law_draw" "_law_draw" (defArgs sDraw) (defBody sDraw) (defScope sDraw) .none kVf6 dcf6 pmf6 anf6 cdf6 ctf6), slf6⟩)
    (cf6 : PySem.W.codeIn K cdf6 "_law_draw" = true)
    (kf6 : PySem.W.keepIn K (.ref f6) = true)
    (af7 : PySem.W.nsIn K mainGlobals "_law_any" = some (some (.ref f7)))
    (lf7 : K.lookup f7 = some ⟨ocf7, odf7, .func (PySem.W.fnOf "_law_any" "_law_any" (defArgs sAny) (defBody sAny) (defScope sAny) .none kVf7 dcf7 pmf7 anf7 cdf7 ctf7), slf7⟩)
    (cf7 : PySem.W.codeIn K cdf7 "_law_any" = true)
    (kf7 : PySem.W.keepIn K (.ref f7) = true)
    (af8 : PySem.W.nsIn K mainGlobals "_law_places" = some (some (.ref f8)))
    (lf8 : K.lookup f8 = some ⟨ocf8, odf8, .func (PySem.W.fnOf "_law_places" "_law_places" (defArgs sPlaces) (defBody sPlaces) (defScope sPlaces) .none kVf8 dcf8 pmf8 anf8 cdf8 ctf8), slf8⟩)
    (cf8 : PySem.W.codeIn K cdf8 "_law_places" = true)
    (kf8 : PySem.W.keepIn K (.ref f8) = true)
    (af9 : PySem.W.nsIn K mainGlobals "_law_couples" = some (some (.ref f9)))
    (lf9 : K.lookup f9 = some ⟨ocf9, odf9, .func (PySem.W.fnOf "_law_couples" "_law_couples" (defArgs sCouples) (defBody sCouples) (defScope sCouples) .none kVf9 dcf9 pmf9 anf9 cdf9 ctf9), slf9⟩)
    (cf9 : PySem.W.codeIn K cdf9 "_law_couples" = true)
    (kf9 : PySem.W.keepIn K (.ref f9) = true)
    (af10 : PySem.W.nsIn K mainGlobals "_law_drawn" = some (some (.ref f10)))
    (lf10 : K.lookup f10 = some ⟨ocf10, odf10, .func (PySem.W.fnOf "_law_drawn" "_law_drawn" (defArgs sDrawn) (defBody sDrawn) (defScope sDrawn) .none kVf10 dcf10 pmf10 anf10 cdf10 ctf10), slf10⟩)
    (cf10 : PySem.W.codeIn K cdf10 "_law_drawn" = true)
    (kf10 : PySem.W.keepIn K (.ref f10) = true)
    (af11 : PySem.W.nsIn K mainGlobals "_law_odd" = some (some (.ref f11)))
    (lf11 : K.lookup f11 = some ⟨ocf11, odf11, .func (PySem.W.fnOf "_law_odd" "_law_odd" (defArgs sOdd) (defBody sOdd) (defScope sOdd) .none kVf11 dcf11 pmf11 anf11 cdf11 ctf11), slf11⟩)
    (cf11 : PySem.W.codeIn K cdf11 "_law_odd" = true)
    (kf11 : PySem.W.keepIn K (.ref f11) = true)
    (af12 : PySem.W.nsIn K mainGlobals "_law_is_couple" = some (some (.ref f12)))
    (lf12 : K.lookup f12 = some ⟨ocf12, odf12, .func (PySem.W.fnOf "_law_is_couple" "_law_is_couple" (defArgs sCouple) (defBody sCouple) (defScope sCouple) .none kVf12 dcf12 pmf12 anf12 cdf12 ctf12), slf12⟩)
    (cf12 : PySem.W.codeIn K cdf12 "_law_is_couple" = true)
    (kf12 : PySem.W.keepIn K (.ref f12) = true)
    (af13 : PySem.W.nsIn K mainGlobals "_law_made" = some (some (.ref f13)))
    (lf13 : K.lookup f13 = some ⟨ocf13, odf13, .func (PySem.W.fnOf "_law_made" "_law_made" (defArgs sMade) (defBody sMade) (defScope sMade) .none kVf13 dcf13 pmf13 anf13 cdf13 ctf13), slf13⟩)
    (cf13 : PySem.W.codeIn K cdf13 "_law_made" = true)
    (kf13 : PySem.W.keepIn K (.ref f13) = true)
    (af14 : PySem.W.nsIn K mainGlobals "_law_met" = some (some (.ref f14)))
    (lf14 : K.lookup f14 = some ⟨ocf14, odf14, .func (PySem.W.fnOf "_law_met" "_law_met" (defArgs sMet) (defBody sMet) (defScope sMet) .none kVf14 dcf14 pmf14 anf14 cdf14 ctf14), slf14⟩)
    (cf14 : PySem.W.codeIn K cdf14 "_law_met" = true)
    (kf14 : PySem.W.keepIn K (.ref f14) = true)
    (af15 : PySem.W.nsIn K mainGlobals "_law_is_right" = some (some (.ref f15)))
    (lf15 : K.lookup f15 = some ⟨ocf15, odf15, .func (PySem.W.fnOf "_law_is_right" "_law_is_right" (defArgs sIsRight) (defBody sIsRight) (defScope sIsRight) .none kVf15 dcf15 pmf15 anf15 cdf15 ctf15), slf15⟩)
    (cf15 : PySem.W.codeIn K cdf15 "_law_is_right" = true)
    (kf15 : PySem.W.keepIn K (.ref f15) = true)
    (af16 : PySem.W.nsIn K mainGlobals "_law_right" = some (some (.ref f16)))
    (lf16 : K.lookup f16 = some ⟨ocf16, odf16, .func (PySem.W.fnOf "_law_right" "_law_right" (defArgs sRight) (defBody sRight) (defScope sRight) .none kVf16 dcf16 pmf16 anf16 cdf16 ctf16), slf16⟩)
    (cf16 : PySem.W.codeIn K cdf16 "_law_right" = true)
    (kf16 : PySem.W.keepIn K (.ref f16) = true)
    (af17 : PySem.W.nsIn K mainGlobals "law" = some (some (.ref f17)))
    (lf17 : K.lookup f17 = some ⟨ocf17, odf17, .func (PySem.W.fnOf "law" "law" (defArgs sLaw) (defBody sLaw) (defScope sLaw) .none kVf17 dcf17 pmf17 anf17 cdf17 ctf17), slf17⟩)
    (cf17 : PySem.W.codeIn K cdf17 "law" = true)
    (kf17 : PySem.W.keepIn K (.ref f17) = true)
    (am1 : PySem.W.findIn K (.ref C) "__init__" = some (some (.ref m1)))
    (im1 : PySem.W.isFn K (.ref m1) = true)
    (lm1 : K.lookup m1 = some ⟨ocm1, odm1, .func (PySem.W.fnOf "__init__" "Spans.__init__" (defArgs sInit) (defBody sInit) (defScope sInit) .none kVm1 dcm1 pmm1 anm1 cdm1 ctm1), slm1⟩)
    (cm1 : PySem.W.codeIn K cdm1 "Spans.__init__" = true)
    (km1 : PySem.W.keepIn K (.ref m1) = true)
    (am2 : PySem.W.findIn K (.ref C) "__len__" = some (some (.ref m2)))
    (im2 : PySem.W.isFn K (.ref m2) = true)
    (lm2 : K.lookup m2 = some ⟨ocm2, odm2, .func (PySem.W.fnOf "__len__" "Spans.__len__" (defArgs sLen) (defBody sLen) (defScope sLen) .none kVm2 dcm2 pmm2 anm2 cdm2 ctm2), slm2⟩)
    (cm2 : PySem.W.codeIn K cdm2 "Spans.__len__" = true)
    (km2 : PySem.W.keepIn K (.ref m2) = true)
    (am3 : PySem.W.findIn K (.ref C) "__contains__" = some (some (.ref m3)))
    (im3 : PySem.W.isFn K (.ref m3) = true)
    (lm3 : K.lookup m3 = some ⟨ocm3, odm3, .func (PySem.W.fnOf "__contains__" "Spans.__contains__" (defArgs sIn) (defBody sIn) (defScope sIn) .none kVm3 dcm3 pmm3 anm3 cdm3 ctm3), slm3⟩)
    (cm3 : PySem.W.codeIn K cdm3 "Spans.__contains__" = true)
    (km3 : PySem.W.keepIn K (.ref m3) = true)
    (am4 : PySem.W.findIn K (.ref CB) "__init__" = some (some (.ref m4)))
    (im4 : PySem.W.isFn K (.ref m4) = true)
    (lm4 : K.lookup m4 = some ⟨ocm4, odm4, .func (PySem.W.fnOf "__init__" "BadSpans.__init__" (defArgs sBad) (defBody sBad) (defScope sBad) .none kVm4 dcm4 pmm4 anm4 cdm4 ctm4), slm4⟩)
    (cm4 : PySem.W.codeIn K cdm4 "BadSpans.__init__" = true)
    (km4 : PySem.W.keepIn K (.ref m4) = true)
    (pg : PySem.W.plainGet K C Str.empty = true)
    (hd : PySem.W.hasDictIn K C = true)
    (po : PySem.W.plainOver K C = true)
    (sa : PySem.W.findIn K (.ref C) "__setattr__" = some (some (.builtin "object.__setattr__")))
    (mk : PySem.W.makesIn K C = true)
    (kc : PySem.W.keepIn K (.ref C) = true)
    (nP : PySem.W.findIn K (.ref C) "pairs" = some none)
    (sf : PySem.W.selfFirst K C = true)
    (nfC : PySem.W.notFirst K C (.ref C) = true)
    (nfT : PySem.W.notFirst K C (.type "tuple") = true)
    (nfI : PySem.W.notFirst K C (.type "int") = true)
    (kCC : PySem.W.kitOne K (.ref C) (.ref C) = some true)
    (kTC : PySem.W.kitOne K (.type "tuple") (.ref C) = some false)
    (kIC : PySem.W.kitOne K (.type "int") (.ref C) = some false)
    (ca : PySem.W.findIn K (.ref C) "__class__" = some (some (.builtin "object.__class__")))
    (cn : PySem.W.specialIn K (.builtin "object.__class__") "__get__" = some (some (.builtin "getset_descriptor.__get__")))
    (ct_ : PySem.W.takesIn K (.builtin "object.__class__") = some true)
    (cm : PySem.W.mroIn K C (.type "object") = some true)
    (xL : K.lookup CB = some (excClassObj xnm xq CB xN xbs [.ref CK, .type "ValueError", .type "Exception", .type "BaseException", .type "object"] true xsn xsub xab xcol xdd x0 x1 x2 x3 x5 "ValueError.__new__"))
    (xsa : PySem.W.findIn K (.ref CB) "__setattr__" = some (some (.builtin "object.__setattr__")))
    (xeC : PySem.W.subIn K (.ref CB) (.type "BaseException") = some true)
    (xtC : PySem.W.typeIn K (.ref CB) = some (.type "type"))
    (xkC : PySem.W.keepIn K (.ref CB) = true)
    (xga : PySem.W.findIn K (.ref CB) "__getattribute__" = some (some (.builtin "BaseException.__getattribute__")))
    (xgg : PySem.W.findIn K (.ref CB) "__getattr__" = some none)
    (xhd : PySem.W.hasDictIn K CB = true)
    (xca : PySem.W.findIn K (.ref CB) "__class__" = some (some (.builtin "object.__class__")))
    (xcm : PySem.W.mroIn K CB (.type "object") = some true)
    (xnv : PySem.W.findIn K (.ref CB) "value" = some none)
    (xtf : PySem.W.typeIn K (.ref m4) = some (.type "function"))
    (xBB : PySem.W.kitOne K (.ref CB) (.ref CB) = some true)
    (xBV : PySem.W.kitOne K (.ref CB) (.type "ValueError") = some true)
    (ysp : PySem.W.specialIn K (.ref CK) "__getattribute__" = some (some (.builtin "type.__getattribute__")))
    (yty : PySem.W.typeIn K (.ref CK) = some (.type "type"))
    (yrd : PySem.W.readsIn K CK (.type "type") = true)
    (yvi : PySem.W.findCls K (.ref CK) (.type "type") "__init__" = some (.val (.builtin "ValueError.__init__")))
    (yeC : PySem.W.subIn K (.ref CK) (.type "BaseException") = some true)
    (yhd : PySem.W.hasDictIn K CK = true)
    (yBK : PySem.W.subIn K (.ref CB) (.ref CK) = some true)
    (z_isinstance : PySem.W.nsIn K mainGlobals "isinstance" = some none)
    (z_bool : PySem.W.nsIn K mainGlobals "bool" = some none)
    (z_int : PySem.W.nsIn K mainGlobals "int" = some none)
    (z_tuple : PySem.W.nsIn K mainGlobals "tuple" = some none)
    (z_len : PySem.W.nsIn K mainGlobals "len" = some none)
    (z_sorted : PySem.W.nsIn K mainGlobals "sorted" = some none)
    (z_max : PySem.W.nsIn K mainGlobals "max" = some none)
    (z_min : PySem.W.nsIn K mainGlobals "min" = some none)
    (z_all : PySem.W.nsIn K mainGlobals "all" = some none)
    (z_any : PySem.W.nsIn K mainGlobals "any" = some none)
    (z_range : PySem.W.nsIn K mainGlobals "range" = some none)
    (z_sum : PySem.W.nsIn K mainGlobals "sum" = some none)
    (z_abs : PySem.W.nsIn K mainGlobals "abs" = some none)
    (z_dict : PySem.W.nsIn K mainGlobals "dict" = some none)
    (z_list : PySem.W.nsIn K mainGlobals "list" = some none)
    (z_repr : PySem.W.nsIn K mainGlobals "repr" = some none)
    (z_ValueError : PySem.W.nsIn K mainGlobals "ValueError" = some none)
    (zE : PySem.W.nsIn K mainGlobals "END" = some (some (.int 1000000 tE)))
    : ∃ fd : FuncData, (∀ (s : Shared) (v : Value), BindsTo s fd ⟨[v], []⟩ [("_law_script", v)]) ∧ ∀ base : Heap, K.In base → base.Ns mainGlobals mg → (∃ o, base.get? sysModules = some o) → FnG l.prog w K mg base 9 fa fd ["_law_script"] (spLaw K) := by
  have e := hfa.symm.trans (PySem.W.mg_of X G af17)
  cases e
  have T : Names mg := ⟨PySem.W.mg_none_of X G z_isinstance, PySem.W.mg_none_of X G z_bool, PySem.W.mg_none_of X G z_int, PySem.W.mg_none_of X G z_tuple, PySem.W.mg_none_of X G z_len, PySem.W.mg_none_of X G z_sorted, PySem.W.mg_none_of X G z_max, PySem.W.mg_none_of X G z_min, PySem.W.mg_none_of X G z_all, PySem.W.mg_none_of X G z_any, PySem.W.mg_none_of X G z_range, PySem.W.mg_none_of X G z_sum, PySem.W.mg_none_of X G z_abs, PySem.W.mg_none_of X G z_dict, PySem.W.mg_none_of X G z_list, ⟨tE, PySem.W.mg_of X G zE⟩⟩
  have S : SpCls K mg C := ⟨⟨pg, hd, po, sa⟩, nP, PySem.W.mg_of X G aC, sf, nfC, nfT, nfI, kCC, kTC, kIC, ca, cn, ct_, cm⟩
  have OX : OexC K CB := ⟨⟨xnm, xq, xN, xbs, _, xsn, xsub, xab, xcol, xdd, x0, x1, x2, x3, x5, xL, by rfl⟩, xsa, xeC, xtC, xkC⟩
  have B : BadC K mg CB CK m4 := ⟨OX, ⟨ysp, yty, yrd, yvi⟩, PySem.W.mg_of X G aCB, PySem.W.mg_of X G aCK, xnv, am4, xtf⟩
  have Z : MetC K mg CB CK := ⟨PySem.W.mg_none_of X G z_repr, PySem.W.mg_none_of X G z_ValueError, PySem.W.mg_of X G aCB, PySem.W.mg_of X G aCK, PySem.W.exm_ref yeC yhd yty yBK, ⟨xga, xgg, xeC, xhd, xca, cn, ct_, xcm⟩, ⟨xga, xgg, xeC, xhd⟩, xnv, xBB, xBV⟩
  have Ff1 := fun_mk (st := sWhole) lf1 cf1 kf1
  have Ff2 := fun_mk (st := sWithin) lf2 cf2 kf2
  have Ff3 := fun_mk (st := sIsPair) lf3 cf3 kf3
  have Ff4 := fun_mk (st := sMerged) lf4 cf4 kf4
  have Ff5 := fun_mk (st := sPot) lf5 cf5 kf5
  have Ff6 := fun_mk (st := sDraw) lf6 cf6 kf6
  have Ff7 := fun_mk (st := sAny) lf7 cf7 kf7
  have Ff8 := fun_mk (st := sPlaces) lf8 cf8 kf8
  have Ff9 := fun_mk (st := sCouples) lf9 cf9 kf9
  have Ff10 := fun_mk (st := sDrawn) lf10 cf10 kf10
  have Ff11 := fun_mk (st := sOdd) lf11 cf11 kf11
  have Ff12 := fun_mk (st := sCouple) lf12 cf12 kf12
  have Ff13 := fun_mk (st := sMade) lf13 cf13 kf13
  have Ff14 := fun_mk (st := sMet) lf14 cf14 kf14
  have Ff15 := fun_mk (st := sIsRight) lf15 cf15 kf15
  have Ff16 := fun_mk (st := sRight) lf16 cf16 kf16
  have Ff17 := fun_mk (st := sLaw) lf17 cf17 kf17
  have Fm1 := fun_mk (st := sInit) lm1 cm1 km1
  have Fm2 := fun_mk (st := sLen) lm2 cm2 km2
  have Fm3 := fun_mk (st := sIn) lm3 cm3 km3
  have Fm4 := fun_mk (st := sBad) lm4 cm4 km4
  have bf1 := Ff1.binds (ps := ["value"]) fun _ _ _ _ _ _ us hl => match us, hl with | [_], _ => rfl
  have bf2 := Ff2.binds (ps := ["value", "least", "most"]) fun _ _ _ _ _ _ us hl => match us, hl with | [_, _, _], _ => rfl
  have bf3 := Ff3.binds (ps := ["value"]) fun _ _ _ _ _ _ us hl => match us, hl with | [_], _ => rfl
  have bf4 := Ff4.binds (ps := ["pairs"]) fun _ _ _ _ _ _ us hl => match us, hl with | [_], _ => rfl
  have bf5 := Ff5.binds (ps := ["_law_script", "_law_k"]) fun _ _ _ _ _ _ us hl => match us, hl with | [_, _], _ => rfl
  have bf6 := Ff6.binds (ps := ["_law_pot_here", "_law_many"]) fun _ _ _ _ _ _ us hl => match us, hl with | [_, _], _ => rfl
  have bf7 := Ff7.binds (ps := ["_law_pot_here", "_law_items"]) fun _ _ _ _ _ _ us hl => match us, hl with | [_, _], _ => rfl
  have bf8 := Ff8.binds (ps := ["_law_couples_here"]) fun _ _ _ _ _ _ us hl => match us, hl with | [_], _ => rfl
  have bf9 := Ff9.binds (ps := ["_law_places_here"]) fun _ _ _ _ _ _ us hl => match us, hl with | [_], _ => rfl
  have bf10 := Ff10.binds (ps := ["_law_pot_here", "_law_most", "_law_wide"]) fun _ _ _ _ _ _ us hl => match us, hl with | [_, _, _], _ => rfl
  have bf11 := Ff11.binds (ps := ["_law_pot_here"]) fun _ _ _ _ _ _ us hl => match us, hl with | [_], _ => rfl
  have bf12 := Ff12.binds (ps := ["_law_thing"]) fun _ _ _ _ _ _ us hl => match us, hl with | [_], _ => rfl
  have bf13 := Ff13.binds (ps := ["_law_some"]) fun _ _ _ _ _ _ us hl => match us, hl with | [_], _ => rfl
  have bf14 := Ff14.binds (ps := ["_law_some"]) fun _ _ _ _ _ _ us hl => match us, hl with | [_], _ => rfl
  have bf15 := Ff15.binds (ps := ["_law_spans", "_law_places_here"]) fun _ _ _ _ _ _ us hl => match us, hl with | [_, _], _ => rfl
  have bf16 := Ff16.binds (ps := ["_law_pot_here"]) fun _ _ _ _ _ _ us hl => match us, hl with | [_], _ => rfl
  have bf17 := Ff17.binds (ps := ["_law_script"]) fun _ _ _ _ _ _ us hl => match us, hl with | [_], _ => rfl
  have bm2 := Fm2.binds (ps := ["self"]) fun _ _ _ _ _ _ us hl => match us, hl with | [_], _ => rfl
  have bm3 := Fm3.binds (ps := ["self", "x"]) fun _ _ _ _ _ _ us hl => match us, hl with | [_, _], _ => rfl
  have bm4 := Fm4.binds (ps := ["self", "value"]) fun _ _ _ _ _ _ us hl => match us, hl with | [_, _], _ => rfl
  refine ⟨PySem.W.fnOf "law" "law" (defArgs sLaw) (defBody sLaw) (defScope sLaw) .none kVf17 dcf17 pmf17 anf17 cdf17 ctf17, fun s v => .of_eq rfl, fun base _ _ hB => ?_⟩
  have gWh := ok_whole (P := l.prog) (w := w) (mg := mg) (base := base) Ff1 T
  have gW := ok_within Ff2 gWh (PySem.W.mg_of X G af1) kf1 bf1
  have gP := ok_isPair Ff3 T gW (PySem.W.mg_of X G af2) kf2 bf2
  have gM := ok_merged (P := l.prog) (w := w) (mg := mg) (base := base) Ff4 T
  have gB := ok_bad (P := l.prog) (w := w) (mg := mg) (base := base) Fm4 B
  have M : Mk K C m1 := ⟨mk, am1, im1, kc⟩
  have gI := ok_initX Fm1 T S B gP (PySem.W.mg_of X G af3) kf3 bf3 gM (PySem.W.mg_of X G af4) kf4 bf4 gB bm4
  have rL : FnR l.prog w K mg base CX0 3 m2 (spLen C) := (((FnOk.raw (ok_len (P := l.prog) (w := w) (mg := mg) (base := base) Fm2 T S) bm2 .nil).imp fun vs H Q E h => by rw [List.append_nil]; exact h)).mono (by decide)
  have rI : FnR l.prog w K mg base CX0 3 m3 (spIn C) := ((FnOk.raw (ok_in Fm3 T S gW (PySem.W.mg_of X G af2) kf2 bf2) bm3 .nil).imp fun vs H Q E h => by rw [List.append_nil]; exact h)
  have B3 : Sp3 l.prog w K mg base C := ⟨S, _, ⟨am2, im2⟩, rL, _, ⟨am3, im3⟩, rI⟩
  have gDr := ok_draw (P := l.prog) (w := w) (mg := mg) (base := base) Ff6 T
  have gAn := ok_any Ff7 T gDr (PySem.W.mg_of X G af6) kf6 bf6
  have gPo := ok_pot (P := l.prog) (w := w) (mg := mg) (base := base) Ff5 T
  have gPl := ok_places (P := l.prog) (w := w) (mg := mg) (base := base) Ff8 T
  have gCo := ok_couples (P := l.prog) (w := w) (mg := mg) (base := base) Ff9 T
  have gDn := ok_drawn Ff10 T gDr (PySem.W.mg_of X G af6) kf6 bf6 gAn (PySem.W.mg_of X G af7) kf7 bf7
  have gOd := ok_odd Ff11 T gAn (PySem.W.mg_of X G af7) kf7 bf7
  have gCp := ok_couple (P := l.prog) (w := w) (mg := mg) (base := base) Ff12 T
  have gMa := ok_made Ff13 T S M gI
  have gMt := ok_met Ff14 T Z hB gMa (PySem.W.mg_of X G af13) kf13 bf13
  have gIs := ok_isR Ff15 T B3 gCo (PySem.W.mg_of X G af9) kf9 bf9
  have D : Dfs l.prog w K mg base C := ⟨_, _, gPl, PySem.W.mg_of X G af8, kf8, bf8, _, _, gDn, PySem.W.mg_of X G af10, kf10, bf10, _, _, gDr, PySem.W.mg_of X G af6, kf6, bf6, _, _, gOd, PySem.W.mg_of X G af11, kf11, bf11, _, _, gCp, PySem.W.mg_of X G af12, kf12, bf12, _, _, gMt, PySem.W.mg_of X G af14, kf14, bf14, _, _, gIs, PySem.W.mg_of X G af15, kf15, bf15⟩
  have gRt := ok_right Ff16 T (PySem.W.mg_none_of X G z_repr) hB D
  exact ok_law Ff17 T gRt (PySem.W.mg_of X G af16) kf16 bf16 gPo (PySem.W.mg_of X G af5) kf5 bf5
end Sps
set_option Elab.async false
open PySem PySem.W PyProof.Rows in
set_option maxRecDepth 100000 in
set_option maxHeartbeats 0 in
theorem PySem.Challenge.cw_oneedition_k37_spans_of_any_values_holds : PySem.Challenge.rw_oneedition_k37_spans_of_any_values.Holds := by
  w_on; o_law; k_head; (case hw => w_witness2)
  k_fill
  refine Sps.walkG (l := PySem.Challenge.rw_oneedition_k37_spans_of_any_values) (n := 63) (k := 9) (x := "_law_script") (sp := fun w => Sps.spLaw _) rfl (by decide) rfl (by decide +kernel) ⟨rfl, by decide, by decide⟩ (fun w h Y => PySem.W.kIn_of Y) ?F (fun _ _ a ns hl _ hS => ⟨a, ns, rfl, hS, hl, fun _ => rfl⟩)
  case F =>
    intro w mg fa h KX G hmg
    refine' Sps.all_mk KX G hmg ?aC ?aCB ?aCK ?af1 ?lf1 ?cf1 ?kf1 ?af2 ?lf2 ?cf2 ?kf2 ?af3 ?lf3 ?cf3 ?kf3 ?af4 ?lf4 ?cf4 ?kf4 ?af5 ?lf5 ?cf5 ?kf5 ?af6 ?lf6 ?cf6 ?kf6 ?af7 ?lf7 ?cf7 ?kf7 ?af8 ?lf8 ?cf8 ?kf8 ?af9 ?lf9 ?cf9 ?kf9 ?af10 ?lf10 ?cf10 ?kf10 ?af11 ?lf11 ?cf11 ?kf11 ?af12 ?lf12 ?cf12 ?kf12 ?af13 ?lf13 ?cf13 ?kf13 ?af14 ?lf14 ?cf14 ?kf14 ?af15 ?lf15 ?cf15 ?kf15 ?af16 ?lf16 ?cf16 ?kf16 ?af17 ?lf17 ?cf17 ?kf17 ?am1 ?im1 ?lm1 ?cm1 ?km1 ?am2 ?im2 ?lm2 ?cm2 ?km2 ?am3 ?im3 ?lm3 ?cm3 ?km3 ?am4 ?im4 ?lm4 ?cm4 ?km4 ?pg ?hd ?po ?sa ?mk ?kc ?nP ?sf ?nfC ?nfT ?nfI ?kCC ?kTC ?kIC ?ca ?cn ?ct_ ?cm ?xL ?xsa ?xeC ?xtC ?xkC ?xga ?xgg ?xhd ?xca ?xcm ?xnv ?xtf ?xBB ?xBV ?ysp ?yty ?yrd ?yvi ?yeC ?yhd ?yBK ?z_isinstance ?z_bool ?z_int ?z_tuple ?z_len ?z_sorted ?z_max ?z_min ?z_all ?z_any ?z_range ?z_sum ?z_abs ?z_dict ?z_list ?z_repr ?z_ValueError ?zE
    (case aC => k_is)
    (case aCB => k_is)
    (case aCK => k_is)
    (case af1 => k_is)
    (case lf1 => k_is)
    (case cf1 => k_is)
    (case kf1 => k_is)
    (case af2 => k_is)
    (case lf2 => k_is)
    (case cf2 => k_is)
    (case kf2 => k_is)
    (case af3 => k_is)
    (case lf3 => k_is)
    (case cf3 => k_is)
    (case kf3 => k_is)
    (case af4 => k_is)
    (case lf4 => k_is)
    (case cf4 => k_is)
    (case kf4 => k_is)
    (case af5 => k_is)
    (case lf5 => k_is)
    (case cf5 => k_is)
    (case kf5 => k_is)
    (case af6 => k_is)
    (case lf6 => k_is)
    (case cf6 => k_is)
    (case kf6 => k_is)
    (case af7 => k_is)
    (case lf7 => k_is)
    (case cf7 => k_is)
    (case kf7 => k_is)
    (case af8 => k_is)
    (case lf8 => k_is)
    (case cf8 => k_is)
    (case kf8 => k_is)
    (case af9 => k_is)
    (case lf9 => k_is)
    (case cf9 => k_is)
    (case kf9 => k_is)
    (case af10 => k_is)
    (case lf10 => k_is)
    (case cf10 => k_is)
    (case kf10 => k_is)
    (case af11 => k_is)
    (case lf11 => k_is)
    (case cf11 => k_is)
    (case kf11 => k_is)
    (case af12 => k_is)
    (case lf12 => k_is)
    (case cf12 => k_is)
    (case kf12 => k_is)
    (case af13 => k_is)
    (case lf13 => k_is)
    (case cf13 => k_is)
    (case kf13 => k_is)
    (case af14 => k_is)
    (case lf14 => k_is)
    (case cf14 => k_is)
    (case kf14 => k_is)
    (case af15 => k_is)
    (case lf15 => k_is)
    (case cf15 => k_is)
    (case kf15 => k_is)
    (case af16 => k_is)
    (case lf16 => k_is)
    (case cf16 => k_is)
    (case kf16 => k_is)
    (case af17 => k_is)
    (case lf17 => k_is)
    (case cf17 => k_is)
    (case kf17 => k_is)
    (case am1 => k_is)
    (case im1 => k_is)
    (case lm1 => k_is)
    (case cm1 => k_is)
    (case km1 => k_is)
    (case am2 => k_is)
    (case im2 => k_is)
    (case lm2 => k_is)
    (case cm2 => k_is)
    (case km2 => k_is)
    (case am3 => k_is)
    (case im3 => k_is)
    (case lm3 => k_is)
    (case cm3 => k_is)
    (case km3 => k_is)
    (case am4 => k_is)
    (case im4 => k_is)
    (case lm4 => k_is)
    (case cm4 => k_is)
    (case km4 => k_is)
    (case pg => k_is)
    (case hd => k_is)
    (case po => k_is)
    (case sa => k_is)
    (case mk => k_is)
    (case kc => k_is)
    (case nP => k_is)
    (case sf => k_is)
    (case nfC => k_is)
    (case nfT => k_is)
    (case nfI => k_is)
    (case kCC => kit_is)
    (case kTC => kit_is)
    (case kIC => kit_is)
    (case ca => k_is)
    (case cn => k_is)
    (case ct_ => k_is)
    (case cm => k_is)
    (case xL => k_is)
    (case xsa => k_is)
    (case xeC => k_is)
    (case xtC => k_is)
    (case xkC => k_is)
    (case xga => k_is)
    (case xgg => k_is)
    (case xhd => k_is)
    (case xca => k_is)
    (case xcm => k_is)
    (case xnv => k_is)
    (case xtf => k_is)
    (case xBB => kit_is)
    (case xBV => kit_is)
    (case ysp => k_is)
    (case yty => k_is)
    (case yrd => k_is)
    (case yvi => k_is)
    (case yeC => k_is)
    (case yhd => k_is)
    (case yBK => first | rfl | k_is)
    (case z_isinstance => k_is)
    (case z_bool => k_is)
    (case z_int => k_is)
    (case z_tuple => k_is)
    (case z_len => k_is)
    (case z_sorted => k_is)
    (case z_max => k_is)
    (case z_min => k_is)
    (case z_all => k_is)
    (case z_any => k_is)
    (case z_range => k_is)
    (case z_sum => k_is)
    (case z_abs => k_is)
    (case z_dict => k_is)
    (case z_list => k_is)
    (case z_repr => k_is)
    (case z_ValueError => k_is)
    (case zE => k_is)
