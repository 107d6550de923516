import PyProof.Rows.All
import Wide.All
import OpenK.AllK
import Wide.FinOn
import HandS.ForMost
import HandS.Star
import HandS.More
import HandS.Sort
import HandS.SortRule
import HandS.SortInts
import HandS.IsInst
import HandS.TupAny
import HandS.Wide
import HandS.WideMore
import HandS.ListItems
import HandS.Flow
import HandS.DictEq
import HandS.SlotsOwn
import KE.KOpsOwn
import KE.KRevSl
import PyProof.ListRange
import HandS.Base
import HandS.Walk
import HandS.NoneIn
import HandS.Style
import KE.RegKIsAll
import PySem.Challenge.RW_oneedition_k38_whole_rules_of_spans
set_option Elab.async false
set_option linter.all false
set_option maxRecDepth 100000
set_option maxHeartbeats 4000000
/-! Rules of our own over the hand layer: operators of an own class, sorted over dicts and tuples of any length, dicts compared, ranges, t[::-1]. -/
namespace Sps
open PySem PySem.Spec PyProof.Rows L2
section
variable {X : Cx} {CX : CXT} {n : Nat} {C g : Addr} {sp : Sp} {E : XK}

/-- a & b and its like: both instances of the class at C -/
def rBin (C : Addr) (sp : Sp) (E : XK) : R2 := fun x y H Q => ∃ a dx fs b dy gs, x = .ref a ∧ y = .ref b ∧ H a = some (.ins C dx fs) ∧ H b = some (.ins C dy gs) ∧ sp [x, y] H Q E
theorem op_bin {op : Operator} (hc : PySem.W.selfFirst X.K C = true) (hs : PySem.W.findIn X.K (.ref C) (PySem.dunder op.info.2) = some (some (.ref g))) (hf : PySem.W.isFn X.K (.ref g) = true)
    (F : FnR X.prog X.w X.K X.mg X.base CX n g sp) (hr : Room n X.A) (hx : Passes CX X E) : OpR X (binaryOp op) (rBin C sp E) := by
  intro pins s σ H x y v u Q I rx ry h
  obtain ⟨a, dx, fs, b, dy, gs, rfl, rfl, ha, hb, q⟩ := h
  cases (show v = Value.ref a from rx)
  cases (show u = Value.ref b from ry)
  obtain ⟨mA, OA, _⟩ := ins_get I.hok ha
  obtain ⟨_, JA, _⟩ := OA.look
  obtain ⟨mB, OB, _⟩ := ins_get I.hok hb
  obtain ⟨_, JB, _⟩ := OB.look
  obtain ⟨m, hF⟩ := I.fr
  refine PySem.W.binop_K hF I.ok.mod.kin JA JB.type hc hs hf ?_
  refine wpAny_mono (wpAny_call (run_fnR (us := [.ref a, .ref b]) (vs := [.ref a, .ref b]) F hr hx I (.cons rfl (.cons rfl .nil)) q)) (fun w s' z => ?_) fun _ _ e => e
  obtain ⟨z', H', I', rz, qz⟩ := z
  exact SlX.cmpback rz ⟨z', H', I', rz, qz⟩

/-- a == y by the class's own def: y of any type that is told -/
def rEqO (K : PySem.W.Frag) (C : Addr) (sp : Sp) (E : XK) : R2 := fun x y H Q => ∃ a dx fs, x = .ref a ∧ H a = some (.ins C dx fs) ∧
  ((∃ b dy gs, y = .ref b ∧ H b = some (.ins C dy gs) ∧ PySem.W.notFirst K C (.ref C) = true) ∨ (∃ b ys, y = .ref b ∧ H b = some (.tup ys) ∧ PySem.W.notFirst K C (.type "tuple") = true) ∨ (∃ i, y = .int i ∧ PySem.W.notFirst K C (.type "int") = true)) ∧ sp [x, y] H Q E
theorem op_eqO (hs : PySem.W.findIn X.K (.ref C) "__eq__" = some (some (.ref g))) (hf : PySem.W.isFn X.K (.ref g) = true)
    (F : FnR X.prog X.w X.K X.mg X.base CX n g sp) (hr : Room n X.A) (hx : Passes CX X E) : OpR X (compareOp .Eq) (rEqO X.K C sp E) := by
  intro pins s σ H x y v u Q I rx ry h
  obtain ⟨a, dx, fs, rfl, ha, hy, q⟩ := h
  cases (show v = Value.ref a from rx)
  obtain ⟨mA, OA, _⟩ := ins_get I.hok ha
  obtain ⟨_, JA, _⟩ := OA.look
  obtain ⟨m, hF⟩ := I.fr
  have core : ∀ (tb : Value), PySem.W.Looks (model X.prog X.w) s.heap (typeOf u) tb → PySem.W.notFirst X.K C tb = true → wpAny (model X.prog X.w) X.A (compareOp .Eq (.ref a) u) (EP X pins σ Q) X.xe s := by
    intro tb hb hn
    show wpAny (model X.prog X.w) X.A (richCompare .Eq (.ref a) u) _ _ s
    refine PySem.W.cmp_K (op := .Eq) (tb := tb) hr.units0 hF I.ok.mod.kin JA hb hn hs hf ?_
    refine wpAny_mono (wpAny_call (run_fnR (us := [.ref a, u]) (vs := [.ref a, y]) F hr hx I (.cons rfl (.cons ry .nil)) q)) (fun w s' z => ?_) fun _ _ e => e
    obtain ⟨z', H', I', rz, qz⟩ := z
    exact SlX.cmpback rz ⟨z', H', I', rz, qz⟩
  rcases hy with ⟨b, dy, gs, rfl, hb, hn⟩ | ⟨b, ys, rfl, hb, hn⟩ | ⟨i, rfl, hn⟩
  · cases (show u = Value.ref b from ry)
    obtain ⟨mB, OB, _⟩ := ins_get I.hok hb
    obtain ⟨_, JB, _⟩ := OB.look
    exact core _ JB.type hn
  · cases (show u = Value.ref b from ry)
    obtain ⟨_, _, _, o, h1, h2, _⟩ := (show ObjOk X.prog X.w H s.heap b (.tup ys) from I.hok b _ hb)
    have hT : PySem.W.Looks (model X.prog X.w) s.heap (typeOf (.ref b)) o.cls := (PySem.W.Looks.ld h1).andThen .now
    rw [h2] at hT
    exact core _ hT hn
  · obtain ⟨t, e⟩ := (show ∃ t, u = Value.int i t from ry)
    subst e
    exact core _ (PySem.W.Looks.of_pure rfl) hn

/-- len(a) by the class's own def -/
def rLenO (C : Addr) (sp : Sp) (E : XK) : List V → Hp → VK → Prop := fun xs H Q => ∃ a dx fs, xs = [.ref a] ∧ H a = some (.ins C dx fs) ∧ sp [.ref a] H (fun v H' => ∃ i : Int, v = .int i ∧ 0 ≤ i ∧ i < 2 ^ 63 ∧ Q (.int i) H') E
theorem call_lenO (hs : PySem.W.findIn X.K (.ref C) "__len__" = some (some (.ref g))) (hf : PySem.W.isFn X.K (.ref g) = true)
    (F : FnR X.prog X.w X.K X.mg X.base CX n g sp) (hr : Room (n + 1) X.A) (hx : Passes CX X E) : CallR X (.builtin "len") (rLenO C sp E) := by
  intro pins s σ H xs us Q I r h
  obtain ⟨a, dx, fs, rfl, ha, q⟩ := h
  obtain ⟨u, rfl, ru⟩ := r.one
  cases (show u = Value.ref a from ru)
  obtain ⟨mA, OA, _⟩ := ins_get I.hok ha
  obtain ⟨_, JA, _⟩ := OA.look
  obtain ⟨m, hF⟩ := I.fr
  refine PySem.W.len_K hF I.ok.mod.kin JA hs hf ?_
  refine wpAny_mono (wpAny_call (SlX.run_at (us := [.ref a]) (ws := [.ref a]) F hr.in1 I.env0.in1 hx I (.cons rfl .nil) q)) (fun w s' z => ?_) fun _ _ e => e
  obtain ⟨z', H', I', rz, i, rfl, h0, h1, qz⟩ := z
  obtain ⟨t, e⟩ := (show ∃ t, w = Value.int i t from rz)
  subst e
  exact ⟨⟨h0, h1⟩, .int i, H', I'.tok _, ⟨_, rfl⟩, qz⟩

/-! ### sorted -/
/-- sorted(d), d a dict of ints, of any length -/
def rSortD : List V → Hp → VK → Prop := fun xs H Q => ∃ (a : Addr) (kvs : List (Key × V)) (ks : List Int), xs = [.ref a] ∧ Rd H a (.dK kvs) ∧ kvs.map (·.1) = ks.map Sum.inl ∧
  ∀ (ys : List Int) (p : Addr), ys.Perm ks → ys.Pairwise (· ≤ ·) → H p = none → Q (.ref p) (upd H p (.lst (ys.map V.int)))
theorem call_sortD (hcalm : X.calm = true) : CallR X (.builtin "sorted") rSortD := by
  intro pins s σ H xs us Q I r q
  obtain ⟨a, kvs, ks, ex, hd, hks, q⟩ := q
  subst ex
  obtain ⟨u, eu, rx⟩ := vals1 r
  subst eu
  cases rx
  obtain ⟨z, lo, vs, rel, dd⟩ := dk_rd I.hok hd
  obtain ⟨ep, hat⟩ := dd.dictAt
  have hkeys : vs.map (·.1) = ks.map Sum.inl := rel.keys.symm.trans hks
  have hl : vs.length = ks.length := by
    have e := congrArg List.length hkeys
    rw [List.length_map, List.length_map] at e
    exact e
  have hl2 : kvs.length = ks.length := by
    have e := congrArg List.length hks
    rw [List.length_map, List.length_map] at e
    exact e
  have h16 : vs.length ≤ sizeLine := by rw [hl, ← hl2]; exact z
  refine Calls.call_function_entry PyProof.Rows.kind_sorted PyProof.Rows.plain_sorted PyProof.Rows.entry_sorted (PyProof.Rows.args_sorted1 _) ?_
  unfold Builtin.«sorted»
  refine wpAny_bind (m := checkCount "sorted" 1 1 _) (wpAny_pure ?_)
  refine wpAny_bind (PySem.W.kdu_collect (A := X.A.in1) (PySem.W.kdl_dict (knd := mixKind X.prog X.w) (kvs := vs) (ep := ep) lo) (I.ok.hd hcalm) hat h16 fun h' tk acc hk hacc => ?_)
  have hal : acc.toList.length = ks.length := by rw [Array.length_toList, hacc.1, hl]
  have hS : IntsAre acc.toList ks := ints_each hal fun j v e => by
    obtain ⟨k, x, e1, e2⟩ := hacc.2 j v (by rw [← Array.getElem?_toList]; exact e)
    have e3 : (vs.map (·.1))[j]? = some k := by rw [List.getElem?_map, e1]; rfl
    rw [hkeys, List.getElem?_map] at e3
    cases e4 : ks[j]? with
    | none => rw [e4] at e3; cases e3
    | some y =>
      rw [e4] at e3
      have e5 : Sum.inl y = k := Option.some.inj e3
      subst e5
      rcases keyIs_shape (show keyIs (Sum.inl y) v = true from e2) with ⟨i, t, ek, ev⟩ | ⟨z, t, ek, ev⟩
      · cases ek
        exact ⟨y, t, rfl, ev⟩
      · cases ek
  have I1 : Inv X pins σ H { s with heap := h', toks := tk } := I.kept hk
  have hal2 : acc.toList.length ≤ sizeLine := by rw [hal, ← hl2]; exact z
  refine wpAny_bind (wpAny_newList ?_ hal2)
  have hoL : (h'.push (seqObj "list" acc.toList.toArray 0)).get? h'.objs.size = some (seqObj "list" acc.toList.toArray 0) := Heap.get?_push_size _ rfl
  show wpAny _ _ _ _ _ { s with heap := h'.push (seqObj "list" acc.toList.toArray 0), toks := tk }
  refine wpAny_bind (wpAny_holding (wpAny_call_entry PyProof.Rows.slot_list_sort ⟨_, hoL, rfl⟩ PyProof.Rows.entry_list_sort
    (SrtO.list_sort_ord SrtO.swo_int hoL hal2 (fun h2 => SrtO.ints_sortable hS h2) fun out g1 g2 => ⟨.none, rfl, ?_⟩) (PyProof.Rows.args_list_sort _)))
  obtain ⟨k1, k2, k3⟩ := SrtO.ints_out hS g1 g2
  obtain ⟨e', he'⟩ := PyProof.Rows.sortedHeap_at (vs := acc.toList) (out := out.toArray) hoL
  have hlen : ((out.map SrtO.iv).map V.int).length ≤ sizeLine := by
    rw [List.length_map, k2.length_eq, ← hl2]
    exact z
  refine wpAny_pure ⟨_, rfl, .ref h'.objs.size, upd H h'.objs.size (.lst ((out.map SrtO.iv).map V.int)), I1.laid (t' := tk) (fun b u e => ?_) (Nat.le_refl _)
    (show ObjOk X.prog X.w _ _ _ (.lst ((out.map SrtO.iv).map V.int)) from ⟨hlen, out, e', vals_of_ints k1, he'⟩), rfl, q _ _ k2 k3 (I1.hok.fresh (Nat.le_refl _))⟩
  have hb : b < h'.objs.size := Heap.lt_size e
  rw [PyProof.Rows.sortedHeap_old (Nat.ne_of_lt hb) (by rw [size_push']; exact Nat.lt_succ_of_lt hb)]
  exact Heap.get?_push_of_some _ e

/-- sorted(t), t a tuple of pairs of ints, of any length -/
def rSortT (K : PySem.W.Frag) : List V → Hp → VK → Prop := fun vs H Q => ∃ (a : Addr) (xs : List V) (k : V → Int × Int), vs = [V.ref a] ∧ SqT K H a xs ∧ (∀ x ∈ xs, ∃ t, x = V.ref t ∧ H t = some (.tup [.int (k x).1, .int (k x).2])) ∧
  ∀ ys p, SrtO.Srtd (ltP k) ys → ys.Perm xs → H p = none → Q (.ref p) (upd H p (.lst ys))
theorem call_sortT : CallR X (.builtin "sorted") (rSortT X.K) := by
  intro pins s σ H vs us Q I r h
  obtain ⟨a, xs, k, rfl, hs, hx, q⟩ := h
  obtain ⟨its, rv, ⟨o, ho, hc, n, hd⟩, hz⟩ := I.tuple hs
  obtain ⟨u, rfl, ru⟩ := vals1 r
  obtain rfl : u = Value.ref a := ru
  obtain ⟨e1, e2⟩ := refs_back rv fun x m => by
    obtain ⟨t, e, _⟩ := hx x m
    exact ⟨t, e⟩
  have hp : ∀ v ∈ its, Srt.IsPair s.heap v (k (backV v)).1 (k (backV v)).2 := fun v hv => by
    obtain ⟨t, rfl⟩ := e2 v hv
    have hm : V.ref t ∈ xs := by rw [e1]; exact List.mem_map.mpr ⟨_, hv, rfl⟩
    obtain ⟨t', e, ht⟩ := hx _ hm
    cases e
    obtain ⟨_, its2, r2, o2, ho2, hc2, n2, hd2⟩ := I.hok _ _ ht
    obtain ⟨u1, u2, rfl, ri, rj⟩ := vals2 r2
    obtain ⟨t1, rfl⟩ := ri
    obtain ⟨t2, rfl⟩ := rj
    exact ⟨t, o2, t1, t2, n2, rfl, ho2, hc2, hd2⟩
  have hz2 : its.length ≤ sizeLine := by rw [← rv.length]; exact hz
  refine Calls.call_function_entry PyProof.Rows.kind_sorted PyProof.Rows.plain_sorted PyProof.Rows.entry_sorted (PyProof.Rows.args_sorted1 _) ?_
  unfold Builtin.«sorted»
  refine wpAny_bind (m := checkCount "sorted" 1 1 _) (wpAny_pure ?_)
  refine wpAny_bind (wpAny_collect_seq a (.inr rfl) ho hc hd (fun h' hk => ?_) (by rw [List.size_toArray]; exact hz2))
  have et : its.toArray.toList = its := by simp
  rw [et]
  have I1 : Inv X pins σ H { s with heap := h' } := I.kept (t' := s.toks) hk
  refine wpAny_bind (wpAny_newList ?_ hz2)
  have hoL : (h'.push (seqObj "list" its.toArray 0)).get? h'.objs.size = some (seqObj "list" its.toArray 0) := Heap.get?_push_size _ rfl
  show wpAny _ _ _ _ _ { s with heap := h'.push (seqObj "list" its.toArray 0) }
  refine wpAny_bind (wpAny_holding (wpAny_call_entry PyProof.Rows.slot_list_sort ⟨_, hoL, rfl⟩ PyProof.Rows.entry_list_sort
    (SrtO.list_sort_ord (SrtO.swo_lex fun u => k (backV u)) hoL hz2 (fun h2 => SrtO.pairs_sortableO (by omega) (fun v hv => (hp v hv).keeps fun b o e _ => Heap.get?_push_of_some _ (hk b o e)) fun o e => ?_) fun out g1 g2 => ⟨.none, rfl, ?_⟩) (PyProof.Rows.args_list_sort _)))
  · have e' : some o = some (seqObj "list" its.toArray 0) := e.symm.trans hoL
    cases e'
    intro c
    exact absurd (Value.type.inj c) (by decide)
  · have h3 : ∀ u ∈ out, ∃ a, u = Value.ref a := fun u hu => e2 u (g2.perm.mem_iff.mp hu)
    obtain ⟨ep, he'⟩ := PyProof.Rows.sortedHeap_at (vs := its) (out := out.toArray) hoL
    have hb : SrtO.Stb (ltP k) (out.map backV) xs := by
      rw [e1]
      exact SrtO.Stb.map (ltP_swo k) backV g2
    have hlen : (out.map backV).length ≤ sizeLine := by
      rw [hb.len]
      exact hz
    refine wpAny_pure ⟨_, rfl, .ref h'.objs.size, upd H h'.objs.size (.lst (out.map backV)), I1.laid (t' := s.toks) (fun b u e => ?_) (Nat.le_refl _)
      (show ObjOk X.prog X.w _ _ _ (.lst (out.map backV)) from ⟨hlen, out, ep, vals_back h3, he'⟩), rfl, q _ _ (SrtO.srtd_map g1) hb.perm (I1.hok.fresh (Nat.le_refl _))⟩
    have hb : b < h'.objs.size := Heap.lt_size e
    rw [PyProof.Rows.sortedHeap_old (Nat.ne_of_lt hb) (by rw [size_push']; exact Nat.lt_succ_of_lt hb)]
    exact Heap.get?_push_of_some _ e

/-! ### dicts compared -/
/-- how d == e comes out, where every value is True -/
def sameKeys (ka kb : List (Key × V)) : Bool := ka.length == kb.length && ka.all fun p => (valV kb p.1).isSome
def rEqDB : R2 := fun x y H Q => ∃ a b ka kb, x = .ref a ∧ y = .ref b ∧ H a = some (.dK ka) ∧ H b = some (.dK kb) ∧ (∀ p ∈ ka, p.2 = V.bl true) ∧ (∀ p ∈ kb, p.2 = V.bl true) ∧ Q (.bl (sameKeys ka kb)) H
theorem valV_val {kb : List (Key × V)} {k : Key} {v : V} (h : ∀ p ∈ kb, p.2 = V.bl true) (e : valV kb k = some v) : v = V.bl true := by
  unfold valV at e
  cases q : kb.find? fun kv => decide (kv.1 = k) with
  | none => rw [q] at e; cases e
  | some p =>
    rw [q] at e
    have e2 : p.2 = v := Option.some.inj e
    rw [← e2]
    exact h p (List.mem_of_find?_eq_some q)
theorem hits_any {A : Around} {s : Shared} {kb : List (Key × V)} {vb : List (Key × Value)} (hb : ∀ p ∈ kb, p.2 = V.bl true) (rb : KV kb vb) {ka : List (Key × V)} {va : List (Key × Value)} (ra : KV ka va) :
    (∀ p ∈ ka, p.2 = V.bl true) → PySem.W.KeqHits A s vb va (ka.all fun p => (valV kb p.1).isSome) := by
  unfold KV at ra
  induction ra with
  | nil => intro _; exact .nil
  | @cons p q ps qs h t ih =>
    intro hp
    obtain ⟨h1, h2⟩ := h
    obtain ⟨k, v⟩ := q
    have h1' : p.1 = k := h1
    have ev := hp p List.mem_cons_self
    rw [List.all_cons]
    cases e : valV kb p.1 with
    | none =>
      have rr := rb.val p.1
      rw [e] at rr
      cases e3 : valueAt vb p.1 with
      | some y => rw [e3] at rr; exact rr.elim
      | none =>
        rw [h1'] at e3
        show PySem.W.KeqHits A s vb ((k, v) :: qs) (false && _)
        rw [Bool.false_and]
        exact .miss e3
    | some y0 =>
      have ey := valV_val hb e
      subst ey
      have rr : RelO (some (V.bl true)) (valueAt vb p.1) := by rw [← e]; exact rb.val p.1
      obtain ⟨y, hy, ry⟩ := rr.some_of
      rw [h1'] at hy
      rw [ev] at h2
      show PySem.W.KeqHits A s vb ((k, v) :: qs) (true && _)
      exact .hit hy (eqAt_same h2 ry rfl) (ih fun p' hm => hp p' (List.mem_cons_of_mem _ hm))
theorem op_eqDB (hu : X.A.units < cLine) : OpR X (compareOp .Eq) rEqDB := by
  intro pins s σ H x y v u Q I rx ry h
  obtain ⟨a, b, ka, kb, rfl, rfl, ea, eb, ha, hb, q⟩ := h
  obtain rfl : v = Value.ref a := rx
  obtain rfl : u = Value.ref b := ry
  obtain ⟨_, ya, va, ra, da⟩ := (show ObjOk X.prog X.w H s.heap a (.dK ka) from I.hok a _ ea)
  obtain ⟨_, yb, vb, rb, db⟩ := (show ObjOk X.prog X.w H s.heap b (.dK kb) from I.hok b _ eb)
  have hl : va.length = ka.length := ra.length.symm
  have hl2 : vb.length = kb.length := rb.length.symm
  exact PySem.W.keq_eq (knd := mixKind X.prog X.w) (r := ka.all fun p => (valV kb p.1).isSome) ya yb da db hu (fun _ => hits_any hb rb ra ha) (fin_bl I q (by rw [hl, hl2]; rfl))

/-! ### t[::-1] of a tuple -/
theorem adjust_back (n : Nat) : Builtin.Slice.sliceAdjust none none (-1) (n : Int) = ((n : Int) - 1, -1) := by
  unfold Builtin.Slice.sliceAdjust
  rfl
theorem places_back (n : Nat) : Builtin.Slice.slicePlaces ((n : Int) - 1) (-1) (-1) = n := by
  unfold Builtin.Slice.slicePlaces
  have h1 : ¬ ((-1 : Int) > 0) := by decide
  have h2 : (- (-1) : Int) = 1 := by decide
  simp only [h1, if_false, h2, Int.ediv_one]
  split <;> omega
theorem pick_back (xs : Array Value) : ((List.range xs.size).filterMap fun (m : Nat) => xs[((xs.size : Int) - 1 + (m : Int) * (-1)).toNat]?) = xs.toList.reverse := by
  have e : ((List.range xs.size).filterMap fun (m : Nat) => xs[((xs.size : Int) - 1 + (m : Int) * (-1)).toNat]?) = ((List.range xs.size).map fun k => xs.size - 1 - k).filterMap (xs[·]?) := by
    rw [List.filterMap_map]
    have aux : ∀ l : List Nat, (∀ m ∈ l, m < xs.size) → (l.filterMap fun (m : Nat) => xs[((xs.size : Int) - 1 + (m : Int) * (-1)).toNat]?) = l.filterMap ((xs[·]?) ∘ fun k => xs.size - 1 - k) := by
      intro l hl
      induction l with
      | nil => rfl
      | cons m l ih =>
        have hm := hl m List.mem_cons_self
        have e2 : ((xs.size : Int) - 1 + (m : Int) * (-1)).toNat = xs.size - 1 - m := by omega
        rw [List.filterMap_cons, List.filterMap_cons, ih (fun k hk => hl k (List.mem_cons_of_mem _ hk)), e2]
        rfl
    exact aux _ fun m hm => List.mem_range.mp hm
  rw [e, PySem.W.krv_range, List.filterMap_reverse, PySem.W.krv_all]
section
variable {prog : Program} {w : World} {A : Around} {E : Value → Shared → Prop} {s : Shared}
theorem getItem_back {t sl : Addr} {items : Array Value} {u : Tok} {Q : Value → Shared → Prop} (ht : IsTup s.heap t items) (hs : s.heap.IsSliceOf sl .none .none (.int (-1) u))
    (h : Q (.ref s.heap.objs.size) { s with heap := s.heap.push { cls := .type "tuple", data := .seq items.toList.reverse.toArray } })
    (hsz : items.size ≤ sizeLine) : wpAny (model prog w) A (getItem (.ref t) (.ref sl)) Q E s := by
  have hok : sizeOk (.seq items.toList.reverse.toArray) := by
    show items.toList.reverse.toArray.size ≤ sizeLine
    rw [List.size_toArray, List.length_reverse, Array.length_toList]
    exact hsz
  obtain ⟨os, hos, hcs, hds⟩ := id hs
  have hTs : s.TypeIs (.ref sl) "slice" := ⟨os, hos, hcs⟩
  unfold getItem
  try with_reducible refine wpAny_holding ?_
  first | refine wpAny_bind (wpAny_pure ?_) | skip
  refine wpAny_bind (wpAny_sequenceKey ht.typeIs (by decide) ?_)
  refine wpAny_bind (wpAny_callSpecial?_slot (name := Str.ofString "__getitem__") ht.typeIs PyProof.Rows.slot_tuple_getitem
    (wpAny_call_entry PyProof.Rows.slot_tuple_getitem ht.typeIs entry_tuple_getitem ?_ (args_tuple_getitem _ _)))
  show wpAny _ _ (Builtin.Tuple.tupleItemsOf (.ref t) >>= _) _ _ s
  refine wpAny_bind (tupleItemsOf_ ht ?_)
  refine wpAny_bind (wpAny_typeOf hTs ?_)
  rw [if_pos (by decide)]
  refine wpAny_bind ?_
  unfold Builtin.Slice.sliceApplied Builtin.Slice.sliceFields
  refine wpAny_bind (wpAny_bind (wpAny_field hos hds (x := .none) rfl (wpAny_bind (wpAny_field hos hds (x := .none) rfl (wpAny_bind (wpAny_field hos hds (x := .int (-1) u) rfl (wpAny_pure ?_)))))))
  refine wpAny_bind (slicePart_int ?_)
  show wpAny _ _ (if ((-1 : Int) == 0) = true then _ else _) _ _ s
  rw [if_neg (by decide)]
  refine wpAny_bind (slicePart_none (wpAny_bind (slicePart_none (wpAny_bind (wpAny_pure ?_)))))
  show wpAny _ _ (match Builtin.Slice.sliceAdjust none none (-1) (items.size : Int) with | (lo, hi) => pure (lo, (-1 : Int), Builtin.Slice.slicePlaces lo hi (-1))) _ _ s
  rw [adjust_back]
  show wpAny _ _ (pure ((items.size : Int) - 1, (-1 : Int), Builtin.Slice.slicePlaces ((items.size : Int) - 1) (-1) (-1))) _ _ s
  rw [places_back]
  refine wpAny_pure ?_
  have hno : ¬ ((((items.size : Int) - 1) == 0 && (-1 : Int) == 1 && items.size == items.size) = true) := by
    intro q
    rw [Bool.and_eq_true, Bool.and_eq_true] at q
    exact absurd (eq_of_beq q.1.2) (by decide)
  show wpAny _ _ (if (((items.size : Int) - 1) == 0 && (-1 : Int) == 1 && items.size == items.size) = true then _ else _) _ _ s
  rw [if_neg hno, pick_back]
  first
    | exact wpAny_bind (m := Builtin.Tuple.tupleExact _) (wpAny_newObj_type (wpAny_pure ⟨_, rfl, wpAny_pure h⟩) hok)
    | exact wpAny_bind (m := Builtin.Tuple.tupleExact _) (wpAny_newObj_type (wpAny_bind (wpAny_pure (wpAny_pure ⟨_, rfl, wpAny_pure h⟩))) hok)
    | exact wpAny_bind (wpAny_bind (m := Builtin.Tuple.tupleExact _) (wpAny_newObj_type (wpAny_pure (wpAny_pure ⟨_, rfl, wpAny_pure h⟩)) hok))
    | exact wpAny_bind (wpAny_bind (m := Builtin.Tuple.tupleExact _) (wpAny_newObj_type (wpAny_pure ⟨_, rfl, wpAny_pure h⟩) hok))
end
def tRevT (K : PySem.W.Frag) (te : TE) : TE := fun σ H Q => te σ H fun x H1 => ∃ a xs, x = .ref a ∧ SqT K H1 a xs ∧ ∀ p, H1 p = none → Q (.ref p) (upd H1 p (.tup xs.reverse))
theorem pe_revT {e : Expr} {te : TE} {k : Nat} {p1 p2 p3 pos : Pos} (he : PE X e te) : PE X (.Subscript e (.Slice none none (some (.UnaryOp .USub (.Constant (.int 1) k p1) p2)) p3) pos) (tRevT X.K te) := by
  refine ⟨fun pins s σ H Q I h => ?_⟩
  refine Subscript_ (thn (he.run pins s σ H _ I h) fun v s1 ⟨x, H1, I1, r1, q1⟩ => ?_)
  obtain ⟨a, xs, ex, hx, q⟩ := q1
  subst ex
  cases r1
  have hst : PO X (some (.UnaryOp .USub (.Constant (.int 1) k p1) p2)) (tPart (tUn (rU fun i => .int (-i)) (tC (.int 1)))) := po_some (pe_un un_neg pe_int)
  refine wpAny_Slice (thn (po_none.run pins s1 σ H1 (fun o H2 => o = none ∧ H2 = H1) I1 ⟨rfl, rfl⟩) fun vl s2 ⟨l, H2, I2, pl, el, e2⟩ => ?_)
  subst el e2
  refine thn (po_none.run pins s2 σ H2 (fun o H3 => o = none ∧ H3 = H2) I2 ⟨rfl, rfl⟩) fun vu s3 ⟨u, H3, I3, pu, eu, e3⟩ => ?_
  subst eu e3
  refine thn (hst.run pins s3 σ H3 (fun o H4 => o = some (-1) ∧ H4 = H3) I3 ⟨1, rfl, -1, rfl, rfl, rfl⟩) fun vs s4 ⟨o, H4, I4, ps, eo, e4⟩ => ?_
  subst eo e4
  cases pl
  cases pu
  generalize em : some (-1 : Int) = om at ps
  cases ps with
  | none => cases em
  | int i t =>
    have ei : i = -1 := (Option.some.inj em).symm
    subst ei
    have I5 : Inv X pins σ H4 { s4 with heap := s4.heap.push { cls := .type "slice", data := .fields #[.none, .none, .int (-1) t] } } := I4.kept (t' := s4.toks) fun b ob q => Heap.get?_push_of_some _ q
    obtain ⟨its, r, ht, hz⟩ := I5.tuple hx
    have hlen := r.length
    show wpAny (model X.prog X.w) X.A (subscriptTail e (.Slice none none (some (.UnaryOp .USub (.Constant (.int 1) k p1) p2)) p3) (.ref a) (.ref s4.heap.objs.size)) (EP X pins σ Q) X.xe { s4 with heap := s4.heap.push { cls := .type "slice", data := .fields #[.none, .none, .int (-1) t] } }
    refine tail_any (ops := [.ref a, .ref s4.heap.objs.size]) ht.typeIs (PyProof.Rows.slot_tuple_getitem.lookup) ?_ (by with_unfolding_all rfl)
    refine getItem_back ht (Heap.IsSliceOf.new _ .none .none (.int (-1) t)) ?_ (by rw [List.size_toArray]; omega)
    refine ⟨.ref _, _, I5.laid (t' := s4.toks) (o := .tup xs.reverse) (fun b ob q => Heap.get?_push_of_some _ q) (Nat.le_refl _) ?_, rfl, q _ (I5.hok.fresh (Nat.le_refl _))⟩
    refine ⟨by rw [List.length_reverse]; exact hz, _, r.reverse, _, Heap.get?_push_size _ rfl, rfl, 0, ?_⟩
    simp

/-! ### range(n) as a value, its length -/
theorem cr_range1 : CallR X (.type "range") (fun vs H Q => ∃ j, vs = [V.int j] ∧ ∀ p, H p = none → Q (.ref p) (upd H p (.rng 0 j))) := by
  intro pins s σ H vs us Q I r h
  obtain ⟨j, rfl, q⟩ := h
  obtain ⟨u, rfl, ru⟩ := vals1 r
  obtain ⟨t, rfl⟩ := ru
  refine call_range_1 ⟨.ref s.heap.objs.size, upd H s.heap.objs.size (.rng 0 j), I.laid (t' := s.toks + 1 + 1) (fun b o e => Heap.get?_push_of_some _ e) (Nat.le_refl _) ?_, rfl, q _ (I.hok.fresh (Nat.le_refl _))⟩
  exact ⟨s.toks, t, s.toks + 1, Heap.get?_push_size _ rfl⟩
theorem call_lenRg : CallR X (.builtin "len") (fun xs H Q => ∃ (a : Addr) (n : Nat), xs = [.ref a] ∧ H a = some (.rng 0 (n : Int)) ∧ (n : Int) < 2 ^ 62 ∧ Q (.int n) H) := by
  intro pins s σ H xs us Q I r h
  obtain ⟨a, n, rfl, ha, hn, q⟩ := h
  obtain ⟨u, rfl, ru⟩ := vals1 r
  obtain rfl : u = Value.ref a := ru
  obtain ⟨t, v, w', e⟩ := I.hok a _ ha
  refine call_len_range (n := n) (show IsRange s.heap a 0 n 1 t v w' from e) ?_ (by omega) ⟨.int n, H, I.tok _, ⟨_, rfl⟩, q⟩
  rw [rangeSize_one]
  split <;> omega

/-! ### a power of any size that fits -/
theorem op_powW : OpR X (binaryOp .Pow) (rI (fun i j => 0 ≤ j ∧ (Builtin.Int.intBits i : Int) * j ≤ 2 ^ 27) fun i j => .int (i ^ j.toNat)) := opI fun _ _ _ _ _ _ _ hc q => pow_int hc.1 hc.2 q
end
end Sps
set_option Elab.async false
set_option linter.all false
set_option maxRecDepth 100000
set_option maxHeartbeats 4000000
/-! Sets of positions as lists of pairs: plain mathematics. -/
namespace Sps
abbrev Pr := Int × Int
def inP (x : Int) (p : Pr) : Prop := p.1 ≤ x ∧ x < p.2
def inS (x : Int) (ps : List Pr) : Prop := ∃ p, p ∈ ps ∧ inP x p
def okP (p : Pr) : Prop := 0 ≤ p.1 ∧ p.1 < p.2 ∧ p.2 ≤ 1000000
/-- each pair is one, they ascend and neither overlap nor touch -/
structure Norm (ps : List Pr) : Prop where
  ok : ∀ p ∈ ps, okP p
  asc : ps.Pairwise fun p q => p.2 < q.1
theorem inS_nil {x : Int} : ¬ inS x [] := fun ⟨_, h, _⟩ => by cases h
theorem inS_cons {x : Int} {p : Pr} {ps : List Pr} : inS x (p :: ps) ↔ inP x p ∨ inS x ps := by
  constructor
  · rintro ⟨q, hq, hx⟩
    rcases List.mem_cons.mp hq with e | h
    · exact .inl (e ▸ hx)
    · exact .inr ⟨q, h, hx⟩
  · rintro (h | ⟨q, hq, hx⟩)
    · exact ⟨p, List.mem_cons_self, h⟩
    · exact ⟨q, List.mem_cons_of_mem _ hq, hx⟩
theorem inS_append {x : Int} {ps qs : List Pr} : inS x (ps ++ qs) ↔ inS x ps ∨ inS x qs := by
  constructor
  · rintro ⟨q, hq, hx⟩
    rcases List.mem_append.mp hq with h | h
    · exact .inl ⟨q, h, hx⟩
    · exact .inr ⟨q, h, hx⟩
  · rintro (⟨q, hq, hx⟩ | ⟨q, hq, hx⟩)
    · exact ⟨q, List.mem_append.mpr (.inl hq), hx⟩
    · exact ⟨q, List.mem_append.mpr (.inr hq), hx⟩
theorem inS_one {x : Int} {p : Pr} : inS x [p] ↔ inP x p := by
  rw [inS_cons]
  exact ⟨fun h => h.elim id fun z => (inS_nil z).elim, .inl⟩
theorem Norm.nil : Norm [] := ⟨fun _ h => (by cases h), List.Pairwise.nil⟩
theorem Norm.tail {p : Pr} {ps : List Pr} (h : Norm (p :: ps)) : Norm ps := ⟨fun q m => h.ok q (List.mem_cons_of_mem _ m), (List.pairwise_cons.mp h.asc).2⟩
theorem Norm.head {p : Pr} {ps : List Pr} (h : Norm (p :: ps)) : ∀ q ∈ ps, p.2 < q.1 := (List.pairwise_cons.mp h.asc).1
theorem Norm.snoc {ps : List Pr} {p : Pr} (h : Norm ps) (hp : okP p) (hl : ∀ q ∈ ps, q.2 < p.1) : Norm (ps ++ [p]) := by
  refine ⟨fun q m => ?_, ?_⟩
  · rcases List.mem_append.mp m with m | m
    · exact h.ok q m
    · rw [List.mem_singleton.mp m]; exact hp
  · refine List.pairwise_append.mpr ⟨h.asc, List.pairwise_singleton _ _, fun a ha b hb => ?_⟩
    rw [List.mem_singleton.mp hb]
    exact hl a ha
/-- two such lists with the same positions are one -/
theorem Norm.uniq : ∀ {ps qs : List Pr}, Norm ps → Norm qs → (∀ x, inS x ps ↔ inS x qs) → ps = qs
  | [], [], _, _, _ => rfl
  | [], q :: qs, _, hq, h => by
    have k := hq.ok q List.mem_cons_self
    exact (inS_nil ((h q.1).mpr (inS_cons.mpr (.inl ⟨Int.le_refl _, k.2.1⟩)))).elim
  | p :: ps, [], hp, _, h => by
    have k := hp.ok p List.mem_cons_self
    exact (inS_nil ((h p.1).mp (inS_cons.mpr (.inl ⟨Int.le_refl _, k.2.1⟩)))).elim
  | p :: ps, q :: qs, hp, hq, h => by
    have kp := hp.ok p List.mem_cons_self
    have kq := hq.ok q List.mem_cons_self
    have lo : ∀ {r : Pr} {rs : List Pr} {x : Int}, Norm (r :: rs) → inS x rs → r.2 < x := fun {r rs x} hn ⟨t, mt, hx⟩ => by
      have a := hn.head t mt
      have b := hx.1
      omega
    have c1 := inS_cons.mp ((h p.1).mp (inS_cons.mpr (.inl ⟨Int.le_refl _, kp.2.1⟩)))
    have c2 := inS_cons.mp ((h q.1).mpr (inS_cons.mpr (.inl ⟨Int.le_refl _, kq.2.1⟩)))
    have e1 : p.1 = q.1 := by
      have a1 : q.1 ≤ p.1 := by
        rcases c1 with c | c
        · exact c.1
        · have := lo hq c; have := kq.2.1; omega
      have a2 : p.1 ≤ q.1 := by
        rcases c2 with c | c
        · exact c.1
        · have := lo hp c; have := kp.2.1; omega
      omega
    -- neither ends ahead of the other one
    have nolt : ∀ {r s : Pr} {rs ss : List Pr}, Norm (r :: rs) → Norm (s :: ss) → (∀ x, inS x (s :: ss) → inS x (r :: rs)) → r.1 = s.1 → ¬ r.2 < s.2 := fun {r s rs ss} hr hs hh e lt => by
      have kr := (hr.ok r List.mem_cons_self).2.1
      have a := hh r.2 (inS_cons.mpr (.inl ⟨by omega, lt⟩))
      rcases inS_cons.mp a with c | c
      · have := c.2; omega
      · have := lo hr c; omega
    have e2 : p.2 = q.2 := by
      have a := nolt hp hq (fun x => (h x).mpr) e1
      have b := nolt hq hp (fun x => (h x).mp) e1.symm
      omega
    have e : p = q := Prod.ext e1 e2
    subst e
    have t : ps = qs := Norm.uniq hp.tail hq.tail fun x => by
      constructor
      · intro hx
        rcases inS_cons.mp ((h x).mp (inS_cons.mpr (.inr hx))) with c | c
        · have := lo hp hx; have := c.2; omega
        · exact c
      · intro hx
        rcases inS_cons.mp ((h x).mpr (inS_cons.mpr (.inr hx))) with c | c
        · have := lo hq hx; have := c.2; omega
        · exact c
    rw [t]

/-! ### one turn of merging: the last one grows, or a new one follows -/
/-- what holds of what was found, when what is left to come begins at z or later -/
structure Mrg (fs pre : List Pr) (z : Int) : Prop where
  norm : Norm fs
  same : ∀ x, inS x fs ↔ inS x pre
  le : ∀ f ∈ fs, f.1 ≤ z
theorem Mrg.start {z : Int} : Mrg [] [] z := ⟨.nil, fun _ => Iff.rfl, fun _ h => by cases h⟩
theorem Mrg.later {fs pre : List Pr} {z z' : Int} (m : Mrg fs pre z) (h : z ≤ z') : Mrg fs pre z' := ⟨m.norm, m.same, fun f hf => Int.le_trans (m.le f hf) h⟩
theorem Mrg.add {fs pre : List Pr} {p : Pr} (m : Mrg fs pre p.1) (hp : okP p) (hl : ∀ f ∈ fs, f.2 < p.1) : Mrg (fs ++ [p]) (pre ++ [p]) p.1 := by
  refine ⟨m.norm.snoc hp hl, fun x => ?_, fun f hf => ?_⟩
  · rw [inS_append, inS_append, m.same x]
  · rcases List.mem_append.mp hf with h | h
    · exact m.le f h
    · rw [List.mem_singleton.mp h]; exact Int.le_refl _
theorem Norm.last_lt {gs : List Pr} {l : Pr} (h : Norm (gs ++ [l])) : ∀ g ∈ gs, g.2 < l.1 := fun g hg => (List.pairwise_append.mp h.asc).2.2 g hg l (List.mem_singleton.mpr rfl)
theorem Norm.init {gs : List Pr} {l : Pr} (h : Norm (gs ++ [l])) : Norm gs := ⟨fun p m => h.ok p (List.mem_append.mpr (.inl m)), (List.pairwise_append.mp h.asc).1⟩
theorem Mrg.grow {gs pre : List Pr} {l p : Pr} (m : Mrg (gs ++ [l]) pre p.1) (hp : okP p) (hl : p.1 ≤ l.2) : Mrg (gs ++ [(l.1, if p.2 > l.2 then p.2 else l.2)]) (pre ++ [p]) p.1 := by
  have kl := m.norm.ok l (List.mem_append.mpr (.inr (List.mem_singleton.mpr rfl)))
  have ll := m.le l (List.mem_append.mpr (.inr (List.mem_singleton.mpr rfl)))
  have e := hp.2.1
  have e3 := hp.2.2
  have k1 := kl.1
  have k2 := kl.2.1
  have k3 := kl.2.2
  have okn : okP (l.1, if p.2 > l.2 then p.2 else l.2) := by
    refine ⟨k1, ?_, ?_⟩
    · show l.1 < (if p.2 > l.2 then p.2 else l.2)
      split <;> omega
    · show (if p.2 > l.2 then p.2 else l.2) ≤ 1000000
      split <;> omega
  refine ⟨m.norm.init.snoc okn m.norm.last_lt, fun x => ?_, fun f hf => ?_⟩
  · rw [inS_append, inS_append, ← m.same x, inS_append, inS_one, inS_one, inS_one]
    unfold inP
    show _ ∨ (l.1 ≤ x ∧ x < (if p.2 > l.2 then p.2 else l.2)) ↔ _
    constructor
    · rintro (h | ⟨h1, h2⟩)
      · exact .inl (.inl h)
      · by_cases c : p.2 > l.2
        · rw [if_pos c] at h2
          by_cases d : x < l.2
          · exact .inl (.inr ⟨h1, d⟩)
          · exact .inr ⟨by omega, h2⟩
        · rw [if_neg c] at h2
          exact .inl (.inr ⟨h1, h2⟩)
    · rintro ((h | ⟨h1, h2⟩) | ⟨h1, h2⟩)
      · exact .inl h
      · exact .inr ⟨h1, by split <;> omega⟩
      · exact .inr ⟨by omega, by split <;> omega⟩
  · rcases List.mem_append.mp hf with h | h
    · exact m.le f (List.mem_append.mpr (.inl h))
    · rw [List.mem_singleton.mp h]; exact ll

/-! ### what is left out -/
structure Gap (gs pre : List Pr) (b : Int) : Prop where
  norm : Norm gs
  lo : 0 ≤ b
  hi : b ≤ 1000000
  same : ∀ x, inS x gs ↔ (0 ≤ x ∧ x < b) ∧ ¬ inS x pre
  lt : ∀ g ∈ gs, g.2 < b
  pre : ∀ x, inS x pre → x < b
theorem Gap.start : Gap [] [] 0 := by
  refine ⟨.nil, Int.le_refl _, by decide, fun x => ⟨fun h => (inS_nil h).elim, fun h => ?_⟩, fun _ h => (by cases h), fun _ h => (inS_nil h).elim⟩
  have := h.1.1
  have := h.1.2
  omega
theorem Gap.skip {gs pre : List Pr} {p : Pr} {b : Int} (g : Gap gs pre b) (hp : okP p) (he : ¬ b < p.1) (hb : b ≤ p.1) : Gap gs (pre ++ [p]) p.2 := by
  have h1 := hp.2.1
  have h2 := hp.2.2
  have h3 := hp.1
  refine ⟨g.norm, by omega, h2, fun x => ?_, fun f hf => by have := g.lt f hf; omega, fun x hx => ?_⟩
  · rw [inS_append, inS_one, g.same x]
    unfold inP
    constructor
    · rintro ⟨⟨a, c⟩, d⟩
      exact ⟨⟨a, by omega⟩, fun z => z.elim d fun z => by omega⟩
    · rintro ⟨⟨a, c⟩, d⟩
      refine ⟨⟨a, ?_⟩, fun z => d (.inl z)⟩
      by_cases q : x < b
      · exact q
      · exact (d (.inr ⟨by omega, c⟩)).elim
  · rcases inS_append.mp hx with h | h
    · have := g.pre x h; omega
    · exact (inS_one.mp h).2
theorem Gap.push {gs pre : List Pr} {p : Pr} {b : Int} (g : Gap gs pre b) (hp : okP p) (hb : b < p.1) : Gap (gs ++ [(b, p.1)]) (pre ++ [p]) p.2 := by
  have h1 := hp.2.1
  have h2 := hp.2.2
  have h3 := g.lo
  refine ⟨g.norm.snoc ⟨g.lo, hb, by show p.1 ≤ 1000000; omega⟩ g.lt, by omega, h2, fun x => ?_, fun f hf => ?_, fun x hx => ?_⟩
  · rw [inS_append, inS_one, inS_append, inS_one, g.same x]
    unfold inP
    show _ ∨ (b ≤ x ∧ x < p.1) ↔ _
    constructor
    · rintro (⟨⟨a, c⟩, d⟩ | ⟨a, c⟩)
      · exact ⟨⟨a, by omega⟩, fun z => z.elim d fun z => by omega⟩
      · refine ⟨⟨by omega, by omega⟩, fun z => z.elim (fun z => ?_) fun z => by omega⟩
        have := g.pre x z
        omega
    · rintro ⟨⟨a, c⟩, d⟩
      by_cases q : x < b
      · exact .inl ⟨⟨a, q⟩, fun z => d (.inl z)⟩
      · refine .inr ⟨by omega, ?_⟩
        by_cases q2 : x < p.1
        · exact q2
        · exact (d (.inr ⟨by omega, c⟩)).elim
  · rcases List.mem_append.mp hf with h | h
    · have := g.lt f h; omega
    · rw [List.mem_singleton.mp h]; exact h1
  · rcases inS_append.mp hx with h | h
    · have := g.pre x h; omega
    · exact (inS_one.mp h).2
theorem Gap.done {gs pre : List Pr} {b : Int} (g : Gap gs pre b) (hb : ¬ b < 1000000) : ∀ x, inS x gs ↔ (0 ≤ x ∧ x < 1000000) ∧ ¬ inS x pre := fun x => by
  have e : b = 1000000 := by have := g.hi; omega
  rw [g.same x, e]
theorem Gap.last {gs pre : List Pr} {b : Int} (g : Gap gs pre b) (hb : b < 1000000) : Norm (gs ++ [(b, 1000000)]) ∧ ∀ x, inS x (gs ++ [(b, 1000000)]) ↔ (0 ≤ x ∧ x < 1000000) ∧ ¬ inS x pre := by
  refine ⟨g.norm.snoc ⟨g.lo, hb, Int.le_refl _⟩ g.lt, fun x => ?_⟩
  rw [inS_append, inS_one, g.same x]
  unfold inP
  show _ ∨ (b ≤ x ∧ x < 1000000) ↔ _
  have h3 := g.lo
  constructor
  · rintro (⟨⟨a, c⟩, d⟩ | ⟨a, c⟩)
    · exact ⟨⟨a, by omega⟩, d⟩
    · refine ⟨⟨by omega, c⟩, fun z => ?_⟩
      have := g.pre x z
      omega
  · rintro ⟨⟨a, c⟩, d⟩
    by_cases q : x < b
    · exact .inl ⟨⟨a, q⟩, d⟩
    · exact .inr ⟨by omega, c⟩
theorem Norm.inR {ps : List Pr} (h : Norm ps) {x : Int} (hx : inS x ps) : 0 ≤ x ∧ x < 1000000 := by
  obtain ⟨p, hp, h1, h2⟩ := hx
  have := h.ok p hp
  unfold okP at this
  omega

/-! ### how many positions -/
/-- how many of the numbers below n have it -/
def cnt (P : Int → Prop) [DecidablePred P] : Nat → Int
  | 0 => 0
  | n + 1 => cnt P n + if P (n : Int) then 1 else 0
theorem cnt_congr {P R : Int → Prop} [DecidablePred P] [DecidablePred R] : ∀ {n : Nat}, (∀ x : Int, 0 ≤ x → x < n → (P x ↔ R x)) → cnt P n = cnt R n
  | 0, _ => rfl
  | n + 1, h => by
    have ih := cnt_congr (P := P) (R := R) (n := n) fun x h0 h1 => h x h0 (by omega)
    have e := h (n : Int) (by omega) (by omega)
    show cnt P n + _ = cnt R n + _
    rw [ih]
    by_cases c : P (n : Int)
    · rw [if_pos c, if_pos (e.mp c)]
    · rw [if_neg c, if_neg fun z => c (e.mpr z)]
theorem cnt_or_and {P R : Int → Prop} [DecidablePred P] [DecidablePred R] : ∀ n : Nat, cnt (fun x => P x ∨ R x) n + cnt (fun x => P x ∧ R x) n = cnt P n + cnt R n
  | 0 => rfl
  | n + 1 => by
    have ih := cnt_or_and (P := P) (R := R) n
    show (cnt _ n + _) + (cnt _ n + _) = (cnt P n + _) + (cnt R n + _)
    by_cases a : P (n : Int) <;> by_cases b : R (n : Int) <;> simp only [a, b, or_true, true_or, or_self, and_self, and_false, false_and, and_true, true_and, if_true, if_false, or_false, false_or] <;> omega
theorem cnt_sub {P R : Int → Prop} [DecidablePred P] [DecidablePred R] : ∀ n : Nat, cnt (fun x => P x ∧ ¬ R x) n = cnt P n - cnt (fun x => P x ∧ R x) n
  | 0 => rfl
  | n + 1 => by
    have ih := cnt_sub (P := P) (R := R) n
    show cnt _ n + _ = (cnt P n + _) - (cnt _ n + _)
    by_cases a : P (n : Int) <;> by_cases b : R (n : Int) <;> simp only [a, b, not_true, not_false_iff, and_self, and_false, false_and, and_true, true_and, if_true, if_false] <;> omega
theorem cnt_none {P : Int → Prop} [DecidablePred P] : ∀ n : Nat, (∀ x, ¬ P x) → cnt P n = 0
  | 0, _ => rfl
  | n + 1, h => by
    show cnt P n + _ = 0
    rw [cnt_none n h, if_neg (h _)]
    rfl
theorem cnt_iv {a b : Int} (h0 : 0 ≤ a) (h : a ≤ b) : ∀ n : Nat, cnt (fun x => a ≤ x ∧ x < b) n = if (n : Int) ≤ a then 0 else if (n : Int) ≤ b then (n : Int) - a else b - a
  | 0 => by
    show (0 : Int) = _
    rw [if_pos (by omega)]
  | n + 1 => by
    have ih := cnt_iv (a := a) (b := b) h0 h n
    show cnt _ n + _ = _
    rw [ih]
    by_cases c : a ≤ (n : Int) ∧ (n : Int) < b
    · rw [if_pos c]
      split <;> split <;> first | omega | (split <;> first | omega | (split <;> omega))
    · rw [if_neg c]
      split <;> split <;> first | omega | (split <;> first | omega | (split <;> omega))
instance (x : Int) (p : Pr) : Decidable (inP x p) := by unfold inP; infer_instance
instance decS (ps : List Pr) : DecidablePred fun x => inS x ps := fun x => by
  have e : inS x ps ↔ (ps.any fun p => decide (inP x p)) = true := by
    rw [List.any_eq_true]
    exact ⟨fun ⟨p, h1, h2⟩ => ⟨p, h1, decide_eq_true h2⟩, fun ⟨p, h1, h2⟩ => ⟨p, h1, of_decide_eq_true h2⟩⟩
  exact decidable_of_iff _ e.symm
/-- the sum that len takes -/
def size (ps : List Pr) : Int := (ps.map fun p => p.2 - p.1).sum
theorem Norm.size_cnt : ∀ {ps : List Pr}, Norm ps → size ps = cnt (fun x => inS x ps) 1000000
  | [], _ => (cnt_none 1000000 fun x => inS_nil).symm
  | p :: ps, h => by
    have ih := Norm.size_cnt h.tail
    have k := h.ok p List.mem_cons_self
    have k1 := k.1
    have k2 := k.2.1
    have k3 := k.2.2
    have e : cnt (fun x => inS x (p :: ps)) 1000000 = cnt (fun x => (p.1 ≤ x ∧ x < p.2) ∨ inS x ps) 1000000 := cnt_congr fun x _ _ => inS_cons
    have d := cnt_or_and (P := fun x => p.1 ≤ x ∧ x < p.2) (R := fun x => inS x ps) 1000000
    have z : cnt (fun x => (p.1 ≤ x ∧ x < p.2) ∧ inS x ps) 1000000 = 0 := cnt_none _ fun x ⟨hx, q, mq, hq⟩ => by
      have a := h.head q mq
      have b := hq.1
      omega
    have iv := cnt_iv (a := p.1) (b := p.2) k1 (by omega) 1000000
    rw [if_neg (by omega)] at iv
    have iv2 : cnt (fun x => p.1 ≤ x ∧ x < p.2) 1000000 = p.2 - p.1 := by
      rw [iv]
      split <;> omega
    rw [e]
    show (((p :: ps).map fun p => p.2 - p.1).sum) = _
    rw [List.map_cons, List.sum_cons]
    have ih' : (ps.map fun p => p.2 - p.1).sum = cnt (fun x => inS x ps) 1000000 := ih
    omega
theorem cnt_pos {P : Int → Prop} [DecidablePred P] : ∀ n : Nat, 0 ≤ cnt P n ∧ cnt P n ≤ n
  | 0 => ⟨Int.le_refl _, Int.le_refl _⟩
  | n + 1 => by
    have ih := cnt_pos (P := P) n
    show 0 ≤ cnt P n + _ ∧ cnt P n + _ ≤ ((n + 1 : Nat) : Int)
    split <;> omega
theorem Norm.size_ok {ps : List Pr} (h : Norm ps) : 0 ≤ size ps ∧ size ps ≤ 1000000 := by
  rw [h.size_cnt]
  exact cnt_pos 1000000

/-! ### keys without repeats -/
theorem sub_len : ∀ {l m : List Int}, l.Nodup → (∀ x ∈ l, x ∈ m) → l.length ≤ m.length
  | [], m, _, _ => Nat.zero_le _
  | x :: l, m, hn, hs => by
    obtain ⟨h1, h2⟩ := List.nodup_cons.mp hn
    have hx := hs x List.mem_cons_self
    have hl := List.length_erase_of_mem hx
    have hp := List.length_pos_of_mem hx
    have ih := sub_len (l := l) (m := m.erase x) h2 fun y hy => (List.mem_erase_of_ne (fun e => h1 (by rw [← e]; exact hy))).mpr (hs y (List.mem_cons_of_mem _ hy))
    show l.length + 1 ≤ m.length
    omega
/-- as many, and all of the one in the other: the same -/
theorem sub_eq {l m : List Int} (hl : l.Nodup) (hm : m.Nodup) (e : l.length = m.length) (h : ∀ x ∈ l, x ∈ m) : ∀ x ∈ m, x ∈ l := by
  intro x hx
  by_cases c : x ∈ l
  · exact c
  · have h2 := sub_len (l := l) (m := m.erase x) hl fun y hy => (List.mem_erase_of_ne (fun e => c (by rw [← e]; exact hy))).mpr (h y hy)
    have h3 := List.length_erase_of_mem hx
    have h4 := List.length_pos_of_mem hx
    omega
end Sps
set_option Elab.async false
set_option linter.all false
set_option maxRecDepth 100000
set_option maxHeartbeats 4000000
/-! The program's own defs: what each of them promises. -/
namespace Sps
open PySem PySem.Spec PyProof.Rows L2
abbrev pw : Program := PySem.Challenge.pw_oneedition_k38_whole_rules_of_spans
def top (i : Nat) : Stmt := pw.main.body.getD i (.Pass ⟨0, 0, 0, 0⟩)
abbrev sWhole : Stmt := top 4
abbrev sWithin : Stmt := top 5
abbrev sIsPair : Stmt := top 8
abbrev sMerged : Stmt := top 9
abbrev sGaps : Stmt := top 10
abbrev sInit : Stmt := inClass (top 11) 0
abbrev sAnd : Stmt := inClass (top 11) 1
abbrev sOr : Stmt := inClass (top 11) 2
abbrev sSub : Stmt := inClass (top 11) 3
abbrev sIn : Stmt := inClass (top 11) 4
abbrev sLen : Stmt := inClass (top 11) 5
abbrev sEq : Stmt := inClass (top 11) 6

/-- what the top leaves of names -/
structure Names (mg : Str → Option Value) : Prop where
  isinstance : mg "isinstance" = none
  bool : mg "bool" = none
  int : mg "int" = none
  tuple : mg "tuple" = none
  len : mg "len" = none
  sorted : mg "sorted" = none
  max : mg "max" = none
  min : mg "min" = none
  all : mg "all" = none
  any : mg "any" = none
  range : mg "range" = none
  sum : mg "sum" = none
  abs : mg "abs" = none
  dict : mg "dict" = none
  list : mg "list" = none
  END : ∃ t, mg "END" = some (.int 1000000 t)

theorem iteNS_not {c A B : Prop} [Decidable c] (hc : ¬ c) (h : A) : if (!decide c) = true then A else B := by
  rw [decide_eq_false hc]
  exact iteT h
/-! ### data in the heap -/
abbrev TP := Addr × Int × Int
def rf (t : TP) : V := .ref t.1
def TPs (H : Hp) (ts : List TP) : Prop := ∀ t ∈ ts, H t.1 = some (.tup [.int t.2.1, .int t.2.2])
def prs (ts : List TP) : List Pr := ts.map (·.2)
theorem TPs.same {H H' : Hp} {ts : List TP} (h : TPs H ts) (s : Same H H') : TPs H' ts := fun t m => s _ _ (h t m)
theorem TPs.app {H : Hp} {ts us : List TP} (h : TPs H ts) (k : TPs H us) : TPs H (ts ++ us) := fun t m => (List.mem_append.mp m).elim (h t) (k t)
theorem TPs.one {H : Hp} {t : TP} (h : H t.1 = some (.tup [.int t.2.1, .int t.2.2])) : TPs H [t] := fun u m => by rw [List.mem_singleton.mp m]; exact h
theorem TPs.nil {H : Hp} : TPs H [] := fun _ m => by cases m
theorem prs_app {ts us : List TP} : prs (ts ++ us) = prs ts ++ prs us := List.map_append
theorem prs_mem {ts : List TP} {t : TP} (h : t ∈ ts) : t.2 ∈ prs ts := List.mem_map.mpr ⟨t, h, rfl⟩
/-- a tuple of pairs stands at a -/
def PT (H : Hp) (a : Addr) (ps : List Pr) : Prop := ∃ ts, H a = some (.tup (ts.map rf)) ∧ TPs H ts ∧ prs ts = ps
theorem PT.same {H H' : Hp} {a : Addr} {ps : List Pr} (h : PT H a ps) (s : Same H H') : PT H' a ps := let ⟨ts, h1, h2, h3⟩ := h; ⟨ts, s _ _ h1, h2.same s, h3⟩
theorem Same.upd {H : Hp} {p : Addr} {o : HO} (h : H p = none) : Same H (L2.upd H p o) := fun b u e => by rw [upd_ne (ne_of_none e h)]; exact e
theorem Same.upd' {H H1 : Hp} {p : Addr} {o : HO} (s : Same H H1) (h : H1 p = none) : Same H (L2.upd H1 p o) := s.trans (Same.upd h)
/-- a store at a place that is none of the old ones -/
theorem Same.put {H H1 : Hp} {p : Addr} {o : HO} (s : Same H H1) (h : H p = none) : Same H (L2.upd H1 p o) := fun b u e => by rw [upd_ne (ne_of_none e h)]; exact s b u e
theorem tupAt {K : PySem.W.Frag} {H : Hp} {a : Addr} {xs : List V} (h : H a = some (.tup xs)) : SqT K H a xs := SqT.of h

section
variable {P : Program} {w : World} {K : PySem.W.Frag} {mg : Str → Option Value} {base : Heap}
/-! ### is_within -/
/-- no int, or a bool -/
def NoInt (K : PySem.W.Frag) (H : Hp) (x : V) : Prop := ∃ t, TyX K H x t ∧ (PySem.W.kitOne K t (.type "int") = some false ∨ (PySem.W.kitOne K t (.type "int") = some true ∧ PySem.W.kitOne K t (.type "bool") = some true))
def spWhole (K : PySem.W.Frag) : Sp := fun vs H Q _ => ∃ x : V, vs = [x] ∧ ((∃ v, x = .int v ∧ Q (.bl true) H) ∨ (NoInt K H x ∧ Q (.bl false) H))
theorem scWh : FnScope ["value"] ["value"] (defScope sWhole) := ⟨rfl, rfl, rfl, by decide +kernel, rfl, by decide +kernel, by decide +kernel⟩
theorem ok_whole {f : Addr} {fd : FuncData} (F : Fun K "is_whole_number" "is_whole_number" sWhole f fd) (T : Names mg) : FnOk P w K mg base CX0 1 f fd ["value"] (spWhole K) := by
  refine F.ok scWh (fun vs H Q E h => ?_) (fun cdv A outer s H vs Q E hr h => ?_)
  · obtain ⟨x, rfl, _⟩ := h
    rfl
  · obtain ⟨x, rfl, h⟩ := h
    refine ⟨_, pss_one (ps_ret (pe_and (pe_callB call_isi (by rfl) T.isinstance (by decide +kernel) (pa_cons (pv 0) (pa_cons (pe_bltn (v := .ty "int") (by rfl) T.int (by decide +kernel) rfl) pa_nil)))
      (pe_one (pe_not (pe_callB call_isi (by rfl) T.isinstance (by decide +kernel) (pa_cons (pv 0) (pa_cons (pe_bltn (v := .ty "bool") (by rfl) T.bool (by decide +kernel) rfl) pa_nil))))))), ?_⟩
    rcases h with ⟨v, rfl, h⟩ | ⟨⟨t, ty, hb⟩, h⟩
    · refine ⟨_, rfl, _, _, _, _, true, rfl, .ty "int", .base (.int v), kit_ty (by decide +kernel), true, rfl, ?_⟩
      refine iteT ?_
      refine ⟨_, rfl, _, _, _, _, false, rfl, .ty "bool", .base (.int v), kit_ty (by decide +kernel), false, rfl, ?_⟩
      exact h
    · rcases hb with hi | ⟨hi, hb⟩
      · refine ⟨_, rfl, _, _, _, _, false, rfl, .ty "int", ty, hi, false, rfl, ?_⟩
        exact iteF h
      · refine ⟨_, rfl, _, _, _, _, true, rfl, .ty "int", ty, hi, true, rfl, ?_⟩
        refine iteT ?_
        refine ⟨_, rfl, _, _, _, _, true, rfl, .ty "bool", ty, hb, true, rfl, ?_⟩
        exact h
def spWithin (K : PySem.W.Frag) : Sp := fun vs H Q _ => ∃ (x : V) (l m : Int), vs = [x, .int l, .int m] ∧ ((∃ v, x = .int v ∧ Q (.bl (decide (l ≤ v) && decide (v ≤ m))) H) ∨ (NoInt K H x ∧ Q (.bl false) H))
theorem scW : FnScope ["value", "least", "most"] ["value", "least", "most"] (defScope sWithin) := ⟨rfl, rfl, rfl, by decide +kernel, rfl, by decide +kernel, by decide +kernel⟩
theorem ok_within {f g : Addr} {fd fdG : FuncData} (F : Fun K "is_within" "is_within" sWithin f fd) (G : FnOk P w K mg base CX0 1 g fdG ["value"] (spWhole K)) (mgG : mg "is_whole_number" = some (.ref g)) (kG : PySem.W.keepIn K (.ref g) = true) (bG : Binds K fdG ["value"] []) : FnOk P w K mg base CX0 2 f fd ["value", "least", "most"] (spWithin K) := by
  refine F.ok scW (fun vs H Q E h => ?_) (fun cdv A outer s H vs Q E hr h => ?_)
  · obtain ⟨x, l, m, rfl, _⟩ := h
    rfl
  · obtain ⟨x, l, m, rfl, h⟩ := h
    refine ⟨_, pss_one (ps_ret (pe_and (pe_call G hr rfl mgG kG bG .nil pass0 (pa_cons (pv 0) pa_nil))
      (pe_one (pe_chain op_le op_le (pv 1) (pv 0) (pv 2))))), ?_⟩
    rcases h with ⟨v, rfl, h⟩ | ⟨n, h⟩
    · refine ⟨_, rfl, _, rfl, .inl ⟨v, rfl, _, rfl, ?_⟩⟩
      refine iteT ?_
      refine ⟨_, rfl, _, rfl, _, _, rfl, rfl, _, rfl, ?_⟩
      refine ite2 (fun c => ?_) (fun c => ?_)
      · refine ⟨_, rfl, _, _, rfl, rfl, ?_⟩
        rw [c] at h
        exact h
      · have c' : decide (l ≤ v) = false := by simpa using c
        rw [c'] at h
        exact h
    · refine ⟨_, rfl, _, rfl, .inr ⟨n, _, rfl, ?_⟩⟩
      exact iteF h

/-! ### _is_pair -/
def okB (i j : Int) : Bool := (decide (0 ≤ i) && decide (i ≤ 999999)) && (decide (i + 1 ≤ j) && decide (j ≤ 1000000))
theorem okB_iff {i j : Int} : okB i j = true ↔ okP (i, j) := by
  unfold okB okP
  simp only [Bool.and_eq_true, decide_eq_true_eq]
  omega
/-- what a value is as a pair -/
inductive PairV (K : PySem.W.Frag) (H : Hp) : V → Bool → Prop
  | no {x : V} {t : Value} (ty : TyX K H x t) (k : PySem.W.kitOne K t (.type "tuple") = some false) : PairV K H x false
  | len {a : Addr} {xs : List V} (h : H a = some (.tup xs)) (n : xs.length ≠ 2) : PairV K H (.ref a) false
  | pair {a : Addr} {i j : Int} (h : H a = some (.tup [.int i, .int j])) : PairV K H (.ref a) (okB i j)
  | fst {a : Addr} {x y : V} (h : H a = some (.tup [x, y])) (n : NoInt K H x) : PairV K H (.ref a) false
  | snd {a : Addr} {i : Int} {y : V} (h : H a = some (.tup [.int i, y])) (n : NoInt K H y) : PairV K H (.ref a) false
def spIsPair (K : PySem.W.Frag) : Sp := fun vs H Q _ => ∃ (x : V) (b : Bool), vs = [x] ∧ PairV K H x b ∧ Q (.bl b) H
theorem scP : FnScope ["value", "start", "stop"] ["value"] (defScope sIsPair) := ⟨rfl, rfl, rfl, by decide +kernel, rfl, by decide +kernel, by decide +kernel⟩
theorem kit_tt (K : PySem.W.Frag) : PySem.W.kitOne K (.type "tuple") (.type "tuple") = some true := kit_ty (by decide +kernel)
theorem ok_isPair {f g : Addr} {fd fdG : FuncData} (F : Fun K "_is_pair" "_is_pair" sIsPair f fd) (T : Names mg) (G : FnOk P w K mg base CX0 2 g fdG ["value", "least", "most"] (spWithin K)) (mgG : mg "is_within" = some (.ref g)) (kG : PySem.W.keepIn K (.ref g) = true) (bG : Binds K fdG ["value", "least", "most"] []) :
    FnOk P w K mg base CX0 3 f fd ["value"] (spIsPair K) := by
  refine F.ok scP (fun vs H Q E h => ?_) (fun cdv A outer s H vs Q E hr h => ?_)
  · obtain ⟨x, b, rfl, _⟩ := h
    rfl
  · obtain ⟨x, b, rfl, pvx, h⟩ := h
    obtain ⟨tE, mE⟩ := T.END
    refine ⟨_, pss_cons (ps_if (PW.pt (pw_or (pt_not (pt_val (pe_callB call_isi (by rfl) T.isinstance (by decide +kernel) (pa_cons (pv 0) (pa_cons (pe_bltn (v := .ty "tuple") (by rfl) T.tuple (by decide +kernel) rfl) pa_nil)))))
      (pw_or1 (pt_cmpR op_ne (pe_callB call_len_seq (by rfl) T.len PySem.boot_len (pa_cons (pv 0) pa_nil)) pe_int (nomark _))))) (pss_one (ps_ret pe_bl)) pss_nil)
      (pss_cons (ps_asg (pv 0) (pg_tup rfl (pgs_cons (pg_name (i := 1) scP.nd rfl (Or.inl rfl)) (pgs_cons (pg_name (i := 2) scP.nd rfl (Or.inl rfl)) pgs_nil))))
      (pss_one (ps_ret (pe_and (pe_call G hr rfl mgG kG bG .nil pass0 (pa_cons (pv 1) (pa_cons pe_int (pa_cons (pe_op op_sub (pe_glob (v := .int 1000000) rfl mE ⟨_, rfl⟩) pe_int) pa_nil))))
        (pe_one (pe_call G hr rfl mgG kG bG .nil pass0 (pa_cons (pv 2) (pa_cons (pe_op op_add (pv 1) pe_int) (pa_cons (pe_glob (v := .int 1000000) rfl mE ⟨_, rfl⟩) pa_nil))))))))), ?_⟩
    have tup : ∀ {a : Addr} {xs : List V}, H a = some (.tup xs) → TyX K H (.ref a) (.type "tuple") := fun e => .base (.tup e)
    cases pvx with
    | no ty k =>
      refine ⟨_, rfl, _, _, _, _, false, rfl, .ty "tuple", ty, k, false, rfl, ?_⟩
      exact iteT (iteT h)
    | len e n =>
      refine ⟨_, rfl, _, _, _, _, true, rfl, .ty "tuple", tup e, kit_tt K, true, rfl, ?_⟩
      refine iteF ?_
      refine ⟨_, rfl, _, _, rfl, .inr (tupAt e), rfl, _, rfl, ?_⟩
      refine iteNS_not ?_ h
      intro z
      have z2 := V.int.inj z
      omega
    | pair e =>
      rename_i a i j
      refine ⟨_, rfl, _, _, _, _, true, rfl, .ty "tuple", tup e, kit_tt K, true, rfl, ?_⟩
      refine iteF ?_
      refine ⟨_, rfl, _, _, rfl, .inr (tupAt e), rfl, _, rfl, ?_⟩
      refine iteNS rfl ?_
      refine ⟨_, rfl, a, _, rfl, tupAt e, rfl, _, _, rfl, _, _, rfl, rfl, ?_⟩
      refine ⟨_, rfl, _, _, rfl, rfl, _, _, _, rfl, .inl ⟨i, rfl, _, rfl, ?_⟩⟩
      refine ite2 (fun c => ?_) (fun c => ?_)
      · refine ⟨_, rfl, _, rfl, _, _, rfl, rfl, _, _, _, rfl, .inl ⟨j, rfl, ?_⟩⟩
        have eb : okB i j = (decide (i + 1 ≤ j) && decide (j ≤ 1000000)) := by
          unfold okB
          have c2 : (decide (0 ≤ i) && decide (i ≤ 1000000 - 1)) = true := c
          have c3 : (decide (0 ≤ i) && decide (i ≤ 999999)) = true := by simpa using c2
          rw [c3, Bool.true_and]
        rw [eb] at h
        exact h
      · have eb : okB i j = false := by
          unfold okB
          have c2 : ¬ (decide (0 ≤ i) && decide (i ≤ 1000000 - 1)) = true := c
          have c3 : (decide (0 ≤ i) && decide (i ≤ 999999)) = false := by simpa using c2
          rw [c3, Bool.false_and]
        rw [eb] at h
        exact h
    | fst e n =>
      rename_i a x y
      refine ⟨_, rfl, _, _, _, _, true, rfl, .ty "tuple", tup e, kit_tt K, true, rfl, ?_⟩
      refine iteF ?_
      refine ⟨_, rfl, _, _, rfl, .inr (tupAt e), rfl, _, rfl, ?_⟩
      refine iteNS rfl ?_
      refine ⟨_, rfl, a, _, rfl, tupAt e, rfl, _, _, rfl, _, _, rfl, rfl, ?_⟩
      refine ⟨_, rfl, _, _, rfl, rfl, _, _, _, rfl, .inr ⟨n, _, rfl, ?_⟩⟩
      exact iteF h
    | snd e n =>
      rename_i a i y
      refine ⟨_, rfl, _, _, _, _, true, rfl, .ty "tuple", tup e, kit_tt K, true, rfl, ?_⟩
      refine iteF ?_
      refine ⟨_, rfl, _, _, rfl, .inr (tupAt e), rfl, _, rfl, ?_⟩
      refine iteNS rfl ?_
      refine ⟨_, rfl, a, _, rfl, tupAt e, rfl, _, _, rfl, _, _, rfl, rfl, ?_⟩
      refine ⟨_, rfl, _, _, rfl, rfl, _, _, _, rfl, .inl ⟨i, rfl, _, rfl, ?_⟩⟩
      refine ite2 (fun c => ?_) (fun c => ?_)
      · refine ⟨_, rfl, _, rfl, _, _, rfl, rfl, _, _, _, rfl, .inr ⟨n, h⟩⟩
      · exact h
end
end Sps
set_option Elab.async false
set_option linter.all false
set_option maxRecDepth 100000
set_option maxHeartbeats 4000000
/-! _merged and _gaps. -/
namespace Sps
open PySem PySem.Spec PyProof.Rows L2
theorem TPs.put {H : Hp} {ts : List TP} {l : Addr} {xs : List V} {o : HO} (h : TPs H ts) (hl : H l = some (.lst xs)) : TPs (L2.upd H l o) ts := fun t m => by
  rw [upd_ne (ne_of (h t m) hl (by intro z; cases z))]
  exact h t m
theorem PT.put {H : Hp} {a l : Addr} {ps : List Pr} {xs : List V} {o : HO} (h : PT H a ps) (hl : H l = some (.lst xs)) : PT (L2.upd H l o) a ps := by
  obtain ⟨ts, h1, h2, h3⟩ := h
  refine ⟨ts, ?_, h2.put hl, h3⟩
  rw [upd_ne (ne_of h1 hl (by intro z; cases z))]
  exact h1
theorem Norm.len {ps : List Pr} (h : Norm ps) : ps.length ≤ 1000000 := by
  have a := h.size_ok.2
  have b : ∀ qs : List Pr, (∀ p ∈ qs, okP p) → (qs.length : Int) ≤ (qs.map fun p => p.2 - p.1).sum := by
    intro qs hq
    induction qs with
    | nil => exact Int.le_refl _
    | cons p qs ih =>
      have k := (hq p List.mem_cons_self).2.1
      have ih' := ih fun q m => hq q (List.mem_cons_of_mem _ m)
      rw [List.map_cons, List.sum_cons, List.length_cons]
      omega
  have c := b ps h.ok
  unfold size at a
  omega
theorem take_snoc {α : Type} {l : List α} {i : Nat} {x : α} (h : l[i]? = some x) : l.take (i + 1) = l.take i ++ [x] := by
  obtain ⟨hlt, e⟩ := List.getElem?_eq_some_iff.mp h
  rw [List.take_succ_eq_append_getElem hlt, e]
theorem take_all {α : Type} {l : List α} : l.take l.length = l := List.take_of_length_le (Nat.le_refl _)
theorem set_last {α : Type} {l : List α} {a b : α} : (l ++ [a]).set l.length b = l ++ [b] := by
  rw [List.set_append_right _ _ (Nat.le_refl _), Nat.sub_self]
  rfl
theorem ixN_last (n : Nat) : ixN (n + 1) (-1) = some n := by
  unfold ixN
  rw [if_neg (by omega), if_pos (by omega)]
  congr 1
  omega
/-- the pair at a place, as its ints tell -/
def kOf (H : Hp) (v : V) : Int × Int := match v with
  | .ref t => match H t with
    | some (.tup [.int i, .int j]) => (i, j)
    | _ => (0, 0)
  | _ => (0, 0)
theorem kOf_ref {H : Hp} {t : Addr} {i j : Int} (h : H t = some (.tup [.int i, .int j])) : kOf H (.ref t) = (i, j) := by
  show (match H t with | some (.tup [.int i, .int j]) => (i, j) | _ => ((0, 0) : Int × Int)) = (i, j)
  rw [h]
/-- what sorted makes of the pairs of a tuple -/
theorem sorted_tps {H : Hp} {ts : List TP} (h : TPs H ts) {ys : List V} (hs : SrtO.Srtd (ltP (kOf H)) ys) (hp : ys.Perm (ts.map rf)) :
    ∃ us : List TP, ys = us.map rf ∧ TPs H us ∧ (∀ p, p ∈ prs us ↔ p ∈ prs ts) ∧ us.length = ts.length ∧ us.Pairwise fun a b => a.2.1 ≤ b.2.1 := by
  let un : V → TP := fun v => match v with | .ref a => (a, kOf H v) | _ => (0, 0, 0)
  have hy : ∀ y ∈ ys, ∃ t ∈ ts, y = .ref t.1 := fun y m => by
    obtain ⟨t, mt, e⟩ := List.mem_map.mp (hp.mem_iff.mp m)
    exact ⟨t, mt, e.symm⟩
  have unt : ∀ t ∈ ts, un (.ref t.1) = t := fun t m => by
    show (t.1, kOf H (.ref t.1)) = t
    rw [kOf_ref (h t m)]
  refine ⟨ys.map un, ?_, ?_, ?_, ?_, ?_⟩
  · rw [List.map_map]
    have e : ∀ y ∈ ys, (rf ∘ un) y = y := fun y m => by
      obtain ⟨t, mt, e⟩ := hy y m
      subst e
      show rf (un (.ref t.1)) = _
      rw [unt t mt]
      rfl
    have e2 : ys.map (rf ∘ un) = ys.map id := List.map_congr_left e
    rw [e2, List.map_id]
  · intro u m
    obtain ⟨y, my, e⟩ := List.mem_map.mp m
    obtain ⟨t, mt, e2⟩ := hy y my
    subst e2
    rw [unt t mt] at e
    rw [← e]
    exact h t mt
  · intro p
    constructor
    · intro m
      obtain ⟨u, mu, e⟩ := List.mem_map.mp m
      obtain ⟨y, my, e2⟩ := List.mem_map.mp mu
      obtain ⟨t, mt, e3⟩ := hy y my
      subst e3
      rw [unt t mt] at e2
      subst e2
      rw [← e]
      exact prs_mem mt
    · intro m
      obtain ⟨t, mt, e⟩ := List.mem_map.mp m
      have my : V.ref t.1 ∈ ys := hp.mem_iff.mpr (List.mem_map.mpr ⟨t, mt, rfl⟩)
      refine List.mem_map.mpr ⟨t, List.mem_map.mpr ⟨_, my, unt t mt⟩, e⟩
  · rw [List.length_map, hp.length_eq, List.length_map]
  · refine List.pairwise_map.mpr ?_
    have hs' : ys.Pairwise fun x y => ltP (kOf H) y x = false := hs
    refine List.Pairwise.imp_of_mem (fun {x y} mx my hh => ?_) hs'
    obtain ⟨t, mt, e⟩ := hy x mx
    obtain ⟨u, mu, e2⟩ := hy y my
    subst e e2
    rw [unt t mt, unt u mu]
    have q : SrtO.lexB (kOf H (.ref u.1)) (kOf H (.ref t.1)) = false := hh
    rw [kOf_ref (h t mt), kOf_ref (h u mu)] at q
    have := SrtO.lexB_no.mp q
    show t.2.1 ≤ u.2.1
    have q1 : (u.2.1, u.2.2).1 = u.2.1 := rfl
    omega

section
variable {P : Program} {w : World} {K : PySem.W.Frag} {mg : Str → Option Value} {base : Heap}
/-! ### _merged -/
def spMerged : Sp := fun vs H Q _ => ∃ (a : Addr) (ps : List Pr), vs = [.ref a] ∧ PT H a ps ∧ (∀ p ∈ ps, okP p) ∧
  ∀ (H' : Hp) (p : Addr) (ms : List Pr), Same H H' → PT H' p ms → Norm ms → (∀ x, inS x ms ↔ inS x ps) → Q (.ref p) H'
theorem scM : FnScope ["pairs", "found", "start", "stop"] ["pairs"] (defScope sMerged) := ⟨rfl, rfl, rfl, by decide +kernel, rfl, by decide +kernel, by decide +kernel⟩
theorem inS_mem {x : Int} {ps qs : List Pr} (h : ∀ p, p ∈ ps ↔ p ∈ qs) : inS x ps ↔ inS x qs := ⟨fun ⟨p, m, k⟩ => ⟨p, (h p).mp m, k⟩, fun ⟨p, m, k⟩ => ⟨p, (h p).mpr m, k⟩⟩
theorem ok_merged {f : Addr} {fd : FuncData} (F : Fun K "_merged" "_merged" sMerged f fd) (T : Names mg) : FnOk P w K mg base CX0 2 f fd ["pairs"] spMerged := by
  refine F.ok scM (fun vs H Q E h => ?_) (fun cdv A outer s H vs Q E hr h => ?_)
  · obtain ⟨a, ps, rfl, _⟩ := h
    rfl
  · obtain ⟨a, ps, rfl, ⟨ts, hA, hT, rfl⟩, hok, k⟩ := h
    refine ⟨_, pss_cons (ps_set (i := 1) scM.nd rfl (Or.inl rfl) (pe_lst pa_nil))
      (pss_cons (ps_for PassesOwn.never rfl (pi_list (pe_callB call_sortT (by rfl) T.sorted (by decide +kernel) (pa_cons (pv 0) pa_nil)))
          (pg_tup rfl (pgs_cons (pg_name (i := 2) scM.nd rfl (Or.inl rfl)) (pgs_cons (pg_name (i := 3) scM.nd rfl (Or.inl rfl)) pgs_nil)))
        (pss_one (ps_if (PW.pt (pw_and (pt_truth (pv 1) (by intro _; rfl)) (pw_and1 (pt_cmpR op_le (pv 2) (pe_ix ix_tup (pe_ix ix_list (pv 1) (pe_un un_neg pe_int) (fun _ _ => rfl)) pe_int (fun _ _ => rfl)) (nomark _)))))
          (pss_one (ps_asg (pe_tup (pa_cons (pe_ix ix_tup (pe_ix ix_list (pv 1) (pe_un un_neg pe_int) (fun _ _ => rfl)) pe_int (fun _ _ => rfl))
              (pa_cons (pe_callB (call_max2 rfl) (by rfl) T.max (by decide +kernel) (pa_cons (pe_ix ix_tup (pe_ix ix_list (pv 1) (pe_un un_neg pe_int) (fun _ _ => rfl)) pe_int (fun _ _ => rfl)) (pa_cons (pv 3) pa_nil))) pa_nil)))
            (pg_sub (pv 1) (pe_un un_neg pe_int) set_list)))
          (pss_one (ps_expr (pe_bm PySem.F.plainAttrs_list PySem.F.slot_list_append PySem.F.type_list_append mt_append (pv 1) (pa_cons (pe_tup (pa_cons (pv 2) (pa_cons (pv 3) pa_nil))) pa_nil)))))))
      (pss_one (ps_ret (pe_callTy call_tuple_of (by rfl) T.tuple (by decide +kernel) (pa_cons (pv 1) pa_nil))))), ?_⟩
    refine ⟨Nat.zero_le _, fun l hl => ?_⟩
    have al : a ≠ l := ne_of_none hA hl
    have s1 : Same H (L2.upd H l (.lst [])) := Same.upd hl
    have T1 : TPs (L2.upd H l (.lst [])) ts := hT.same s1
    refine ⟨_, rfl, a, ts.map rf, kOf (L2.upd H l (.lst [])), rfl, tupAt (s1 _ _ hA), fun x mx => ?_, fun ys q hsr hpm hq => ?_⟩
    · obtain ⟨t, mt, e⟩ := List.mem_map.mp mx
      subst e
      refine ⟨t.1, rfl, ?_⟩
      show _ = some (HO.tup [.int (kOf _ (.ref t.1)).1, .int (kOf _ (.ref t.1)).2])
      rw [kOf_ref (T1 t mt)]
      exact T1 t mt
    obtain ⟨us, rfl, hU, hmem, hlen, hasc⟩ := sorted_tps T1 hsr hpm
    have s2 : Same (L2.upd H l (.lst [])) (L2.upd (L2.upd H l (.lst [])) q (.lst (us.map rf))) := Same.upd hq
    have lq : l ≠ q := ne_of_none (show (L2.upd H l (.lst [])) l = _ from upd_same) hq
    have hU2 : TPs (L2.upd (L2.upd H l (.lst [])) q (.lst (us.map rf))) us := hU.same s2
    have hn : H q = none := s1.free hq
    refine ⟨q, rfl, ⟨_, SqL.of upd_same⟩, for_list (K := K) (a := q) (xs := us.map rf) (fun i σ H' => ∃ (fs : List TP) (v2 v3 : Option V), σ = [some (.ref a), some (.ref l), v2, v3] ∧ Same H H' ∧ H' l = some (.lst (fs.map rf)) ∧ H' q = some (.lst (us.map rf)) ∧ TPs H' fs ∧ TPs H' us ∧
        Norm (prs fs) ∧ (∀ x, inS x (prs fs) ↔ inS x (prs (us.take i))) ∧ ∀ f ∈ prs fs, ∀ (j : Nat) u, i ≤ j → us[j]? = some u → f.1 ≤ u.2.1)
      ⟨[], none, none, rfl, s1.trans s2, s2 _ _ upd_same, upd_same, TPs.nil, hU2, Norm.nil, fun x => Iff.rfl, fun f m => by cases m⟩
      (fun i σ H' _ ⟨_, _, _, _, _, _, e, _⟩ => SqL.of e) ?_ ?_⟩
    · rintro i y σ H' hi ⟨fs, v2, v3, rfl, sH, hL, hQ, hF, hU', hN, hin, hle⟩
      rw [List.getElem?_map] at hi
      obtain ⟨u, hu, e⟩ : ∃ u, us[i]? = some u ∧ rf u = y := by
        cases e : us[i]? with
        | none => rw [e] at hi; cases hi
        | some u => rw [e] at hi; exact ⟨u, rfl, Option.some.inj hi⟩
      subst e
      have mu : u ∈ us := List.mem_of_getElem? hu
      have okU : okP u.2 := hok _ ((hmem _).mp (prs_mem mu))
      have M : Mrg (prs fs) (prs (us.take i)) u.2.1 := ⟨hN, hin, fun f m => hle f m i u (Nat.le_refl _) hu⟩
      have etk : prs (us.take (i + 1)) = prs (us.take i) ++ [u.2] := by rw [take_snoc hu, prs_app]; rfl
      have later : ∀ (j : Nat) v, i + 1 ≤ j → us[j]? = some v → u.2.1 ≤ v.2.1 := fun j v hj hv => by
        obtain ⟨hi1, e1⟩ := List.getElem?_eq_some_iff.mp hu
        obtain ⟨hj1, e2⟩ := List.getElem?_eq_some_iff.mp hv
        have := List.pairwise_iff_getElem.mp hasc i j hi1 hj1 (by omega)
        rw [e1, e2] at this
        exact this
      have fsz : fs.length ≤ 1000000 := by
        have := hN.len
        unfold prs at this
        rw [List.length_map] at this
        exact this
      have app : ∀ t : Addr, H' t = none → ∀ (ha : ∀ f ∈ prs fs, f.2 < u.2.1), _ := fun t ht ha =>
        (show ∃ (gs : List TP), L2.upd (L2.upd H' t (.tup [.int u.2.1, .int u.2.2])) l (.lst ((fs.map rf) ++ [.ref t])) l = some (.lst (gs.map rf)) ∧ TPs (L2.upd (L2.upd H' t (.tup [.int u.2.1, .int u.2.2])) l (.lst ((fs.map rf) ++ [.ref t]))) gs ∧ Mrg (prs gs) (prs (us.take (i + 1))) u.2.1 from by
          refine ⟨fs ++ [(t, u.2)], ?_, ?_, ?_⟩
          · rw [upd_same, List.map_append]; rfl
          · exact ((hF.same (Same.upd ht)).app (TPs.one (t := (t, u.2)) upd_same)).put ((Same.upd ht) _ _ hL)
          · rw [prs_app, etk]
            exact M.add okU ha)
      -- for start, stop
      refine ⟨u.1, _, rfl, tupAt (hU' u mu), rfl, _, _, rfl, _, _, rfl, rfl, ?_⟩
      have fin : ∀ (gs : List TP) (H2 : Hp), Same H' H2 ∨ True → Same H H2 → H2 l = some (.lst (gs.map rf)) → H2 q = some (.lst (us.map rf)) → TPs H2 gs → TPs H2 us → Mrg (prs gs) (prs (us.take (i + 1))) u.2.1 →
          ∃ (fs : List TP) (v2 v3 : Option V), [some (V.ref a), some (V.ref l), some (V.int u.2.1), some (V.int u.2.2)] = [some (.ref a), some (.ref l), v2, v3] ∧ Same H H2 ∧ H2 l = some (.lst (fs.map rf)) ∧ H2 q = some (.lst (us.map rf)) ∧ TPs H2 fs ∧ TPs H2 us ∧
            Norm (prs fs) ∧ (∀ x, inS x (prs fs) ↔ inS x (prs (us.take (i + 1)))) ∧ ∀ f ∈ prs fs, ∀ (j : Nat) u, i + 1 ≤ j → us[j]? = some u → f.1 ≤ u.2.1 :=
        fun gs H2 _ a1 a2 a3 a4 a5 m => ⟨gs, _, _, rfl, a1, a2, a3, a4, a5, m.norm, m.same, fun f hf j v hj hv => Int.le_trans (m.le f hf) (later j v hj hv)⟩
      rcases List.eq_nil_or_concat fs with e0 | ⟨gs, z, e0⟩
      · -- nothing was found so far
        subst e0
        refine ⟨_, rfl, false, .inl ⟨_, SqL.of hL, rfl⟩, ?_⟩
        refine iteF (iteF ?_)
        refine ⟨_, rfl, .inl ⟨rfl, _, SqL.of hL⟩, _, rfl, _, rfl, (by show 2 ≤ sizeLine; decide), fun t ht => ?_⟩
        refine ⟨l, _, _, rfl, rfl, (Same.upd ht) _ _ hL, by decide, ?_⟩
        obtain ⟨gs, g1, g2, g3⟩ := app t ht fun f m => by cases m
        have ht0 : H t = none := sH.free ht
        refine fin gs _ (.inr trivial) (Same.put (Same.upd' sH ht) hl) g1 ?_ g2 ?_ g3
        · rw [upd_ne lq.symm]
          exact (Same.upd ht) _ _ hQ
        · exact (hU'.same (Same.upd ht)).put ((Same.upd ht) _ _ hL)
      · subst e0
        rw [List.concat_eq_append] at *
        have hz : TPs H' [z] := fun t m => hF t (List.mem_append.mpr (.inr m))
        have hzt := hz z (List.mem_singleton.mpr rfl)
        have hLl : (gs ++ [z]).map rf = gs.map rf ++ [rf z] := by rw [List.map_append]; rfl
        have at1 : atI ((gs ++ [z]).map rf) (-1) = some (V.ref z.1) := by rw [hLl]; exact atI_last _ _
        refine ⟨_, rfl, true, .inl ⟨_, SqL.of hL, by rw [hLl]; simp⟩, ?_⟩
        refine iteT ?_
        refine ⟨_, rfl, _, rfl, 1, rfl, l, _, _, _, rfl, rfl, SqL.of hL, at1, z.1, _, _, _, rfl, rfl, tupAt hzt, atI_nat (j := 1) rfl, _, _, rfl, rfl, _, rfl, ?_⟩
        refine ite2 (fun c => ?_) (fun c => ?_)
        · have c' : u.2.1 ≤ z.2.2 := of_decide_eq_true c
          refine ⟨_, rfl, 1, rfl, l, _, _, _, rfl, rfl, SqL.of hL, at1, z.1, _, _, _, rfl, rfl, tupAt hzt, atI_nat (j := 0) rfl, ?_⟩
          refine ⟨_, rfl, 1, rfl, l, _, _, _, rfl, rfl, SqL.of hL, at1, z.1, _, _, _, rfl, rfl, tupAt hzt, atI_nat (j := 1) rfl, _, rfl, _, _, rfl, (by show 2 ≤ sizeLine; decide), fun t ht => ?_⟩
          refine ⟨_, rfl, 1, rfl, l, _, _, gs.length, rfl, rfl, (Same.upd ht) _ _ hL, ?_, ?_⟩
          · rw [List.length_map, List.length_append]
            exact ixN_last _
          · have ht0 : H t = none := sH.free ht
            have mg := M
            rw [prs_app] at mg
            have g3 := mg.grow okU c'
            refine fin (gs ++ [(t, z.2.1, if u.2.2 > z.2.2 then u.2.2 else z.2.2)]) _ (.inr trivial) (Same.put (Same.upd' sH ht) hl) ?_ ?_ ?_ ?_ ?_
            · rw [upd_same, hLl]
              have : (gs.map rf ++ [rf z]).set gs.length (V.ref t) = gs.map rf ++ [V.ref t] := by
                have := set_last (l := gs.map rf) (a := rf z) (b := V.ref t)
                rw [List.length_map] at this
                exact this
              rw [this, List.map_append]
              rfl
            · rw [upd_ne lq.symm]
              exact (Same.upd ht) _ _ hQ
            · have hG : TPs H' gs := fun t m => hF t (List.mem_append.mpr (.inl m))
              exact ((hG.same (Same.upd ht)).app (TPs.one (t := (t, z.2.1, if u.2.2 > z.2.2 then u.2.2 else z.2.2)) upd_same)).put ((Same.upd ht) _ _ hL)
            · exact (hU'.same (Same.upd ht)).put ((Same.upd ht) _ _ hL)
            · rw [prs_app, etk]
              exact g3
        · have c' : ¬ u.2.1 ≤ z.2.2 := fun z => c (decide_eq_true z)
          refine ⟨_, rfl, .inl ⟨rfl, _, SqL.of hL⟩, _, rfl, _, rfl, (by show 2 ≤ sizeLine; decide), fun t ht => ?_⟩
          refine ⟨l, _, _, rfl, rfl, (Same.upd ht) _ _ hL, ?_, ?_⟩
          · rw [List.length_map]
            exact Nat.lt_of_le_of_lt fsz (by decide)
          · obtain ⟨gs', g1, g2, g3⟩ := app t ht fun f m => by
              rw [prs_app] at m hN
              rcases List.mem_append.mp m with m | m
              · have a1 := hN.last_lt f m
                have a2 := (hN.ok z.2 (List.mem_append.mpr (.inr (List.mem_singleton.mpr rfl)))).2.1
                have a3 : f.2 < z.2.1 := a1
                omega
              · have e3 : f = z.2 := List.mem_singleton.mp m
                rw [e3]
                omega
            have ht0 : H t = none := sH.free ht
            refine fin gs' _ (.inr trivial) (Same.put (Same.upd' sH ht) hl) g1 ?_ g2 ?_ g3
            · rw [upd_ne lq.symm]
              exact (Same.upd ht) _ _ hQ
            · exact (hU'.same (Same.upd ht)).put ((Same.upd ht) _ _ hL)
    · rintro σ H' ⟨fs, v2, v3, rfl, sH, hL, hQ, hF, hU', hN, hin, hle⟩
      refine ⟨_, rfl, l, _, rfl, .inl ⟨SqL.of hL, fun p hp => ?_⟩⟩
      refine k _ p (prs fs) (Same.upd' sH hp) ⟨fs, upd_same, hF.same (Same.upd hp), rfl⟩ hN fun x => ?_
      rw [hin x, List.length_map, take_all]
      exact inS_mem hmem
end
end Sps
set_option Elab.async false
set_option linter.all false
set_option maxRecDepth 100000
set_option maxHeartbeats 4000000
/-! _gaps, and the methods of Spans. -/
namespace Sps
open PySem PySem.Spec PyProof.Rows L2
section
variable {P : Program} {w : World} {K : PySem.W.Frag} {mg : Str → Option Value} {base : Heap}
def spGaps : Sp := fun vs H Q _ => ∃ (a : Addr) (ps : List Pr), vs = [.ref a] ∧ PT H a ps ∧ Norm ps ∧
  ∀ (H' : Hp) (p : Addr) (gs : List Pr), Same H H' → PT H' p gs → Norm gs → (∀ x, inS x gs ↔ (0 ≤ x ∧ x < 1000000) ∧ ¬ inS x ps) → Q (.ref p) H'
theorem scG : FnScope ["pairs", "found", "begin", "start", "stop"] ["pairs"] (defScope sGaps) := ⟨rfl, rfl, rfl, by decide +kernel, rfl, by decide +kernel, by decide +kernel⟩
theorem ok_gaps {f : Addr} {fd : FuncData} (F : Fun K "_gaps" "_gaps" sGaps f fd) (T : Names mg) : FnOk P w K mg base CX0 2 f fd ["pairs"] spGaps := by
  refine F.ok scG (fun vs H Q E h => ?_) (fun cdv A outer s H vs Q E hr h => ?_)
  · obtain ⟨a, ps, rfl, _⟩ := h
    rfl
  · obtain ⟨a, ps, rfl, ⟨ts, hA, hT, rfl⟩, hN, k⟩ := h
    obtain ⟨tE, mE⟩ := T.END
    refine ⟨_, pss_cons (ps_set (i := 1) scG.nd rfl (Or.inl rfl) (pe_lst pa_nil))
      (pss_cons (ps_set (i := 2) scG.nd rfl (Or.inl rfl) pe_int)
      (pss_cons (ps_for PassesOwn.never rfl (pi_tup (pv 0))
          (pg_tup rfl (pgs_cons (pg_name (i := 3) scG.nd rfl (Or.inl rfl)) (pgs_cons (pg_name (i := 4) scG.nd rfl (Or.inl rfl)) pgs_nil)))
        (pss_cons (ps_if (pt_cmpR op_lt (pv 2) (pv 3) (nomark _))
            (pss_one (ps_expr (pe_bm PySem.F.plainAttrs_list PySem.F.slot_list_append PySem.F.type_list_append mt_append (pv 1) (pa_cons (pe_tup (pa_cons (pv 2) (pa_cons (pv 3) pa_nil))) pa_nil)))) pss_nil)
          (pss_one (ps_set (i := 2) scG.nd rfl (Or.inl rfl) (pv 4)))))
      (pss_cons (ps_if (pt_cmpR op_lt (pv 2) (pe_glob (v := .int 1000000) rfl mE ⟨_, rfl⟩) (nomark _))
          (pss_one (ps_expr (pe_bm PySem.F.plainAttrs_list PySem.F.slot_list_append PySem.F.type_list_append mt_append (pv 1) (pa_cons (pe_tup (pa_cons (pv 2) (pa_cons (pe_glob (v := .int 1000000) rfl mE ⟨_, rfl⟩) pa_nil))) pa_nil)))) pss_nil)
      (pss_one (ps_ret (pe_callTy call_tuple_of (by rfl) T.tuple (by decide +kernel) (pa_cons (pv 1) pa_nil))))))), ?_⟩
    refine ⟨Nat.zero_le _, fun l hl => ?_⟩
    have s1 : Same H (L2.upd H l (.lst [])) := Same.upd hl
    refine ⟨_, rfl, a, rfl, ⟨_, tupAt (s1 _ _ hA)⟩, for_tup (K := K) (a := a) (xs := ts.map rf) (fun i σ H' => ∃ (gs : List TP) (b : Int) (v3 v4 : Option V), σ = [some (.ref a), some (.ref l), some (.int b), v3, v4] ∧ Same H H' ∧ H' l = some (.lst (gs.map rf)) ∧ TPs H' gs ∧
        Gap (prs gs) (prs (ts.take i)) b ∧ ∀ (j : Nat) u, i ≤ j → ts[j]? = some u → b ≤ u.2.1)
      ⟨[], 0, none, none, rfl, s1, upd_same, TPs.nil, Gap.start, fun j u _ hu => (hN.ok _ (prs_mem (List.mem_of_getElem? hu))).1⟩
      (fun i σ H' _ ⟨_, _, _, _, _, sH, _⟩ => tupAt (sH _ _ hA)) ?_ ?_⟩
    · rintro i y σ H' hi ⟨gs, b, v3, v4, rfl, sH, hL, hG, g, hle⟩
      rw [List.getElem?_map] at hi
      obtain ⟨u, hu, e⟩ : ∃ u, ts[i]? = some u ∧ rf u = y := by
        cases e : ts[i]? with
        | none => rw [e] at hi; cases hi
        | some u => rw [e] at hi; exact ⟨u, rfl, Option.some.inj hi⟩
      subst e
      have mu : u ∈ ts := List.mem_of_getElem? hu
      have okU : okP u.2 := hN.ok _ (prs_mem mu)
      have etk : prs (ts.take (i + 1)) = prs (ts.take i) ++ [u.2] := by rw [take_snoc hu, prs_app]; rfl
      have hb := hle i u (Nat.le_refl _) hu
      have later : ∀ (j : Nat) v, i + 1 ≤ j → ts[j]? = some v → u.2.2 ≤ v.2.1 := fun j v hj hv => by
        obtain ⟨hi1, e1⟩ := List.getElem?_eq_some_iff.mp hu
        obtain ⟨hj1, e2⟩ := List.getElem?_eq_some_iff.mp hv
        have hasc : ts.Pairwise fun p q => p.2.2 < q.2.1 := List.pairwise_map.mp hN.asc
        have := List.pairwise_iff_getElem.mp hasc i j hi1 hj1 (by omega)
        rw [e1, e2] at this
        omega
      refine ⟨u.1, _, rfl, tupAt (hT.same sH u mu), rfl, _, _, rfl, _, _, rfl, rfl, ?_⟩
      refine ⟨_, rfl, _, rfl, _, _, rfl, rfl, _, rfl, ?_⟩
      refine ite2 (fun c => ?_) (fun c => ?_)
      · have c' : b < u.2.1 := of_decide_eq_true c
        refine ⟨_, rfl, .inl ⟨rfl, _, SqL.of hL⟩, _, rfl, _, rfl, (by show 2 ≤ sizeLine; decide), fun t ht => ?_⟩
        refine ⟨l, _, _, rfl, rfl, (Same.upd ht) _ _ hL, ?_, ?_⟩
        · have := g.norm.len
          unfold prs at this
          rw [List.length_map] at this ⊢
          exact Nat.lt_of_le_of_lt this (by decide)
        · refine ⟨_, rfl, gs ++ [(t, b, u.2.1)], u.2.2, _, _, rfl, Same.put (Same.upd' sH ht) hl, ?_, ?_, ?_, later⟩
          · rw [upd_same, List.map_append]; rfl
          · exact ((hG.same (Same.upd ht)).app (TPs.one (t := (t, b, u.2.1)) upd_same)).put ((Same.upd ht) _ _ hL)
          · rw [prs_app, etk]
            exact g.push okU c'
      · have c' : ¬ b < u.2.1 := fun z => c (decide_eq_true z)
        refine ⟨_, rfl, gs, u.2.2, _, _, rfl, sH, hL, hG, ?_, later⟩
        rw [etk]
        exact g.skip okU c' hb
    · rintro σ H' ⟨gs, b, v3, v4, rfl, sH, hL, hG, g, hle⟩
      rw [List.length_map, take_all] at g
      refine ⟨_, rfl, _, _, rfl, rfl, _, rfl, ?_⟩
      refine ite2 (fun c => ?_) (fun c => ?_)
      · have c' : b < 1000000 := of_decide_eq_true c
        refine ⟨_, rfl, .inl ⟨rfl, _, SqL.of hL⟩, _, rfl, (by show 2 ≤ sizeLine; decide), fun t ht => ?_⟩
        refine ⟨l, _, _, rfl, rfl, (Same.upd ht) _ _ hL, ?_, ?_⟩
        · have := g.norm.len
          unfold prs at this
          rw [List.length_map] at this ⊢
          exact Nat.lt_of_le_of_lt this (by decide)
        · refine ⟨_, rfl, l, _, rfl, .inl ⟨SqL.of upd_same, fun p hp => ?_⟩⟩
          have g2 := g.last c'
          have hG2 := ((hG.same (Same.upd ht)).app (TPs.one (t := (t, b, 1000000)) upd_same)).put (o := .lst (gs.map rf ++ [V.ref t])) ((Same.upd ht) _ _ hL)
          refine k _ p (prs gs ++ [(b, 1000000)]) (Same.upd' (Same.put (Same.upd' sH ht) hl) hp) ⟨gs ++ [(t, b, 1000000)], ?_, hG2.same (Same.upd hp), by rw [prs_app]; rfl⟩ g2.1 g2.2
          rw [upd_same, List.map_append]
          rfl
      · have c' : ¬ b < 1000000 := fun z => c (decide_eq_true z)
        refine ⟨_, rfl, l, _, rfl, .inl ⟨SqL.of hL, fun p hp => ?_⟩⟩
        exact k _ p (prs gs) (Same.upd' sH hp) ⟨gs, upd_same, hG.same (Same.upd hp), rfl⟩ g.norm (g.done c')
end
end Sps
set_option Elab.async false
set_option linter.all false
set_option maxRecDepth 100000
set_option maxHeartbeats 4000000
/-! The class Spans: its making and its operators. -/
namespace Sps
open PySem PySem.Spec PyProof.Rows L2
/-! ### rules: C(), C( *y), by a promise of __init__ by position -/
section
variable {X : Cx} {CX : CXT} {k : Nat} {f C : Addr} {sp : Sp} {E : XK} {x : Str} {e : Expr} {te : TE} {p pos sp_ : Pos}
theorem pe_makeR0 (M : Mk X.K C f) (F : FnR X.prog X.w X.K X.mg X.base CX k f sp) (hr : Room (k + 1) X.A) (hg : Gl X x) (hm : X.mg x = some (.ref C)) (hx : Passes CX X E) (hdb : (x == ("__debug__" : Str)) = false := by decide) :
    PE X (.Call (.Name x p) [] [] pos) (StX.tMakeR C sp E tNil) := by
  refine ⟨fun pins s σ H Q I h => ?_⟩
  refine wpAny_Call_Name_kw (ld_glob I hg hm ?_ hdb)
  exact PySem.W.callWith_K0 I.kIn M.kp (StX.run_makeR (us := []) M F hr hx I .nil h)
theorem pe_makeS (M : Mk X.K C f) (F : FnR X.prog X.w X.K X.mg X.base CX k f sp) (hr : Room (k + 1) X.A) (hg : Gl X x) (hm : X.mg x = some (.ref C)) (hx : Passes CX X E) (he : PE X e te) (hd : (x == ("__debug__" : Str)) = false := by decide)
    (hst : starEach [.Starred e sp_] X.env = [(true, eval e X.env)] := by rfl) :
    PE X (.Call (.Name x p) [.Starred e sp_] [] pos) (StX.tMakeR C sp E fun σ H Q => te σ H fun y H1 => ∃ a xs, y = V.ref a ∧ (SqT X.K H1 a xs ∨ SqL X.K H1 a xs) ∧ Q xs H1) := by
  refine ⟨fun pins s σ H Q I h => ?_⟩
  refine wpAny_Call_Name_kw (ld_glob I hg hm ?_ hd)
  refine PySem.W.callWith_S (h₀ := X.base) I.ok.mod.kin M.kp (thn (he.run pins s σ H _ I h) fun v s1 ⟨y, H1, I1, ry, a, xs, ey, hxs, q⟩ => ?_) hst
  subst ey
  obtain rfl : v = Value.ref a := ry
  exact StX.star_any I1 hxs fun us s2 I2 rv => ⟨I2.kIn, StX.run_makeR M F hr hx I2 rv q⟩
end
/-! ### Spans in the heap -/
def flds (t : Addr) : List (Str × V) := [("pairs", .ref t)]
def SpAt (C : Addr) (H : Hp) (x : Addr) (ms : List Pr) : Prop := ∃ dx t, H x = some (.ins C dx (flds t)) ∧ PT H t ms
theorem SpAt.same {C : Addr} {H H' : Hp} {x : Addr} {ms : List Pr} (h : SpAt C H x ms) (s : Same H H') : SpAt C H' x ms := let ⟨dx, t, h1, h2⟩ := h; ⟨dx, t, s _ _ h1, h2.same s⟩
theorem look_pairs (t : Addr) : (flds t).lookup ("pairs" : Str) = some (.ref t) := by
  show List.lookup _ [_] = _
  rw [List.lookup_cons, beq_self_eq_true]
/-- all that was tracked, but what stands at x, is as it was -/
def SameX (x : Addr) (H H' : Hp) : Prop := ∀ b o, b ≠ x → H b = some o → H' b = some o
/-- a method of a class by its name -/
structure Op (K : PySem.W.Frag) (C : Addr) (m : Str) (g : Addr) : Prop where
  at_ : PySem.W.findIn K (.ref C) m = some (some (.ref g))
  fn : PySem.W.isFn K (.ref g) = true
structure SpCls (K : PySem.W.Frag) (mg : Str → Option Value) (C : Addr) : Prop where
  cl : Cls K C
  nP : NoAttr K C "pairs"
  mgC : mg "Spans" = some (.ref C)
  self : PySem.W.selfFirst K C = true
  nfC : PySem.W.notFirst K C (.ref C) = true
  nfT : PySem.W.notFirst K C (.type "tuple") = true
  nfI : PySem.W.notFirst K C (.type "int") = true
  kCC : PySem.W.kitOne K (.ref C) (.ref C) = some true
  kTC : PySem.W.kitOne K (.type "tuple") (.ref C) = some false
  kIC : PySem.W.kitOne K (.type "int") (.ref C) = some false
  ca : PySem.W.findIn K (.ref C) "__class__" = some (some (.builtin "object.__class__"))
  cn : PySem.W.specialIn K (.builtin "object.__class__") "__get__" = some (some (.builtin "getset_descriptor.__get__"))
  ct : PySem.W.takesIn K (.builtin "object.__class__") = some true
  cm : PySem.W.mroIn K C (.type "object") = some true

section
variable {P : Program} {w : World} {K : PySem.W.Frag} {mg : Str → Option Value} {base : Heap}
/-! ### __init__ -/
def spInit (C : Addr) : Sp := fun vs H Q _ => ∃ (x p : Addr) (ps : List Pr) (dx : Addr), vs = [.ref x, .ref p] ∧ H x = some (.ins C dx []) ∧ PT H p ps ∧ ps.length ≤ 4000000 ∧ (∀ q ∈ ps, okP q) ∧
  ∀ (H' : Hp) (ms : List Pr), SameX x H H' → SpAt C H' x ms → Norm ms → (∀ y, inS y ms ↔ inS y ps) → Q .non H'
/-- the same, the pairs one by one -/
def spNew (C : Addr) : Sp := fun vs H Q _ => ∃ (x dx : Addr) (ts : List TP), vs = .ref x :: ts.map rf ∧ H x = some (.ins C dx []) ∧ TPs H ts ∧ ts.length ≤ 4000000 ∧ (∀ q ∈ prs ts, okP q) ∧
  ∀ (H' : Hp) (ms : List Pr), SameX x H H' → SpAt C H' x ms → Norm ms → (∀ y, inS y ms ↔ inS y (prs ts)) → Q .non H'
theorem scI : FnScope ["self", "pairs", "pair"] ["self", "pairs"] (defScope sInit) := ⟨rfl, rfl, rfl, by decide +kernel, rfl, by decide +kernel, by decide +kernel⟩
theorem ok_init {f C fP fM : Addr} {fd fdP fdM : FuncData} (F : Fun K "__init__" "Spans.__init__" sInit f fd) (T : Names mg) (S : SpCls K mg C)
    (GP : FnOk P w K mg base CX0 3 fP fdP ["value"] (spIsPair K)) (mgP : mg "_is_pair" = some (.ref fP)) (kP : PySem.W.keepIn K (.ref fP) = true) (bP : Binds K fdP ["value"] [])
    (GM : FnOk P w K mg base CX0 2 fM fdM ["pairs"] spMerged) (mgM : mg "_merged" = some (.ref fM)) (kM : PySem.W.keepIn K (.ref fM) = true) (bM : Binds K fdM ["pairs"] []) :
    FnR P w K mg base CX0 4 f (spNew C) := by
  obtain ⟨oc, od, kV, doc, pm, an, cdv, ct, osl, efd, lk, hcd⟩ := F.ex
  rw [efd] at lk
  have R := StX.fn_star (P := P) (w := w) (mg := mg) (base := base) (CX := CX0) (k := 3) (ps := ["self"]) (pv := "pairs") (sp := spInit C) lk hcd scI StX.cxUp_none (StX.bind_star1 (B := fun us => bindArgs (PySem.W.fnOf "__init__" "Spans.__init__" (defArgs sInit) (defBody sInit) (defScope sInit) .none kV doc pm an cdv ct) ⟨us, []⟩) (p1 := "self") (pv := "pairs") (fun a => rfl) (fun a r rs => rfl)) (fun A outer s H vs Q E hr h => by
    obtain ⟨x, p, ps, dx, rfl, hx, ⟨ts, hA, hT, rfl⟩, hlen, hok, k⟩ := h
    have hr1 : Room 2 _ := hr.mono (by decide)
    refine ⟨_, pss_cons (ps_if (pt_not (pt_val (pe_callB (cr_all rfl) (by rfl) T.all (by decide +kernel) (pa_cons (pe_lc (own := [("pair", 2)]) (g := gName 2) (tt := tYes) rfl scI.nd (pi_tup (pv 1)) (blkOk_by (own := [("pair", 2)]) (N := ["self", "pairs", "pair"]) (sc := defScope sInit) (by decide +kernel))
          (fun _ _ _ _ _ => pg_name (i := 2) scI.nd rfl (Or.inl rfl)) (fun _ _ _ _ _ => pts_nil) (fun _ _ _ _ _ => pe_call GP hr rfl mgP kP bP .nil pass0 (pa_cons (pv 2) pa_nil))) pa_nil)))) (pss_one ps_never) pss_nil)
      (pss_one (ps_fld (pv 0) (pe_call GM hr1 rfl mgM kM bM .nil pass0 (pa_cons (pv 1) pa_nil)) rfl)), ?_⟩
    refine ⟨_, rfl, p, rfl, ⟨_, tupAt hA⟩, fun D hD => lc_tup (K := K) (a := p) (xs := ts.map rf) (fun i H' => Same H H' ∧ H' D = some (.lst (List.replicate i (V.bl true)))) ⟨Same.upd hD, upd_same⟩ (fun i H' _ ⟨sH, _⟩ => tupAt (sH _ _ hA)) ?_ ?_⟩
    · rintro i y H' hi ⟨sH, hL⟩
      rw [List.getElem?_map] at hi
      obtain ⟨u, hu, e⟩ : ∃ u, ts[i]? = some u ∧ rf u = y := by
        cases e : ts[i]? with
        | none => rw [e] at hi; cases hi
        | some u => rw [e] at hi; exact ⟨u, rfl, Option.some.inj hi⟩
      subst e
      have mu : u ∈ ts := List.mem_of_getElem? hu
      have hi2 : i < ts.length := (List.getElem?_eq_some_iff.mp hu).1
      refine ⟨rfl, ?_⟩
      refine ⟨_, rfl, _, _, rfl, .pair (hT.same sH u mu), ?_⟩
      rw [okB_iff.mpr (hok _ (prs_mem mu))]
      refine ⟨_, hL, ?_, Same.put sH hD, ?_⟩
      · rw [List.length_replicate]
        unfold prs at hlen
        rw [List.length_map] at hlen
        exact Nat.lt_of_lt_of_le hi2 (Nat.le_trans hlen (by decide))
      · rw [upd_same, List.replicate_succ']
    · rintro H' ⟨sH, hL⟩
      refine ⟨D, List.replicate (ts.map rf).length true, rfl, ?_, true, ?_, ?_⟩
      · rw [List.map_replicate]
        exact SqL.of hL
      · rw [List.all_replicate]
        simp
      · refine iteF ?_
        refine ⟨_, rfl, p, prs ts, rfl, ⟨ts, sH _ _ hA, hT.same sH, rfl⟩, hok, fun H2 q ms s2 hq nm hin => ?_⟩
        have sA := sH.trans s2
        refine ⟨_, rfl, x, C, dx, [], rfl, sA _ _ hx, S.cl, S.nP, (by show 0 < 1000; decide), ?_⟩
        refine k _ ms (fun b o nb e => ?_) ⟨dx, q, ?_, ?_⟩ nm hin
        · rw [upd_ne nb]
          exact sA _ _ e
        · rw [upd_same]
          rfl
        · obtain ⟨us, h1, h2, h3⟩ := hq
          have nq : q ≠ x := ne_of h1 (sA _ _ hx) (by intro z; cases z)
          refine ⟨us, by rw [upd_ne nq]; exact h1, fun t m => ?_, h3⟩
          rw [upd_ne (ne_of (h2 t m) (sA _ _ hx) (by intro z; cases z))]
          exact h2 t m)
  refine R.imp fun vs H Q E h => ?_
  obtain ⟨x, dx, ts, rfl, hx, hT, hlen, hok, k⟩ := h
  refine ⟨[.ref x], ts.map rf, rfl, rfl, ?_, fun p hp => ?_⟩
  · rw [List.length_map]
    exact Nat.le_trans hlen (by decide)
  · refine ⟨x, p, prs ts, dx, rfl, (Same.upd hp) _ _ hx, ⟨ts, upd_same, hT.same (Same.upd hp), rfl⟩, by unfold prs; rw [List.length_map]; exact hlen, hok, fun H' ms sx hs nm hin => ?_⟩
    exact k H' ms (fun b o nb e => sx b o nb ((Same.upd hp) _ _ e)) hs nm hin
end
end Sps
set_option Elab.async false
set_option linter.all false
set_option maxRecDepth 100000
set_option maxHeartbeats 4000000
/-! The operators of Spans. -/
namespace Sps
open PySem PySem.Spec PyProof.Rows L2
/-- a Spans of just these positions, as a value -/
def IsSp (C : Addr) (S : Int → Prop) (v : V) (H : Hp) : Prop := ∃ x ms, v = .ref x ∧ SpAt C H x ms ∧ Norm ms ∧ ∀ y, inS y ms ↔ S y
theorem IsSp.same {C : Addr} {S : Int → Prop} {v : V} {H H' : Hp} (h : IsSp C S v H) (s : Same H H') : IsSp C S v H' := let ⟨x, ms, e, a, n, i⟩ := h; ⟨x, ms, e, a.same s, n, i⟩
theorem IsSp.iff {C : Addr} {S R : Int → Prop} {v : V} {H : Hp} (h : IsSp C S v H) (e : ∀ y, S y ↔ R y) : IsSp C R v H := let ⟨x, ms, ev, a, n, i⟩ := h; ⟨x, ms, ev, a, n, fun y => (i y).trans (e y)⟩
theorem IsSp.inR {C : Addr} {S : Int → Prop} {v : V} {H : Hp} (h : IsSp C S v H) {y : Int} (hy : S y) : 0 ≤ y ∧ y < 1000000 := let ⟨_, ms, _, _, n, i⟩ := h; n.inR ((i y).mpr hy)
section
variable {P : Program} {w : World} {K : PySem.W.Frag} {mg : Str → Option Value} {base : Heap}
/-- what a caller has of Spans(..) -/
theorem mk_read {C : Addr} {H : Hp} {ts : List TP} {Q : VK} {E : XK} (hT : TPs H ts) (hl : ts.length ≤ 4000000) (ok : ∀ q ∈ prs ts, okP q) (h : ∀ (H' : Hp) (v : V), Same H H' → IsSp C (fun y => inS y (prs ts)) v H' → Q v H') :
    ∀ x dx, H x = Option.none → H dx = Option.none → dx ≠ x → spNew C (V.ref x :: ts.map rf) (upd (upd H dx (.own x)) x (.ins C dx [])) (fun v H2 => v = .non ∧ Q (.ref x) H2) E := by
  intro x dx nx ndx ne
  have s0 : Same H (upd (upd H dx (.own x)) x (.ins C dx [])) := Same.put (Same.upd ndx) nx
  refine ⟨x, dx, ts, rfl, upd_same, hT.same s0, hl, ok, fun H' ms sx hs nm hin => ⟨rfl, ?_⟩⟩
  refine h H' _ (fun b o e => ?_) ⟨x, ms, rfl, hs, nm, hin⟩
  exact sx b o (ne_of_none e nx) (s0 b o e)
theorem cat_read {H : Hp} {a b : Addr} {ps qs : List Pr} {Q : VK} (ha : PT H a ps) (hb : PT H b qs) (hl : ps.length + qs.length ≤ 4000000) (h : ∀ (H' : Hp) (p : Addr), Same H H' → PT H' p (ps ++ qs) → Q (.ref p) H') :
    rCatA K (.ref a) (.ref b) H Q := by
  obtain ⟨ts, hA, hT, rfl⟩ := ha
  obtain ⟨us, hB, hU, rfl⟩ := hb
  refine ⟨a, b, _, _, rfl, rfl, tupAt hA, tupAt hB, ?_, fun e => ?_, fun _ e => ?_, fun _ _ p hp => ?_⟩
  · unfold prs at hl
    rw [List.length_map, List.length_map] at hl ⊢
    exact Nat.le_trans hl (by decide)
  · have e2 : ts = [] := List.map_eq_nil_iff.mp e
    subst e2
    exact h H b (Same.refl H) ⟨us, hB, hU, rfl⟩
  · have e2 : us = [] := List.map_eq_nil_iff.mp e
    subst e2
    exact h H a (Same.refl H) ⟨ts, hA, hT, (List.append_nil _).symm⟩
  · refine h _ p (Same.upd hp) ⟨ts ++ us, ?_, (hT.app hU).same (Same.upd hp), prs_app⟩
    rw [upd_same, List.map_append]
/-- a & b, a + b, a - b of Spans: R says how the positions go together -/
def spBin (C : Addr) (R : Prop → Prop → Prop) : Sp := fun vs H Q _ => ∃ (S T : Int → Prop) (u v : V), vs = [u, v] ∧ IsSp C S u H ∧ IsSp C T v H ∧
  ∀ (H' : Hp) (z : V), Same H H' → IsSp C (fun y => R (S y) (T y)) z H' → Q z H'
theorem scA : FnScope ["self", "other", "pairs"] ["self", "other"] (defScope sAnd) := ⟨rfl, rfl, rfl, by decide +kernel, rfl, by decide +kernel, by decide +kernel⟩
theorem scO : FnScope ["self", "other", "pairs"] ["self", "other"] (defScope sOr) := ⟨rfl, rfl, rfl, by decide +kernel, rfl, by decide +kernel, by decide +kernel⟩
theorem scS : FnScope ["self", "other", "pairs"] ["self", "other"] (defScope sSub) := ⟨rfl, rfl, rfl, by decide +kernel, rfl, by decide +kernel, by decide +kernel⟩
/-- what the operators lean on -/
structure Has (P : Program) (w : World) (K : PySem.W.Frag) (mg : Str → Option Value) (base : Heap) (C : Addr) where
  fI : Addr
  M : Mk K C fI
  I : FnR P w K mg base CX0 4 fI (spNew C)
  fM : Addr
  fdM : FuncData
  GM : FnOk P w K mg base CX0 2 fM fdM ["pairs"] spMerged
  mgM : mg "_merged" = some (.ref fM)
  kM : PySem.W.keepIn K (.ref fM) = true
  bM : Binds K fdM ["pairs"] []
  fG : Addr
  fdG : FuncData
  GG : FnOk P w K mg base CX0 2 fG fdG ["pairs"] spGaps
  mgG : mg "_gaps" = some (.ref fG)
  kG : PySem.W.keepIn K (.ref fG) = true
  bG : Binds K fdG ["pairs"] []
theorem ok_or {f C : Addr} {fd : FuncData} (F : Fun K "__or__" "Spans.__or__" sOr f fd) (S : SpCls K mg C) (A : Has P w K mg base C) : FnOk P w K mg base CX0 6 f fd ["self", "other"] (spBin C Or) := by
  refine F.ok scO (fun vs H Q E h => ?_) (fun cdv Ar outer s H vs Q E hr h => ?_)
  · obtain ⟨_, _, _, _, rfl, _⟩ := h
    rfl
  · obtain ⟨S1, T1, u, v, rfl, ⟨x, ms, rfl, ⟨dx, t, hx, ht⟩, nm, im⟩, ⟨y, ns, rfl, ⟨dy, t', hy, ht'⟩, nn, inn⟩, k⟩ := h
    refine ⟨_, pss_cons (ps_set (i := 2) scO.nd rfl (Or.inl rfl) (pe_op op_catA (pe_fld (pv 0) rfl) (pe_fld (pv 1) rfl))) (pss_one (ps_ret (pe_makeS A.M A.I hr rfl S.mgC pass0 (pv 2)))), ?_⟩
    refine ⟨_, rfl, x, C, dx, _, _, rfl, hx, S.cl, S.nP, look_pairs _, _, rfl, y, C, dy, _, _, rfl, hy, S.cl, S.nP, look_pairs _, ?_⟩
    have lm := nm.len
    have ln := nn.len
    refine cat_read ht ht' (by omega) fun H1 p s1 ⟨ts, hA, hT, eT⟩ => ?_
    refine ⟨_, rfl, p, _, rfl, .inl (tupAt hA), mk_read hT ?_ (fun q m => ?_) fun H2 z s2 hz => ?_⟩
    · have e := congrArg List.length eT
      unfold prs at e
      rw [List.length_map, List.length_append] at e
      omega
    · rw [eT] at m
      exact (List.mem_append.mp m).elim (nm.ok q) (nn.ok q)
    · refine k H2 z (s1.trans s2) (hz.iff fun j => ?_)
      rw [eT, inS_append, im j, inn j]
theorem ok_and {f C : Addr} {fd : FuncData} (F : Fun K "__and__" "Spans.__and__" sAnd f fd) (S : SpCls K mg C) (A : Has P w K mg base C) : FnOk P w K mg base CX0 6 f fd ["self", "other"] (spBin C And) := by
  refine F.ok scA (fun vs H Q E h => ?_) (fun cdv Ar outer s H vs Q E hr h => ?_)
  · obtain ⟨_, _, _, _, rfl, _⟩ := h
    rfl
  · obtain ⟨S1, T1, u, v, rfl, ⟨x, ms, rfl, ⟨dx, t, hx, ht⟩, nm, im⟩, ⟨y, ns, rfl, ⟨dy, t', hy, ht'⟩, nn, inn⟩, k⟩ := h
    have hr1 : Room 2 _ := hr.mono (by decide)
    refine ⟨_, pss_cons (ps_set (i := 2) scA.nd rfl (Or.inl rfl) (pe_call A.GG hr1 rfl A.mgG A.kG A.bG .nil pass0 (pa_cons (pe_call A.GM hr1 rfl A.mgM A.kM A.bM .nil pass0 (pa_cons
        (pe_op op_catA (pe_call A.GG hr1 rfl A.mgG A.kG A.bG .nil pass0 (pa_cons (pe_fld (pv 0) rfl) pa_nil)) (pe_call A.GG hr1 rfl A.mgG A.kG A.bG .nil pass0 (pa_cons (pe_fld (pv 1) rfl) pa_nil))) pa_nil)) pa_nil)))
      (pss_one (ps_ret (pe_makeS A.M A.I hr rfl S.mgC pass0 (pv 2)))), ?_⟩
    refine ⟨_, rfl, x, C, dx, _, _, rfl, hx, S.cl, S.nP, look_pairs _, t, ms, rfl, ht, nm, fun H1 p gs s1 hp ng ig => ?_⟩
    refine ⟨_, rfl, y, C, dy, _, _, rfl, s1 _ _ hy, S.cl, S.nP, look_pairs _, t', ns, rfl, ht'.same s1, nn, fun H2 q hs s2 hq nh ih => ?_⟩
    have lg := ng.len
    have lh := nh.len
    refine cat_read (hp.same s2) hq (by omega) fun H3 r s3 hr3 => ?_
    refine ⟨r, _, rfl, hr3, fun z m => (List.mem_append.mp m).elim (ng.ok z) (nh.ok z), fun H4 r4 ms4 s4 h4 n4 i4 => ?_⟩
    refine ⟨r4, ms4, rfl, h4, n4, fun H5 r5 gs5 s5 ⟨ts, hA, hT, eT⟩ n5 i5 => ?_⟩
    refine ⟨_, rfl, r5, _, rfl, .inl (tupAt hA), mk_read hT ?_ (fun q m => ?_) fun H6 z s6 hz => ?_⟩
    · have e := congrArg List.length eT
      have l5 := n5.len
      unfold prs at e
      rw [List.length_map] at e
      omega
    · rw [eT] at m
      exact n5.ok q m
    · refine k H6 z ((((s1.trans s2).trans s3).trans s4).trans (s5.trans s6)) (hz.iff fun j => ?_)
      rw [eT, i5 j, i4 j, inS_append, ig j, ih j, ← im j, ← inn j]
      constructor
      · rintro ⟨a, b⟩
        refine ⟨?_, ?_⟩
        · by_cases c : inS j ms
          · exact c
          · exact (b (.inl ⟨a, c⟩)).elim
        · by_cases c : inS j ns
          · exact c
          · exact (b (.inr ⟨a, c⟩)).elim
      · rintro ⟨a, b⟩
        exact ⟨nm.inR a, fun z => z.elim (fun z => z.2 a) fun z => z.2 b⟩
theorem ok_sub {f C : Addr} {fd : FuncData} (F : Fun K "__sub__" "Spans.__sub__" sSub f fd) (S : SpCls K mg C) (A : Has P w K mg base C) : FnOk P w K mg base CX0 6 f fd ["self", "other"] (spBin C fun a b => a ∧ ¬ b) := by
  refine F.ok scS (fun vs H Q E h => ?_) (fun cdv Ar outer s H vs Q E hr h => ?_)
  · obtain ⟨_, _, _, _, rfl, _⟩ := h
    rfl
  · obtain ⟨S1, T1, u, v, rfl, ⟨x, ms, rfl, ⟨dx, t, hx, ht⟩, nm, im⟩, ⟨y, ns, rfl, ⟨dy, t', hy, ht'⟩, nn, inn⟩, k⟩ := h
    have hr1 : Room 2 _ := hr.mono (by decide)
    refine ⟨_, pss_cons (ps_set (i := 2) scS.nd rfl (Or.inl rfl) (pe_call A.GG hr1 rfl A.mgG A.kG A.bG .nil pass0 (pa_cons (pe_call A.GM hr1 rfl A.mgM A.kM A.bM .nil pass0 (pa_cons
        (pe_op op_catA (pe_call A.GG hr1 rfl A.mgG A.kG A.bG .nil pass0 (pa_cons (pe_fld (pv 0) rfl) pa_nil)) (pe_fld (pv 1) rfl)) pa_nil)) pa_nil)))
      (pss_one (ps_ret (pe_makeS A.M A.I hr rfl S.mgC pass0 (pv 2)))), ?_⟩
    refine ⟨_, rfl, x, C, dx, _, _, rfl, hx, S.cl, S.nP, look_pairs _, t, ms, rfl, ht, nm, fun H1 p gs s1 hp ng ig => ?_⟩
    refine ⟨_, rfl, y, C, dy, _, _, rfl, s1 _ _ hy, S.cl, S.nP, look_pairs _, ?_⟩
    have lg := ng.len
    have lh := nn.len
    refine cat_read hp (ht'.same s1) (by omega) fun H3 r s3 hr3 => ?_
    refine ⟨r, _, rfl, hr3, fun z m => (List.mem_append.mp m).elim (ng.ok z) (nn.ok z), fun H4 r4 ms4 s4 h4 n4 i4 => ?_⟩
    refine ⟨r4, ms4, rfl, h4, n4, fun H5 r5 gs5 s5 ⟨ts, hA, hT, eT⟩ n5 i5 => ?_⟩
    refine ⟨_, rfl, r5, _, rfl, .inl (tupAt hA), mk_read hT ?_ (fun q m => ?_) fun H6 z s6 hz => ?_⟩
    · have e := congrArg List.length eT
      have l5 := n5.len
      unfold prs at e
      rw [List.length_map] at e
      omega
    · rw [eT] at m
      exact n5.ok q m
    · refine k H6 z (((s1.trans s3).trans s4).trans (s5.trans s6)) (hz.iff fun j => ?_)
      rw [eT, i5 j, i4 j, inS_append, ig j, ← im j, ← inn j]
      constructor
      · rintro ⟨a, b⟩
        refine ⟨?_, fun c => b (.inr c)⟩
        by_cases c : inS j ms
        · exact c
        · exact (b (.inl ⟨a, c⟩)).elim
      · rintro ⟨a, b⟩
        exact ⟨nm.inR a, fun z => z.elim (fun z => z.2 a) b⟩
end
end Sps
set_option Elab.async false
set_option linter.all false
set_option maxRecDepth 100000
set_option maxHeartbeats 4000000
/-! len and == of Spans. -/
namespace Sps
open PySem PySem.Spec PyProof.Rows L2
/-- how many positions there are in it -/
noncomputable def num (S : Int → Prop) : Int := @cnt S (fun _ => Classical.propDecidable _) 1000000
theorem num_iff {S T : Int → Prop} (h : ∀ y, S y ↔ T y) : num S = num T := by
  unfold num
  exact @cnt_congr S T (fun _ => Classical.propDecidable _) (fun _ => Classical.propDecidable _) 1000000 fun x _ _ => h x
theorem num_size {ms : List Pr} {S : Int → Prop} (n : Norm ms) (h : ∀ y, inS y ms ↔ S y) : size ms = num S := by
  rw [n.size_cnt]
  unfold num
  exact @cnt_congr (fun x => inS x ms) S _ (fun _ => Classical.propDecidable _) 1000000 fun x _ _ => h x
theorem num_ok (S : Int → Prop) : 0 ≤ num S ∧ num S ≤ 1000000 := @cnt_pos S (fun _ => Classical.propDecidable _) 1000000
theorem num_or_and (S T : Int → Prop) : num (fun y => S y ∨ T y) + num (fun y => S y ∧ T y) = num S + num T := by
  have h := @cnt_or_and S T (fun _ => Classical.propDecidable _) (fun _ => Classical.propDecidable _) 1000000
  unfold num
  have e1 := @cnt_congr (fun y => S y ∨ T y) (fun y => S y ∨ T y) (fun _ => Classical.propDecidable _) (fun x => @instDecidableOr _ _ (Classical.propDecidable _) (Classical.propDecidable _)) 1000000 fun x _ _ => Iff.rfl
  have e2 := @cnt_congr (fun y => S y ∧ T y) (fun y => S y ∧ T y) (fun _ => Classical.propDecidable _) (fun x => @instDecidableAnd _ _ (Classical.propDecidable _) (Classical.propDecidable _)) 1000000 fun x _ _ => Iff.rfl
  rw [e1, e2]
  exact h
theorem num_sub (S T : Int → Prop) : num (fun y => S y ∧ ¬ T y) = num S - num (fun y => S y ∧ T y) := by
  have h := @cnt_sub S T (fun _ => Classical.propDecidable _) (fun _ => Classical.propDecidable _) 1000000
  unfold num
  have e1 := @cnt_congr (fun y => S y ∧ ¬ T y) (fun y => S y ∧ ¬ T y) (fun _ => Classical.propDecidable _) (fun x => @instDecidableAnd _ _ (Classical.propDecidable _) (@instDecidableNot _ (Classical.propDecidable _))) 1000000 fun x _ _ => Iff.rfl
  have e2 := @cnt_congr (fun y => S y ∧ T y) (fun y => S y ∧ T y) (fun _ => Classical.propDecidable _) (fun x => @instDecidableAnd _ _ (Classical.propDecidable _) (Classical.propDecidable _)) 1000000 fun x _ _ => Iff.rfl
  rw [e1, e2]
  exact h
/-! ### a tuple of pairs as data -/
def dP (p : Pr) : PyData := .tuple [.int p.1, .int p.2]
def datP (ps : List Pr) : PyData := .tuple (ps.map dP)
theorem dpAll_tps {K : PySem.W.Frag} {H : Hp} : ∀ {ts : List TP}, TPs H ts → DpAll K H (ts.map rf) ((prs ts).map dP)
  | [], _ => .nil
  | t :: ts, h => .cons (.tup (tupAt (h t List.mem_cons_self)) (.cons (.int _) (.cons (.int _) .nil))) (dpAll_tps fun u m => h u (List.mem_cons_of_mem _ m))
theorem dp_pt {K : PySem.W.Frag} {H : Hp} {a : Addr} {ps : List Pr} (h : PT H a ps) : Dp K H (.ref a) (datP ps) := by
  obtain ⟨ts, hA, hT, rfl⟩ := h
  exact .tup (tupAt hA) (dpAll_tps hT)
theorem lay_dP : ∀ ps : List Pr, PyData.canLayAll0 (ps.map dP) = true ∧ PyData.depthAll (ps.map dP) ≤ 1
  | [] => ⟨by simp [PyData.canLayAll0], by simp [PyData.depthAll]⟩
  | p :: ps => by
    have ih := lay_dP ps
    rw [List.map_cons]
    refine ⟨?_, ?_⟩
    · simp only [PyData.canLayAll0, ih.1, Bool.and_true]
      simp [dP, PyData.canLay0, PyData.canLayAll0]
    · simp only [PyData.depthAll]
      have e : PyData.depth (dP p) = 1 := by simp [dP, PyData.depth, PyData.depthAll]
      rw [e]
      exact Nat.max_le.mpr ⟨Nat.le_refl _, ih.2⟩
theorem shaped_datP (ps : List Pr) : SeqAt.shaped (datP ps) = true := by
  have h := lay_dP ps
  have h2 := h.2
  have e1 : PyData.canLay0 (datP ps) = true := by
    unfold datP
    simp only [PyData.canLay0, h.1]
  have e2 : PyData.depth (datP ps) ≤ 64 := by
    unfold datP
    simp only [PyData.depth]
    omega
  unfold SeqAt.shaped
  rw [e1, Bool.true_and]
  exact decide_eq_true e2
theorem eqv_dP (p q : Pr) : PyData.eqv (dP p) (dP q) = decide (p = q) := by
  obtain ⟨a, b⟩ := p
  obtain ⟨c, d⟩ := q
  simp only [dP, PyData.eqv, PyData.eqvAll, Bool.and_true]
  rw [Bool.eq_iff_iff]
  simp [Prod.ext_iff]
theorem eqvAll_dP : ∀ ps qs : List Pr, PyData.eqvAll (ps.map dP) (qs.map dP) = decide (ps = qs)
  | [], [] => by simp [PyData.eqvAll]
  | [], q :: qs => by simp [PyData.eqvAll]
  | p :: ps, [] => by simp [PyData.eqvAll]
  | p :: ps, q :: qs => by
    rw [List.map_cons, List.map_cons]
    simp only [PyData.eqvAll]
    rw [eqv_dP, eqvAll_dP ps qs, Bool.eq_iff_iff]
    simp
theorem eqv_datP (ps qs : List Pr) : PyData.eqv (datP ps) (datP qs) = decide (ps = qs) := by
  unfold datP
  simp only [PyData.eqv]
  exact eqvAll_dP ps qs
theorem norm_eq {ms ns : List Pr} {S T : Int → Prop} (nm : Norm ms) (nn : Norm ns) (im : ∀ y, inS y ms ↔ S y) (inn : ∀ y, inS y ns ↔ T y) : ms = ns ↔ ∀ y, S y ↔ T y :=
  ⟨fun e y => by rw [← im y, ← inn y, e], fun h => nm.uniq nn fun y => by rw [im y, inn y, h y]⟩
section
variable {P : Program} {w : World} {K : PySem.W.Frag} {mg : Str → Option Value} {base : Heap}
/-! ### len -/
def spLen (C : Addr) : Sp := fun vs H Q _ => ∃ (S : Int → Prop) (u : V), vs = [u] ∧ IsSp C S u H ∧ ∀ H', Same H H' → Q (.int (num S)) H'
theorem scLn : FnScope ["self", "start", "stop"] ["self"] (defScope sLen) := ⟨rfl, rfl, rfl, by decide +kernel, rfl, by decide +kernel, by decide +kernel⟩
theorem ok_len {f C : Addr} {fd : FuncData} (F : Fun K "__len__" "Spans.__len__" sLen f fd) (T : Names mg) (S : SpCls K mg C) : FnOk P w K mg base CX0 2 f fd ["self"] (spLen C) := by
  refine F.ok scLn (fun vs H Q E h => ?_) (fun cdv Ar outer s H vs Q E hr h => ?_)
  · obtain ⟨_, _, rfl, _⟩ := h
    rfl
  · obtain ⟨S1, u, rfl, ⟨x, ms, rfl, ⟨dx, t, hx, ⟨ts, hA, hT, rfl⟩⟩, nm, im⟩, k⟩ := h
    refine ⟨_, pss_one (ps_ret (pe_callB call_lenRg (by rfl) T.len PySem.boot_len (pa_cons (pe_callTy cr_range1 (by rfl) T.range (by decide +kernel) (pa_cons (pe_callB (cr_sum rfl) (by rfl) T.sum (by decide +kernel) (pa_cons
      (pe_lc (own := [("start", 1), ("stop", 2)]) (g := gTup K 2 (gCons (gName 1) (gCons (gName 2) gNil))) (tt := tYes) rfl scLn.nd (pi_tup (pe_fld (pv 0) rfl)) (blkOk_by (own := [("start", 1), ("stop", 2)]) (N := ["self", "start", "stop"]) (sc := defScope sLen) (by decide +kernel))
        (fun _ _ _ _ _ => pg_tup rfl (pgs_cons (pg_name (i := 1) scLn.nd rfl (Or.inl rfl)) (pgs_cons (pg_name (i := 2) scLn.nd rfl (Or.inl rfl)) pgs_nil))) (fun _ _ _ _ _ => pts_nil) (fun _ _ _ _ _ => pe_op op_sub (pv 2) (pv 1))) pa_nil)) pa_nil)) pa_nil))), ?_⟩
    refine ⟨_, rfl, x, C, dx, _, _, rfl, hx, S.cl, S.nP, look_pairs _, t, rfl, ⟨_, tupAt hA⟩, fun D hD => lc_tup (K := K) (a := t) (xs := ts.map rf) (fun i H' => Same H H' ∧ H' D = some (.lst (((prs ts).take i).map fun p => V.int (p.2 - p.1)))) ⟨Same.upd hD, upd_same⟩ (fun i H' _ ⟨sH, _⟩ => tupAt (sH _ _ hA)) ?_ ?_⟩
    · rintro i y H' hi ⟨sH, hL⟩
      rw [List.getElem?_map] at hi
      obtain ⟨u, hu, e⟩ : ∃ u, ts[i]? = some u ∧ rf u = y := by
        cases e : ts[i]? with
        | none => rw [e] at hi; cases hi
        | some u => rw [e] at hi; exact ⟨u, rfl, Option.some.inj hi⟩
      subst e
      have mu : u ∈ ts := List.mem_of_getElem? hu
      have hp : (prs ts)[i]? = some u.2 := by
        unfold prs
        rw [List.getElem?_map, hu]
        rfl
      refine ⟨u.1, _, rfl, tupAt (hT.same sH u mu), rfl, _, _, rfl, _, _, rfl, rfl, rfl, ?_⟩
      refine ⟨_, rfl, _, rfl, _, _, rfl, rfl, _, hL, ?_, Same.put sH hD, ?_⟩
      · rw [List.length_map, List.length_take]
        have := nm.len
        exact Nat.lt_of_le_of_lt (Nat.le_trans (Nat.min_le_right _ _) this) (by decide)
      · rw [upd_same, take_snoc hp, List.map_append]
        rfl
    · rintro H' ⟨sH, hL⟩
      rw [List.length_map] at hL
      have et : (prs ts).take ts.length = prs ts := List.take_of_length_le (by unfold prs; rw [List.length_map]; exact Nat.le_refl _)
      rw [et] at hL
      have b := num_ok S1
      refine ⟨D, (prs ts).map fun p => p.2 - p.1, rfl, ?_, ?_⟩
      · rw [List.map_map]
        exact SqL.of hL
      · have e : ((prs ts).map fun p => p.2 - p.1).sum = ((num S1).toNat : Int) := by
          have e1 := num_size nm im
          unfold size at e1
          omega
        rw [e]
        refine ⟨_, rfl, fun p hp => ⟨p, (num S1).toNat, rfl, upd_same, by omega, ?_⟩⟩
        have e2 : ((num S1).toNat : Int) = num S1 := by omega
        rw [e2]
        exact k _ (Same.upd' sH hp)
/-! ### == -/
def spEqS (C : Addr) : Sp := fun vs H Q _ => ∃ (S : Int → Prop) (u v : V), vs = [u, v] ∧ IsSp C S u H ∧
  ((∃ T : Int → Prop, IsSp C T v H ∧ ∀ b : Bool, (b = true ↔ ∀ y, S y ↔ T y) → Q (.bl b) H) ∨ ((∃ b ys, v = .ref b ∧ H b = some (.tup ys)) ∧ Q (.bl false) H) ∨ ((∃ i, v = .int i) ∧ Q (.bl false) H))
theorem scEq : FnScope ["self", "other"] ["self", "other"] (defScope sEq) := ⟨rfl, rfl, rfl, by decide +kernel, rfl, by decide +kernel, by decide +kernel⟩
theorem ok_eq {f C : Addr} {fd : FuncData} (F : Fun K "__eq__" "Spans.__eq__" sEq f fd) (T : Names mg) (S : SpCls K mg C) : FnOk P w K mg base CX0 2 f fd ["self", "other"] (spEqS C) := by
  refine F.ok scEq (fun vs H Q E h => ?_) (fun cdv Ar outer s H vs Q E hr h => ?_)
  · obtain ⟨_, _, _, rfl, _⟩ := h
    rfl
  · obtain ⟨S1, u, v, rfl, ⟨x, ms, rfl, ⟨dx, t, hx, ht⟩, nm, im⟩, h⟩ := h
    refine ⟨_, pss_one (ps_ret (pe_and (pe_callB call_isi (by rfl) T.isinstance (by decide +kernel) (pa_cons (pv 1) (pa_cons (pe_glob (v := .ref C) rfl S.mgC rfl) pa_nil))) (pe_one (pe_cmpR (op_eqD hr.units) (pe_fld (pv 0) rfl) (pe_fld (pv 1) rfl) (nomark _))))), ?_⟩
    rcases h with ⟨T1, ⟨y, ns, rfl, ⟨dy, t', hy, ht'⟩, nn, inn⟩, k⟩ | ⟨⟨b, ys, rfl, hb⟩, k⟩ | ⟨⟨i, rfl⟩, k⟩
    · refine ⟨_, rfl, _, _, _, _, true, rfl, .own C, .base (.ins hy S.cl S.ca S.cn S.ct S.cm), S.kCC, true, rfl, ?_⟩
      refine iteT ?_
      refine ⟨_, rfl, x, C, dx, _, _, rfl, hx, S.cl, S.nP, look_pairs _, _, rfl, y, C, dy, _, _, rfl, hy, S.cl, S.nP, look_pairs _, ?_⟩
      refine ⟨_, _, dp_pt ht, dp_pt ht', shaped_datP _, shaped_datP _, k _ ?_⟩
      rw [eqv_datP, decide_eq_true_eq]
      exact norm_eq nm nn im inn
    · refine ⟨_, rfl, _, _, _, _, false, rfl, .own C, .base (.tup hb), S.kTC, false, rfl, ?_⟩
      exact iteF k
    · refine ⟨_, rfl, _, _, _, _, false, rfl, .own C, .base (.int i), S.kIC, false, rfl, ?_⟩
      exact iteF k
end
end Sps
set_option Elab.async false
set_option linter.all false
set_option maxRecDepth 100000
set_option maxHeartbeats 4000000
/-! The law's drawing. -/
namespace Sps
open PySem PySem.Spec PyProof.Rows L2
abbrev sPot : Stmt := top 13
abbrev sDraw : Stmt := top 14
abbrev sAny : Stmt := top 15
/-- the pot of the drawing, after at most n draws by counting -/
def PotOk (n : Int) (H : Hp) (l : Addr) : Prop := ∃ a m c : Int, H l = some (.lst [.int a, .int m, .int c]) ∧ 0 ≤ m ∧ m < 2305843009213693951 ∧ 0 ≤ c ∧ c ≤ n
theorem PotOk.mono {n n' : Int} {H : Hp} {l : Addr} (h : PotOk n H l) (e : n ≤ n') : PotOk n' H l := let ⟨a, m, c, h1, h2, h3, h4, h5⟩ := h; ⟨a, m, c, h1, h2, h3, h4, Int.le_trans h5 e⟩
theorem PotOk.same {n : Int} {H H' : Hp} {l : Addr} (h : PotOk n H l) (s : Same H H') : PotOk n H' l := let ⟨a, m, c, h1, h2⟩ := h; ⟨a, m, c, s _ _ h1, h2⟩
theorem Same.x {H H' : Hp} (s : Same H H') (l : Addr) : SameX l H H' := fun b o _ e => s b o e
theorem SameX.trans {H H1 H2 : Hp} {l : Addr} (a : SameX l H H1) (b : SameX l H1 H2) : SameX l H H2 := fun c o n e => b c o n (a c o n e)
theorem SameX.refl (H : Hp) (l : Addr) : SameX l H H := fun _ _ _ e => e
theorem SameX.upd {H : Hp} {l : Addr} {o : HO} : SameX l H (L2.upd H l o) := fun b u n e => by rw [upd_ne n]; exact e
def primes : List V := [.int 2147483647, .int 2147483629, .int 2147483587, .int 2147483579, .int 2147483563]
theorem prime_at (c : Int) : ∃ v : Int, atI primes (c % 5) = some (.int v) ∧ 0 < v ∧ v ≤ 2147483647 := by
  have h0 := Int.emod_nonneg c (by decide : (5 : Int) ≠ 0)
  have h1 := Int.emod_lt_of_pos c (by decide : (0 : Int) < 5)
  have cases5 : c % 5 = 0 ∨ c % 5 = 1 ∨ c % 5 = 2 ∨ c % 5 = 3 ∨ c % 5 = 4 := by omega
  rcases cases5 with e | e | e | e | e <;> rw [e]
  · exact ⟨2147483647, by decide +kernel, by decide, by decide⟩
  · exact ⟨2147483629, by decide +kernel, by decide, by decide⟩
  · exact ⟨2147483587, by decide +kernel, by decide, by decide⟩
  · exact ⟨2147483579, by decide +kernel, by decide, by decide⟩
  · exact ⟨2147483563, by decide +kernel, by decide, by decide⟩
/-- both ways of a conditional expression give a value of which the same is known -/
theorem if_read {c : Bool} {ta tb : TE} {σ : L2.St} {H : Hp} {Q : VK} {W : V → Prop} (h1 : c = true → ∀ Q' : VK, (∀ v, W v → Q' v H) → ta σ H Q') (h2 : ¬ c = true → ∀ Q' : VK, (∀ v, W v → Q' v H) → tb σ H Q') (h : ∀ v, W v → Q v H) :
    if c = true then ta σ H Q else tb σ H Q := ite2 (fun e => h1 e Q h) fun e => h2 e Q h
section
variable {P : Program} {w : World} {K : PySem.W.Frag} {mg : Str → Option Value} {base : Heap}
def spDraw : Sp := fun vs H Q _ => ∃ (l : Addr) (many n : Int), vs = [.ref l, .int many] ∧ PotOk n H l ∧ n ≤ 100000 ∧ 0 < many ∧ many < 1000000 ∧
  ∀ (H' : Hp) (r : Int), SameX l H H' → PotOk (n + 1) H' l → 0 ≤ r → r < many → Q (.int r) H'
theorem scD : FnScope ["_law_pot_here", "_law_many", "_law_digit", "_law_prime", "_law_made"] ["_law_pot_here", "_law_many"] (defScope sDraw) := ⟨rfl, rfl, rfl, by decide +kernel, rfl, by decide +kernel, by decide +kernel⟩
theorem ok_draw {f : Addr} {fd : FuncData} (F : Fun K "_law_draw" "_law_draw" sDraw f fd) (T : Names mg) : FnOk P w K mg base CX0 2 f fd ["_law_pot_here", "_law_many"] spDraw := by
  refine F.ok scD (fun vs H Q E h => ?_) (fun cdv A outer s H vs Q E hr h => ?_)
  · obtain ⟨l, many, n, rfl, _⟩ := h
    rfl
  · obtain ⟨l, many, n, rfl, ⟨a, m, c, hl, hm0, hm1, hc0, hc1⟩, hn, hm, hm2, k⟩ := h
    refine ⟨_, pss_cons (ps_if (pt_cmpR op_gt (pe_ix ix_list (pv 0) pe_int (fun _ _ => rfl)) pe_int (nomark _))
        (pss_cons (ps_set (i := 2) scD.nd rfl (Or.inl rfl) (pe_op op_mod (pe_callTy call_int1 (by rfl) T.int (by decide +kernel) (pa_cons (pe_ix ix_list (pv 0) pe_int (fun _ _ => rfl)) pa_nil)) (pv 1)))
        (pss_cons (ps_asg (pe_op op_fdiv (pe_ix ix_list (pv 0) pe_int (fun _ _ => rfl)) (pv 1)) (pg_sub (pv 0) pe_int set_list))
        (pss_one (ps_ret (pv 2))))) pss_nil)
      (pss_cons (ps_asg (pe_op op_add (pe_ix ix_list (pv 0) pe_int (fun _ _ => rfl)) pe_int) (pg_sub (pv 0) pe_int set_list))
      (pss_cons (ps_set (i := 3) scD.nd rfl (Or.inl rfl) (pe_ix ix_list (pe_lst (pa_cons pe_int (pa_cons pe_int (pa_cons pe_int (pa_cons pe_int (pa_cons pe_int pa_nil))))))
          (pe_op op_mod (pe_callTy call_int1 (by rfl) T.int (by decide +kernel) (pa_cons (pe_ix ix_list (pv 0) pe_int (fun _ _ => rfl)) pa_nil)) pe_int) (fun _ _ => rfl)))
      (pss_cons (ps_set (i := 4) scD.nd rfl (Or.inl rfl) (pe_op op_mod (pe_callTy call_int1 (by rfl) T.int (by decide +kernel) (pa_cons (pe_op op_pow (pe_op op_add (pe_op op_add (pe_ix ix_list (pv 0) pe_int (fun _ _ => rfl))
            (pe_op op_mul (pe_op op_mul pe_int (pe_ix ix_list (pv 0) pe_int (fun _ _ => rfl))) (pe_ix ix_list (pv 0) pe_int (fun _ _ => rfl)))) pe_int) pe_int) pa_nil)) (pv 3)))
      (pss_cons (ps_set (i := 4) scD.nd rfl (Or.inl rfl) (pe_op op_mod (pe_callTy call_int1 (by rfl) T.int (by decide +kernel) (pa_cons (pe_op op_mul (pv 4)
            (pe_op op_add (pe_op op_mod (pe_callTy call_int1 (by rfl) T.int (by decide +kernel) (pa_cons (pv 4) pa_nil)) pe_int) (pe_op op_mul pe_int (pe_ix ix_list (pv 0) pe_int (fun _ _ => rfl))))) pa_nil)) pe_int))
      (pss_one (ps_ret (pe_op op_mod (pe_callTy call_int1 (by rfl) T.int (by decide +kernel) (pa_cons (pe_op op_fdiv (pv 4) pe_int) pa_nil)) (pv 1)))))))), ?_⟩
    refine ⟨_, rfl, l, _, 0, _, rfl, rfl, SqL.of hl, atI_nat (j := 0) rfl, _, _, rfl, rfl, _, rfl, ?_⟩
    refine ite2 (fun _ => ?_) (fun _ => ?_)
    · refine ⟨_, rfl, l, _, 0, _, rfl, rfl, SqL.of hl, atI_nat (j := 0) rfl, .inl ⟨a, rfl, _, rfl, _, _, rfl, rfl, hm, ?_⟩⟩
      refine ⟨_, rfl, l, _, 0, _, rfl, rfl, SqL.of hl, atI_nat (j := 0) rfl, _, rfl, _, _, rfl, rfl, ⟨hm, by omega⟩, ?_⟩
      refine ⟨_, rfl, l, _, 0, 0, rfl, rfl, hl, (by show ixN 3 0 = some 0; decide +kernel), ?_⟩
      refine ⟨_, rfl, ?_⟩
      exact k _ _ SameX.upd ⟨a / many, m, c, upd_same, hm0, hm1, hc0, by omega⟩ (Int.emod_nonneg _ (by omega)) (Int.emod_lt_of_pos _ hm)
    · refine ⟨_, rfl, l, _, 2, _, rfl, rfl, SqL.of hl, atI_nat (j := 2) rfl, _, _, rfl, rfl, ?_⟩
      refine ⟨_, rfl, l, _, 2, 2, rfl, rfl, hl, (by show ixN 3 2 = some 2; decide +kernel), ?_⟩
      -- pot[2] is one greater
      have hl1 : (L2.upd H l (.lst [.int a, .int m, .int (c + 1)])) l = some (.lst [.int a, .int m, .int (c + 1)]) := upd_same
      refine ⟨by show 5 ≤ sizeLine; decide, fun p hp => ?_⟩
      have pl : l ≠ p := ne_of_none hl1 hp
      have hl2 : (L2.upd (L2.upd H l (.lst [.int a, .int m, .int (c + 1)])) p (.lst primes)) l = some (.lst [.int a, .int m, .int (c + 1)]) := by rw [upd_ne pl]; exact hl1
      obtain ⟨v, hv, v0, v1⟩ := prime_at (c + 1)
      refine ⟨_, rfl, l, _, 2, _, rfl, rfl, SqL.of hl2, atI_nat (j := 2) rfl, .inl ⟨c + 1, rfl, _, _, rfl, rfl, (by show (0 : Int) < 5; decide), ?_⟩⟩
      refine ⟨p, primes, _, _, rfl, rfl, SqL.of upd_same, hv, ?_⟩
      have c1 : 0 ≤ c + 1 := by omega
      have c2 : c + 1 ≤ 100001 := by omega
      have sq1 : 0 ≤ (c + 1) * (c + 1) := Int.mul_nonneg c1 c1
      have sq2 : (c + 1) * (c + 1) ≤ 100001 * 100001 := Int.mul_le_mul c2 c2 c1 (by decide)
      have e99 : 99991 * (c + 1) * (c + 1) = 99991 * ((c + 1) * (c + 1)) := Int.mul_assoc _ _ _
      refine ⟨_, rfl, l, _, 1, _, rfl, rfl, SqL.of hl2, atI_nat (j := 1) rfl, _, rfl, l, _, 2, _, rfl, rfl, SqL.of hl2, atI_nat (j := 2) rfl, _, _, rfl, rfl, .inl (by constructor <;> omega),
        _, rfl, l, _, 2, _, rfl, rfl, SqL.of hl2, atI_nat (j := 2) rfl, _, _, rfl, rfl, .inl (by constructor <;> omega), _, _, rfl, rfl, _, _, rfl, rfl, _, _, rfl, rfl, ⟨by decide, by decide, by omega⟩, ?_⟩
      refine .inl ⟨_, rfl, _, rfl, _, _, rfl, rfl, v0, ?_⟩
      generalize hx : (m + 99991 * (c + 1) * (c + 1) + 61) ^ (3 : Int).toNat % v = x
      have x0 : 0 ≤ x := by rw [← hx]; exact Int.emod_nonneg _ (by omega)
      have x1 : x < v := by rw [← hx]; exact Int.emod_lt_of_pos _ v0
      refine ⟨_, rfl, _, rfl, .inl ⟨_, rfl, _, _, rfl, rfl, (by show (0 : Int) < 10007; decide), _, rfl, l, _, 2, _, rfl, rfl, SqL.of hl2, atI_nat (j := 2) rfl, _, _, rfl, rfl, .inl (by constructor <;> omega), _, _, rfl, rfl,
        _, _, rfl, rfl, .inl (by constructor <;> omega), ?_⟩⟩
      refine .inl ⟨_, rfl, _, _, rfl, rfl, (by show (0 : Int) < 2305843009213693907; decide), ?_⟩
      refine ⟨_, rfl, _, _, rfl, rfl, ⟨by decide, by decide⟩, .inl ⟨_, rfl, _, rfl, _, _, rfl, rfl, hm, ?_⟩⟩
      refine k _ _ (SameX.trans SameX.upd (Same.x (Same.upd hp) l)) ⟨a, m, c + 1, hl2, hm0, hm1, c1, by omega⟩ (Int.emod_nonneg _ (by omega)) (Int.emod_lt_of_pos _ hm)

def spAny : Sp := fun vs H Q _ => ∃ (l a : Addr) (xs : List V) (n : Int), vs = [.ref l, .ref a] ∧ PotOk n H l ∧ n ≤ 100000 ∧ a ≠ l ∧ H a = some (.lst xs) ∧ 0 < xs.length ∧ xs.length < 1000 ∧
  ∀ (H' : Hp) (x : V), SameX l H H' → PotOk (n + 1) H' l → x ∈ xs → Q x H'
theorem scY : FnScope ["_law_pot_here", "_law_items"] ["_law_pot_here", "_law_items"] (defScope sAny) := ⟨rfl, rfl, rfl, by decide +kernel, rfl, by decide +kernel, by decide +kernel⟩
theorem ok_any {f g : Addr} {fd fdG : FuncData} (F : Fun K "_law_any" "_law_any" sAny f fd) (T : Names mg) (G : FnOk P w K mg base CX0 2 g fdG ["_law_pot_here", "_law_many"] spDraw) (mgG : mg "_law_draw" = some (.ref g)) (kG : PySem.W.keepIn K (.ref g) = true) (bG : Binds K fdG ["_law_pot_here", "_law_many"] []) :
    FnOk P w K mg base CX0 3 f fd ["_law_pot_here", "_law_items"] spAny := by
  refine F.ok scY (fun vs H Q E h => ?_) (fun cdv A outer s H vs Q E hr h => ?_)
  · obtain ⟨l, a, xs, n, rfl, _⟩ := h
    rfl
  · obtain ⟨l, a, xs, n, rfl, hp, hn, hal, ha, h0, h1, k⟩ := h
    refine ⟨_, pss_one (ps_ret (pe_ix ix_list (pv 1) (pe_call G hr rfl mgG kG bG .nil pass0 (pa_cons (pv 0) (pa_cons (pe_callB call_len_seq (by rfl) T.len PySem.boot_len (pa_cons (pv 1) pa_nil)) pa_nil))) (fun _ _ => rfl))), ?_⟩
    refine ⟨_, rfl, _, rfl, _, rfl, a, xs, rfl, .inl (SqL.of ha), l, xs.length, n, rfl, hp, hn, by omega, by omega, fun H' r sx hp' r0 r1 => ?_⟩
    have hlt : r.toNat < xs.length := by omega
    refine ⟨a, xs, r, xs[r.toNat], rfl, rfl, SqL.of (sx _ _ hal ha), at_of (j := r.toNat) (by omega) (List.getElem?_eq_getElem hlt), ?_⟩
    exact k H' _ sx hp' (List.getElem_mem hlt)
def spPot (K : PySem.W.Frag) : Sp := fun vs H Q _ => ∃ (a : Addr) (ns : List Int) (k : Int), vs = [.ref a, .int k] ∧ SqL K H a (ns.map V.int) ∧ 0 ≤ k ∧ k < 1000 ∧
  ∀ (H' : Hp) (l : Addr), Same H H' → H l = none → PotOk 0 H' l → Q (.ref l) H'
theorem scPt : FnScope ["_law_script", "_law_k", "_law_cell", "_law_own"] ["_law_script", "_law_k"] (defScope sPot) := ⟨rfl, rfl, rfl, by decide +kernel, rfl, by decide +kernel, by decide +kernel⟩
theorem ok_pot {f : Addr} {fd : FuncData} (F : Fun K "_law_pot" "_law_pot" sPot f fd) (T : Names mg) : FnOk P w K mg base CX0 2 f fd ["_law_script", "_law_k"] (spPot K) := by
  refine F.ok scPt (fun vs H Q E h => ?_) (fun cdv A outer s H vs Q E hr h => ?_)
  · obtain ⟨a, ns, k, rfl, _⟩ := h
    rfl
  · obtain ⟨a, ns, k, rfl, ha, h0, h1, q⟩ := h
    refine ⟨_, pss_cons (ps_set (i := 2) scPt.nd rfl (Or.inl rfl) (pe_ifExp (pt_cmpR op_lt (pv 1) (pe_callB call_len_seq (by rfl) T.len PySem.boot_len (pa_cons (pv 0) pa_nil)) (nomark _)) (pe_ix ix_list (pv 0) (pv 1) (fun _ _ => rfl))
          (pe_op op_add (pe_op op_mul pe_int (pv 1)) pe_int)))
      (pss_cons (ps_set (i := 3) scPt.nd rfl (Or.inl rfl) (pe_op op_mul (pe_op op_mod (pe_callTy call_int1 (by rfl) T.int (by decide +kernel) (pa_cons (pe_callB call_abs (by rfl) T.abs (by decide +kernel) (pa_cons (pv 2) pa_nil)) pa_nil))
            (pe_op op_powW (pe_op op_pow pe_int pe_int) pe_int))
          (pe_callTy call_int1 (by rfl) T.int (by decide +kernel) (pa_cons (pe_cmpR op_ge (pe_callB call_abs (by rfl) T.abs (by decide +kernel) (pa_cons (pv 2) pa_nil)) (pe_op op_pow pe_int pe_int) (nomark _)) pa_nil))))
      (pss_one (ps_ret (pe_lst (pa_cons (pv 3) (pa_cons (pe_op op_mod (pe_callTy call_int1 (by rfl) T.int (by decide +kernel) (pa_cons (pe_op op_add (pe_op op_add
          (pe_op op_mul (pe_op op_mod (pe_callTy call_int1 (by rfl) T.int (by decide +kernel) (pa_cons (pv 2) pa_nil)) pe_int) pe_int) (pe_op op_mul (pe_op op_mul pe_int (pv 1)) (pv 1))) pe_int) pa_nil)) pe_int) (pa_cons pe_int pa_nil))))))), ?_⟩
    refine ⟨_, rfl, _, rfl, a, _, rfl, .inl ha, _, _, rfl, rfl, _, rfl, ?_⟩
    refine if_read (W := fun v => ∃ c, v = V.int c) (fun c Q' hq => ?_) (fun c Q' hq => ?_) (fun v ⟨c, ec⟩ => ?_)
    · have c' : k < ((ns.map V.int).length : Int) := of_decide_eq_true c
      rw [List.length_map] at c'
      have hlt : k.toNat < ns.length := by omega
      refine ⟨_, rfl, _, rfl, a, _, k, .int ns[k.toNat], rfl, rfl, ha, at_of (j := k.toNat) (by omega) ?_, hq _ ⟨_, rfl⟩⟩
      rw [List.getElem?_map, List.getElem?_eq_getElem hlt]
      rfl
    · exact ⟨_, rfl, _, _, rfl, rfl, .inl ⟨by decide, by decide⟩, _, _, rfl, rfl, hq _ ⟨_, rfl⟩⟩
    · subst ec
      refine ⟨_, rfl, _, rfl, .inl ⟨_, rfl, _, _, rfl, rfl, ⟨by decide, by decide, by decide⟩, _, _, rfl, rfl, ⟨by decide, by decide +kernel⟩, _, _, rfl, rfl, (by show (0 : Int) < ((10 : Int) ^ Int.toNat 60) ^ Int.toNat 5; decide +kernel), ?_⟩⟩
      refine ⟨_, rfl, _, rfl, _, _, rfl, rfl, ⟨by decide, by decide, by decide⟩, _, _, rfl, rfl, .inr ⟨_, rfl, _, _, rfl, rfl, .inr ?_, ?_⟩⟩
      · have z : ∀ b : Bool, -(2 ^ 64) < (if b = true then (1 : Int) else 0) ∧ (if b = true then (1 : Int) else 0) < 2 ^ 64 := by decide
        exact z _
      refine ⟨_, rfl, _, rfl, .inl ⟨c, rfl, _, _, rfl, rfl, (by show (0 : Int) < 2305843009213693951; decide), _, _, rfl, rfl, .inr ⟨by decide, by decide⟩, _, rfl, _, _, rfl, rfl, .inl ⟨by decide, by decide⟩, _, rfl, _, _, rfl, rfl, .inl ⟨by omega, by omega⟩, _, _, rfl, rfl, _, _, rfl, rfl,
        .inl ⟨_, rfl, _, _, rfl, rfl, (by show (0 : Int) < 2305843009213693921; decide), (by show 3 ≤ sizeLine; decide), fun l hl => ?_⟩⟩⟩
      refine q _ l (Same.upd hl) hl ⟨_, _, 0, upd_same, Int.emod_nonneg _ (by decide), ?_, Int.le_refl _, Int.le_refl _⟩
      refine Int.lt_trans (Int.emod_lt_of_pos _ (by decide)) (by decide)
end
end Sps
set_option Elab.async false
set_option linter.all false
set_option maxRecDepth 100000
set_option maxHeartbeats 4000000
/-! Positions as the keys of a dict; couples of them. -/
namespace Sps
open PySem PySem.Spec PyProof.Rows L2
abbrev sPlaces : Stmt := top 16
abbrev sCouples : Stmt := top 17
def kd (ks : List Int) : List (Key × V) := ks.map fun k => (Sum.inl k, V.bl true)
def addK (ks : List Int) (k : Int) : List Int := if k ∈ ks then ks else ks ++ [k]
theorem mem_addK {ks : List Int} {k x : Int} : x ∈ addK ks k ↔ x ∈ ks ∨ x = k := by
  unfold addK
  split
  · rename_i h
    exact ⟨.inl, fun z => z.elim id fun e => e ▸ h⟩
  · rw [List.mem_append, List.mem_singleton]
theorem nd_addK {ks : List Int} {k : Int} (h : ks.Nodup) : (addK ks k).Nodup := by
  unfold addK
  split
  · exact h
  · rename_i hk
    exact nd_snoc h hk
theorem len_addK {ks : List Int} {k : Int} : (addK ks k).length ≤ ks.length + 1 := by
  unfold addK
  split
  · omega
  · rw [List.length_append]
    exact Nat.le_refl _
theorem val_kd {k : Int} : ∀ {ks : List Int}, valV (kd ks) (Sum.inl k) = if k ∈ ks then some (V.bl true) else none
  | [] => rfl
  | j :: ks => by
    show valV ((Sum.inl j, V.bl true) :: kd ks) (Sum.inl k) = _
    by_cases e : j = k
    · subst e
      rw [valV_pos rfl, if_pos List.mem_cons_self]
    · rw [valV_neg (fun z => e (Sum.inl.inj z)), val_kd]
      by_cases m : k ∈ ks
      · rw [if_pos m, if_pos (List.mem_cons_of_mem _ m)]
      · rw [if_neg m, if_neg fun z => (List.mem_cons.mp z).elim (fun z => e z.symm) m]
theorem put_kd {ks : List Int} {k : Int} : putK (kd ks) (Sum.inl k) (V.bl true) = kd (addK ks k) := by
  by_cases m : k ∈ ks
  · unfold putK addK
    rw [valV_any, val_kd, if_pos m, if_pos m]
    show (if true = true then _ else _) = _
    rw [if_pos rfl]
    unfold kd
    rw [List.map_map]
    refine List.map_congr_left fun j _ => ?_
    show (if (Sum.inl j : Key) = Sum.inl k then ((Sum.inl j : Key), V.bl true) else ((Sum.inl j : Key), V.bl true)) = _
    split <;> rfl
  · rw [putK_new _ (by rw [val_kd, if_neg m])]
    unfold addK kd
    rw [if_neg m, List.map_append]
    rfl
def addAll (ks ls : List Int) : List Int := ls.foldl addK ks
theorem merge_kd : ∀ {ls ks : List Int}, mergeK (kd ks) (kd ls) = kd (addAll ks ls)
  | [], _ => rfl
  | l :: ls, ks => by
    show mergeK (putK (kd ks) (Sum.inl l) (V.bl true)) (kd ls) = kd (addAll (addK ks l) ls)
    rw [put_kd]
    exact merge_kd
theorem nd_addAll : ∀ {ls ks : List Int}, ks.Nodup → (addAll ks ls).Nodup
  | [], _, h => h
  | _ :: ls, _, h => nd_addAll (ls := ls) (nd_addK h)
theorem mem_addAll {x : Int} : ∀ {ls ks : List Int}, x ∈ addAll ks ls ↔ x ∈ ks ∨ x ∈ ls
  | [], ks => ⟨.inl, fun z => z.elim id fun z => by cases z⟩
  | l :: ls, ks => by
    show x ∈ addAll (addK ks l) ls ↔ _
    rw [mem_addAll, mem_addK, List.mem_cons, or_assoc]
/-- a dict at d: its keys, each once, all with True -/
def DK (H : Hp) (d : Addr) (ks : List Int) : Prop := H d = some (.dK (kd ks)) ∧ ks.Nodup
theorem DK.same {H H' : Hp} {d : Addr} {ks : List Int} (h : DK H d ks) (s : Same H H') : DK H' d ks := ⟨s _ _ h.1, h.2⟩
theorem DK.x {H H' : Hp} {d l : Addr} {ks : List Int} {xs : List V} (h : DK H d ks) (hl : H l = some (.lst xs)) (s : SameX l H H') : DK H' d ks := ⟨s _ _ (ne_of h.1 hl (by intro z; cases z)) h.1, h.2⟩
theorem inS_ones {x : Int} : ∀ {ys : List Int}, inS x (ys.map fun y => (y, y + 1)) ↔ x ∈ ys
  | [] => ⟨fun h => (inS_nil h).elim, fun h => by cases h⟩
  | y :: ys => by
    rw [List.map_cons, inS_cons, inS_ones, List.mem_cons]
    unfold inP
    constructor
    · rintro (⟨a, b⟩ | h)
      · exact .inl (by omega)
      · exact .inr h
    · rintro (e | h)
      · exact .inl ⟨by omega, by omega⟩
      · exact .inr h
section
variable {P : Program} {w : World} {K : PySem.W.Frag} {mg : Str → Option Value} {base : Heap}
def spPlaces : Sp := fun vs H Q _ => ∃ (a : Addr) (ts : List TP), vs = [.ref a] ∧ H a = some (.lst (ts.map rf)) ∧ TPs H ts ∧ (∀ q ∈ prs ts, okP q) ∧ ts.length ≤ 8 ∧
  ∀ (H' : Hp) (d : Addr) (ks : List Int), Same H H' → DK H' d ks → (∀ x, x ∈ ks ↔ inS x (prs ts)) → ks.length ≤ 8000000 → Q (.ref d) H'
theorem scPl : FnScope ["_law_couples_here", "_law_found", "_law_start", "_law_stop", "_law_spot"] ["_law_couples_here"] (defScope sPlaces) := ⟨rfl, rfl, rfl, by decide +kernel, rfl, by decide +kernel, by decide +kernel⟩
theorem ok_places {f : Addr} {fd : FuncData} (F : Fun K "_law_places" "_law_places" sPlaces f fd) (T : Names mg) : FnOk P w K mg base CX0 2 f fd ["_law_couples_here"] spPlaces := by
  refine F.ok scPl (fun vs H Q E h => ?_) (fun cdv A outer s H vs Q E hr h => ?_)
  · obtain ⟨a, ts, rfl, _⟩ := h
    rfl
  · obtain ⟨a, ts, rfl, hA, hT, hok, hlen, k⟩ := h
    refine ⟨_, pss_cons (ps_set (i := 1) scPl.nd rfl (Or.inl rfl) pe_dnewK)
      (pss_cons (ps_for PassesOwn.never rfl (pi_list (pv 0)) (pg_tup rfl (pgs_cons (pg_name (i := 2) scPl.nd rfl (Or.inl rfl)) (pgs_cons (pg_name (i := 3) scPl.nd rfl (Or.inl rfl)) pgs_nil)))
        (pss_one (ps_for PassesOwn.never rfl (pi_range2 (by rfl) T.range (pa_cons (pv 2) (pa_cons (pv 3) pa_nil))) (pg_name (i := 4) scPl.nd rfl (Or.inl rfl))
          (pss_one (ps_dput (hu_of hr) (pv 1) (pv 4) pe_bl rfl)))))
      (pss_one (ps_ret (pv 1)))), ?_⟩
    intro d hd
    have nad : a ≠ d := ne_of_none hA hd
    have s1 : Same H (L2.upd H d (.dK [])) := Same.upd hd
    refine ⟨_, rfl, a, rfl, ⟨_, SqL.of (s1 _ _ hA)⟩, for_list (K := K) (a := a) (xs := ts.map rf) (fun i σ H' => ∃ (ks : List Int) (v2 v3 v4 : Option V), σ = [some (.ref a), some (.ref d), v2, v3, v4] ∧ Same H H' ∧ DK H' d ks ∧ (∀ x, x ∈ ks ↔ inS x (prs (ts.take i))) ∧ ks.length ≤ 1000000 * i)
      ⟨[], none, none, none, rfl, s1, ⟨upd_same, List.nodup_nil⟩, fun x => ⟨fun h => (by cases h), fun h => (inS_nil h).elim⟩, Nat.zero_le _⟩ (fun i σ H' _ ⟨_, _, _, _, _, sH, _⟩ => SqL.of (sH _ _ hA)) ?_ ?_⟩
    · rintro i y σ H' hi ⟨ks, v2, v3, v4, rfl, sH, hD, hin, hkl⟩
      rw [List.getElem?_map] at hi
      obtain ⟨u, hu, e⟩ : ∃ u, ts[i]? = some u ∧ rf u = y := by
        cases e : ts[i]? with
        | none => rw [e] at hi; cases hi
        | some u => rw [e] at hi; exact ⟨u, rfl, Option.some.inj hi⟩
      subst e
      have mu : u ∈ ts := List.mem_of_getElem? hu
      have hi2 : i < ts.length := (List.getElem?_eq_some_iff.mp hu).1
      obtain ⟨o1, o2, o3⟩ := hok _ (prs_mem mu)
      have etk : prs (ts.take (i + 1)) = prs (ts.take i) ++ [u.2] := by rw [take_snoc hu, prs_app]; rfl
      refine ⟨u.1, _, rfl, tupAt (hT.same sH u mu), rfl, _, _, rfl, _, _, rfl, rfl, ?_⟩
      refine ⟨_, rfl, _, rfl, u.2.1, u.2.2, rfl, ⟨by omega, by omega, by omega, by omega⟩, for_range (lo := u.2.1) (n := (u.2.2 - u.2.1).toNat) (fun j σ H2 => ∃ (ks : List Int) (v4 : Option V), σ = [some (.ref a), some (.ref d), some (.int u.2.1), some (.int u.2.2), v4] ∧ Same H H2 ∧ DK H2 d ks ∧
        (∀ x, x ∈ ks ↔ inS x (prs (ts.take i)) ∨ (u.2.1 ≤ x ∧ x < u.2.1 + j)) ∧ ks.length ≤ 1000000 * i + j) ⟨ks, v4, rfl, sH, hD, fun x => ?_, hkl⟩ ?_ ?_⟩
      · rw [hin x]
        exact ⟨.inl, fun z => z.elim id fun ⟨z1, z2⟩ => by omega⟩
      · rintro j σ H2 hj ⟨ks2, v4, rfl, s2, hD2, hin2, hl2⟩
        refine ⟨_, rfl, _, rfl, d, _, rfl, DPut.k (k := Sum.inl (u.2.1 + j)) hD2.1 ?_, ?_⟩
        · unfold kd
          rw [List.length_map]
          exact Nat.lt_of_le_of_lt (show ks2.length ≤ 9000000 by omega) (by decide)
        · refine ⟨addK ks2 (u.2.1 + j), _, rfl, Same.put s2 hd, ⟨by rw [upd_same, put_kd], nd_addK hD2.2⟩, fun x => ?_, ?_⟩
          · rw [mem_addK, hin2 x, or_assoc]
            constructor
            · rintro (h | h | h)
              · exact .inl h
              · exact .inr ⟨h.1, by have := h.2; omega⟩
              · exact .inr ⟨by omega, by omega⟩
            · rintro (h | h)
              · exact .inl h
              · by_cases c : x = u.2.1 + j
                · exact .inr (.inr c)
                · exact .inr (.inl ⟨h.1, by have := h.2; omega⟩)
          · have := len_addK (ks := ks2) (k := u.2.1 + j)
            omega
      · rintro σ H2 ⟨ks2, v4, rfl, s2, hD2, hin2, hl2⟩
        refine ⟨ks2, _, _, _, rfl, s2, hD2, fun x => ?_, by omega⟩
        rw [hin2 x, etk, inS_append, inS_one]
        unfold inP
        have e : u.2.1 + (((u.2.2 - u.2.1).toNat : Nat) : Int) = u.2.2 := by omega
        rw [e]
    · rintro σ H' ⟨ks, v2, v3, v4, rfl, sH, hD, hin, hkl⟩
      rw [List.length_map] at hin hkl
      refine ⟨_, rfl, k _ d ks sH hD (fun x => ?_) (by omega)⟩
      rw [hin x, take_all]
def spCouples : Sp := fun vs H Q _ => ∃ (d : Addr) (ks : List Int), vs = [.ref d] ∧ DK H d ks ∧ (∀ x ∈ ks, 0 ≤ x ∧ x < 1000000) ∧
  ∀ (H' : Hp) (p : Addr) (ms : List Pr), Same H H' → PT H' p ms → Norm ms → (∀ x, inS x ms ↔ x ∈ ks) → Q (.ref p) H'
theorem scC : FnScope ["_law_places_here", "_law_found", "_law_spot"] ["_law_places_here"] (defScope sCouples) := ⟨rfl, rfl, rfl, by decide +kernel, rfl, by decide +kernel, by decide +kernel⟩
theorem shaped_list (ps : List Pr) : SeqAt.shaped (.list (ps.map dP)) = true := by
  have h := lay_dP ps
  have h2 := h.2
  have e1 : PyData.canLay0 (.list (ps.map dP)) = true := by simp only [PyData.canLay0, h.1]
  have e2 : PyData.depth (.list (ps.map dP)) ≤ 64 := by
    simp only [PyData.depth]
    omega
  unfold SeqAt.shaped
  rw [e1, Bool.true_and]
  exact decide_eq_true e2
theorem eqv_nil (ps : List Pr) : PyData.eqv (.list (ps.map dP)) (.list []) = decide (ps = []) := by
  simp only [PyData.eqv]
  exact eqvAll_dP ps []
theorem ok_couples {f : Addr} {fd : FuncData} (F : Fun K "_law_couples" "_law_couples" sCouples f fd) (T : Names mg) : FnOk P w K mg base CX0 2 f fd ["_law_places_here"] spCouples := by
  refine F.ok scC (fun vs H Q E h => ?_) (fun cdv A outer s H vs Q E hr h => ?_)
  · obtain ⟨a, ps, rfl, _⟩ := h
    rfl
  · obtain ⟨a, ks, rfl, ⟨hA, hnd⟩, hrg, k⟩ := h
    refine ⟨_, pss_cons (ps_set (i := 1) scC.nd rfl (Or.inl rfl) (pe_lst pa_nil))
      (pss_cons (ps_for PassesOwn.never rfl (pi_list (pe_callB (call_sortD rfl) (by rfl) T.sorted (by decide +kernel) (pa_cons (pv 0) pa_nil))) (pg_name (i := 2) scC.nd rfl (Or.inl rfl))
        (pss_one (ps_if (PW.pt (pw_and (pt_cmpR (op_neD hr.units) (pv 1) (pe_lst pa_nil) (nomark _)) (pw_and1 (pt_cmpR op_eq (pe_ix ix_tup (pe_ix ix_list (pv 1) (pe_un un_neg pe_int) (fun _ _ => rfl)) pe_int (fun _ _ => rfl)) (pv 2) (nomark _)))))
          (pss_one (ps_asg (pe_tup (pa_cons (pe_ix ix_tup (pe_ix ix_list (pv 1) (pe_un un_neg pe_int) (fun _ _ => rfl)) pe_int (fun _ _ => rfl)) (pa_cons (pe_op op_add (pv 2) pe_int) pa_nil)))
            (pg_sub (pv 1) (pe_un un_neg pe_int) set_list)))
          (pss_one (ps_expr (pe_bm PySem.F.plainAttrs_list PySem.F.slot_list_append PySem.F.type_list_append mt_append (pv 1) (pa_cons (pe_tup (pa_cons (pv 2) (pa_cons (pe_op op_add (pv 2) pe_int) pa_nil))) pa_nil)))))))
      (pss_one (ps_ret (pe_callTy call_tuple_of (by rfl) T.tuple (by decide +kernel) (pa_cons (pv 1) pa_nil))))), ?_⟩
    refine ⟨Nat.zero_le _, fun l hl => ?_⟩
    have al : a ≠ l := ne_of_none hA hl
    have s1 : Same H (L2.upd H l (.lst [])) := Same.upd hl
    refine ⟨_, rfl, a, kd ks, ks, rfl, .inl (s1 _ _ hA), by unfold kd; rw [List.map_map]; rfl, fun ys q hpm hsr hq => ?_⟩
    have s2 : Same (L2.upd H l (.lst [])) (L2.upd (L2.upd H l (.lst [])) q (.lst (ys.map V.int))) := Same.upd hq
    have lq : l ≠ q := ne_of_none (show (L2.upd H l (.lst [])) l = _ from upd_same) hq
    have hnd2 : ys.Nodup := hpm.symm.nodup hnd
    have hlt : ys.Pairwise (· < ·) := by
      refine (List.pairwise_and_iff.mpr ⟨hsr, hnd2⟩).imp fun {x y} ⟨h1, h2⟩ => ?_
      have : x ≠ y := h2
      omega
    refine ⟨q, rfl, ⟨_, SqL.of upd_same⟩, for_list (K := K) (a := q) (xs := ys.map V.int) (fun i σ H' => ∃ (fs : List TP) (v2 : Option V), σ = [some (.ref a), some (.ref l), v2] ∧ Same H H' ∧ H' l = some (.lst (fs.map rf)) ∧ H' q = some (.lst (ys.map V.int)) ∧ TPs H' fs ∧
        Norm (prs fs) ∧ (∀ x, inS x (prs fs) ↔ x ∈ ys.take i))
      ⟨[], none, rfl, s1.trans s2, s2 _ _ upd_same, upd_same, TPs.nil, Norm.nil, fun x => ⟨fun h => (inS_nil h).elim, fun h => (by cases h)⟩⟩
      (fun i σ H' _ ⟨_, _, _, _, _, e, _⟩ => SqL.of e) ?_ ?_⟩
    · rintro i y σ H' hi ⟨fs, v2, rfl, sH, hL, hQ, hF, hN, hin⟩
      rw [List.getElem?_map] at hi
      obtain ⟨u, hu, e⟩ : ∃ u, ys[i]? = some u ∧ V.int u = y := by
        cases e : ys[i]? with
        | none => rw [e] at hi; cases hi
        | some u => rw [e] at hi; exact ⟨u, rfl, Option.some.inj hi⟩
      subst e
      have mu : u ∈ ys := List.mem_of_getElem? hu
      obtain ⟨r0, r1⟩ := hrg u (hpm.mem_iff.mp mu)
      have okU : okP (u, u + 1) := ⟨r0, by show u < u + 1; omega, by show u + 1 ≤ 1000000; omega⟩
      have before : ∀ x ∈ ys.take i, x < u := fun x hx => by
        obtain ⟨j, hj⟩ := List.getElem?_of_mem hx
        obtain ⟨hj1, ej⟩ := List.getElem?_eq_some_iff.mp hj
        rw [List.length_take] at hj1
        obtain ⟨hi1, ei⟩ := List.getElem?_eq_some_iff.mp hu
        rw [List.getElem_take] at ej
        have := List.pairwise_iff_getElem.mp hlt j i (by omega) hi1 (by omega)
        rw [ej, ei] at this
        exact this
      have M : Mrg (prs fs) ((ys.take i).map fun y => (y, y + 1)) u := ⟨hN, fun x => by rw [hin x, inS_ones], fun f m => by
        have k1 := (hN.ok f m).2.1
        have := before f.1 ((hin f.1).mp ⟨f, m, Int.le_refl _, k1⟩)
        omega⟩
      have etk : ((ys.take (i + 1)).map fun y => (y, y + 1)) = ((ys.take i).map fun y => (y, y + 1)) ++ [(u, u + 1)] := by rw [take_snoc hu, List.map_append]; rfl
      have fsz : fs.length ≤ 1000000 := by
        have := hN.len
        unfold prs at this
        rw [List.length_map] at this
        exact this
      have fin : ∀ (gs : List TP) (H2 : Hp), Same H H2 → H2 l = some (.lst (gs.map rf)) → H2 q = some (.lst (ys.map V.int)) → TPs H2 gs → Mrg (prs gs) ((ys.take (i + 1)).map fun y => (y, y + 1)) u →
          ∃ (fs : List TP) (v2 : Option V), [some (V.ref a), some (V.ref l), some (V.int u)] = [some (.ref a), some (.ref l), v2] ∧ Same H H2 ∧ H2 l = some (.lst (fs.map rf)) ∧ H2 q = some (.lst (ys.map V.int)) ∧ TPs H2 fs ∧
            Norm (prs fs) ∧ (∀ x, inS x (prs fs) ↔ x ∈ ys.take (i + 1)) :=
        fun gs H2 a1 a2 a3 a4 m => ⟨gs, _, rfl, a1, a2, a3, a4, m.norm, fun x => by rw [m.same x, inS_ones]⟩
      -- a new couple
      have app : ∀ (H1 : Hp) (t : Addr), Same H' H1 → H1 t = none → (∀ f ∈ prs fs, f.2 < u) → ∃ (fs' : List TP) (v2 : Option V), [some (V.ref a), some (V.ref l), some (V.int u)] = [some (.ref a), some (.ref l), v2] ∧ Same H (L2.upd (L2.upd H1 t (.tup [.int u, .int (u + 1)])) l (.lst ((fs.map rf) ++ [.ref t]))) ∧
          (L2.upd (L2.upd H1 t (.tup [.int u, .int (u + 1)])) l (.lst ((fs.map rf) ++ [.ref t]))) l = some (.lst (fs'.map rf)) ∧ (L2.upd (L2.upd H1 t (.tup [.int u, .int (u + 1)])) l (.lst ((fs.map rf) ++ [.ref t]))) q = some (.lst (ys.map V.int)) ∧ TPs (L2.upd (L2.upd H1 t (.tup [.int u, .int (u + 1)])) l (.lst ((fs.map rf) ++ [.ref t]))) fs' ∧
            Norm (prs fs') ∧ (∀ x, inS x (prs fs') ↔ x ∈ ys.take (i + 1)) := fun H1 t s3 ht ha => by
        refine fin (fs ++ [(t, u, u + 1)]) _ (Same.put (Same.upd' (sH.trans s3) ht) hl) ?_ ?_ ?_ ?_
        · rw [upd_same, List.map_append]; rfl
        · rw [upd_ne lq.symm]
          exact (Same.upd ht) _ _ (s3 _ _ hQ)
        · exact (((hF.same s3).same (Same.upd ht)).app (TPs.one (t := (t, u, u + 1)) upd_same)).put ((Same.upd ht) _ _ (s3 _ _ hL))
        · rw [prs_app, etk]
          exact M.add okU ha
      refine ⟨_, rfl, Nat.zero_le _, fun n hn => ?_⟩
      have s3 : Same H' (L2.upd H' n (.lst [])) := Same.upd hn
      refine ⟨_, _, .lst (SqL.of (s3 _ _ hL)) (dpAll_tps (hF.same s3)), .lst (SqL.of upd_same) .nil, shaped_list _, by decide +kernel, _, rfl, ?_⟩
      rw [eqv_nil]
      rcases List.eq_nil_or_concat fs with e0 | ⟨gs, z, e0⟩
      · subst e0
        refine iteNS rfl ?_
        refine iteF ?_
        refine ⟨_, rfl, .inl ⟨rfl, _, SqL.of (s3 _ _ hL)⟩, _, rfl, _, rfl, _, _, rfl, rfl, (by show 2 ≤ sizeLine; decide), fun t ht => ?_⟩
        refine ⟨l, _, _, rfl, rfl, (Same.upd ht) _ _ (s3 _ _ hL), by decide, ?_⟩
        exact app _ t s3 ht fun f m => by cases m
      · subst e0
        rw [List.concat_eq_append] at *
        have hz : TPs H' [z] := fun t m => hF t (List.mem_append.mpr (.inr m))
        have hzt := s3 _ _ (hz z (List.mem_singleton.mpr rfl))
        have hLl : (gs ++ [z]).map rf = gs.map rf ++ [rf z] := by rw [List.map_append]; rfl
        have at1 : atI ((gs ++ [z]).map rf) (-1) = some (V.ref z.1) := by rw [hLl]; exact atI_last _ _
        have hL3 := s3 _ _ hL
        refine iteNS_not (by unfold prs; simp) ?_
        have zin : z.2 ∈ prs (gs ++ [z]) := prs_mem (List.mem_append.mpr (.inr (List.mem_singleton.mpr rfl)))
        have zok := (hN.ok _ zin).2.1
        have zle : z.2.2 ≤ u := by
          have := before (z.2.2 - 1) ((hin _).mp ⟨z.2, zin, by show z.2.1 ≤ z.2.2 - 1; omega, by show z.2.2 - 1 < z.2.2; omega⟩)
          omega
        refine ⟨_, rfl, 1, rfl, l, _, _, _, rfl, rfl, SqL.of hL3, at1, z.1, _, _, _, rfl, rfl, tupAt hzt, atI_nat (j := 1) rfl, _, rfl, rfl, _, rfl, ?_⟩
        refine ite2 (fun c => ?_) (fun c => ?_)
        · have c' : z.2.2 = u := V.int.inj (of_decide_eq_true c)
          refine ⟨_, rfl, 1, rfl, l, _, _, _, rfl, rfl, SqL.of hL3, at1, z.1, _, _, _, rfl, rfl, tupAt hzt, atI_nat (j := 0) rfl, _, rfl, _, _, rfl, rfl, (by show 2 ≤ sizeLine; decide), fun t ht => ?_⟩
          refine ⟨_, rfl, 1, rfl, l, _, _, gs.length, rfl, rfl, (Same.upd ht) _ _ hL3, ?_, ?_⟩
          · rw [List.length_map, List.length_append]
            exact ixN_last _
          · have mg := M
            rw [prs_app] at mg
            have g3 := Mrg.grow (p := (u, u + 1)) mg okU (by show u ≤ z.2.2; omega)
            have e5 : (if (u, u + 1).2 > z.2.2 then (u, u + 1).2 else z.2.2) = u + 1 := by
              show (if u + 1 > z.2.2 then u + 1 else z.2.2) = u + 1
              rw [if_pos (by omega)]
            refine fin (gs ++ [(t, z.2.1, u + 1)]) _ (Same.put (Same.upd' (sH.trans s3) ht) hl) ?_ ?_ ?_ ?_
            · rw [upd_same, hLl]
              have : (gs.map rf ++ [rf z]).set gs.length (V.ref t) = gs.map rf ++ [V.ref t] := by
                have := set_last (l := gs.map rf) (a := rf z) (b := V.ref t)
                rw [List.length_map] at this
                exact this
              rw [this, List.map_append]
              rfl
            · rw [upd_ne lq.symm]
              exact (Same.upd ht) _ _ (s3 _ _ hQ)
            · have hG : TPs H' gs := fun t m => hF t (List.mem_append.mpr (.inl m))
              exact (((hG.same s3).same (Same.upd ht)).app (TPs.one (t := (t, z.2.1, u + 1)) upd_same)).put ((Same.upd ht) _ _ hL3)
            · rw [prs_app, etk]
              have g4 := g3
              rw [e5] at g4
              exact g4
        · have c' : ¬ z.2.2 = u := fun e => c (decide_eq_true (by rw [e]))
          refine ⟨_, rfl, .inl ⟨rfl, _, SqL.of hL3⟩, _, rfl, _, rfl, _, _, rfl, rfl, (by show 2 ≤ sizeLine; decide), fun t ht => ?_⟩
          refine ⟨l, _, _, rfl, rfl, (Same.upd ht) _ _ hL3, ?_, ?_⟩
          · rw [List.length_map]
            exact Nat.lt_of_le_of_lt fsz (by decide)
          · refine app _ t s3 ht fun f m => ?_
            rw [prs_app] at m hN
            rcases List.mem_append.mp m with m | m
            · have a1 := hN.last_lt f m
              have a3 : f.2 < z.2.1 := a1
              omega
            · have e3 : f = z.2 := List.mem_singleton.mp m
              rw [e3]
              omega
    · rintro σ H' ⟨fs, v2, rfl, sH, hL, hQ, hF, hN, hin⟩
      refine ⟨_, rfl, l, _, rfl, .inl ⟨SqL.of hL, fun p hp => ?_⟩⟩
      refine k _ p (prs fs) (Same.upd' sH hp) ⟨fs, upd_same, hF.same (Same.upd hp), rfl⟩ hN fun x => ?_
      rw [hin x, List.length_map, take_all]
      exact hpm.mem_iff
end
end Sps
set_option Elab.async false
set_option linter.all false
set_option maxRecDepth 100000
set_option maxHeartbeats 4000000
/-! Drawn couples; spans made couple by couple. -/
namespace Sps
open PySem PySem.Spec PyProof.Rows L2
abbrev sDrawn : Stmt := top 18
abbrev sOf : Stmt := top 19
theorem TPs.x {H H' : Hp} {ts : List TP} {l : Addr} {xs : List V} (h : TPs H ts) (hl : H l = some (.lst xs)) (s : SameX l H H') : TPs H' ts := fun t m => s _ _ (ne_of (h t m) hl (by intro z; cases z)) (h t m)
theorem SameX.upd' {H H1 : Hp} {l p : Addr} {o : HO} (s : SameX l H H1) (h : H1 p = none) : SameX l H (L2.upd H1 p o) := s.trans (Same.x (Same.upd h) l)
theorem SameX.put {H H1 : Hp} {l p : Addr} {o : HO} (s : SameX l H H1) (h : H p = none) : SameX l H (L2.upd H1 p o) := fun b u n e => by
  rw [upd_ne (ne_of_none e h)]
  exact s b u n e
theorem SameX.free {H H' : Hp} {l p : Addr} (s : SameX l H H') (n : p ≠ l) (h : H' p = none) : H p = none := by
  cases q : H p with
  | none => rfl
  | some o =>
    rw [s p o n q] at h
    cases h
theorem PotOk.at_ {n : Int} {H : Hp} {l : Addr} (h : PotOk n H l) : ∃ xs, H l = some (.lst xs) := let ⟨_, _, _, e, _⟩ := h; ⟨_, e⟩
theorem PotOk.ne {n : Int} {H : Hp} {l p : Addr} (h : PotOk n H l) (e : H p = none) : p ≠ l := fun z => by
  obtain ⟨xs, q⟩ := h.at_
  rw [z, q] at e
  cases e
theorem PotOk.put {n : Int} {H : Hp} {l p : Addr} {o : HO} (h : PotOk n H l) (e : p ≠ l) : PotOk n (L2.upd H p o) l := let ⟨a, m, c, h1, h2⟩ := h; ⟨a, m, c, by rw [upd_ne e.symm]; exact h1, h2⟩
section
variable {P : Program} {w : World} {K : PySem.W.Frag} {mg : Str → Option Value} {base : Heap}
def spDrawn : Sp := fun vs H Q _ => ∃ (l : Addr) (most wide n : Int), vs = [.ref l, .int most, .int wide] ∧ PotOk n H l ∧ n ≤ 90000 ∧ 0 ≤ most ∧ most ≤ 5 ∧ 0 < wide ∧ wide ≤ 24 ∧
  ∀ (H' : Hp) (a : Addr) (ts : List TP), SameX l H H' → PotOk (n + 20) H' l → a ≠ l → H' a = some (.lst (ts.map rf)) → TPs H' ts → ts.length ≤ 5 → (∀ q ∈ prs ts, okP q) → (∀ q ∈ prs ts, q.2 - q.1 ≤ 9) → Q (.ref a) H'
theorem scDn : FnScope ["_law_pot_here", "_law_most", "_law_wide", "_law_base", "_law_found", "_law_turn", "_law_start"] ["_law_pot_here", "_law_most", "_law_wide"] (defScope sDrawn) := ⟨rfl, rfl, rfl, by decide +kernel, rfl, by decide +kernel, by decide +kernel⟩
theorem ok_drawn {f g gA : Addr} {fd fdG fdA : FuncData} (F : Fun K "_law_drawn" "_law_drawn" sDrawn f fd) (T : Names mg) (G : FnOk P w K mg base CX0 2 g fdG ["_law_pot_here", "_law_many"] spDraw) (mgG : mg "_law_draw" = some (.ref g)) (kG : PySem.W.keepIn K (.ref g) = true) (bG : Binds K fdG ["_law_pot_here", "_law_many"] [])
    (A : FnOk P w K mg base CX0 3 gA fdA ["_law_pot_here", "_law_items"] spAny) (mgA : mg "_law_any" = some (.ref gA)) (kA : PySem.W.keepIn K (.ref gA) = true) (bA : Binds K fdA ["_law_pot_here", "_law_items"] []) :
    FnOk P w K mg base CX0 4 f fd ["_law_pot_here", "_law_most", "_law_wide"] spDrawn := by
  refine F.ok scDn (fun vs H Q E h => ?_) (fun cdv Ar outer s H vs Q E hr h => ?_)
  · obtain ⟨l, most, wide, n, rfl, _⟩ := h
    rfl
  · obtain ⟨l, most, wide, n, rfl, hp, hn, m0, m1, w0, w1, k⟩ := h
    have hr1 : Room 2 _ := hr.mono (by decide)
    refine ⟨_, pss_cons (ps_par (i := 3) (j := 4) (by rfl) scDn.nd rfl rfl (by decide) rfl rfl (pa_cons (pe_call A hr rfl mgA kA bA .nil pass0 (pa_cons (pv 0) (pa_cons (pe_lst (pa_cons pe_int (pa_cons pe_int (pa_cons pe_int (pa_cons pe_int (pa_cons pe_int pa_nil)))))) pa_nil))) (pa_cons (pe_lst pa_nil) pa_nil)) (by rfl))
      (pss_cons (ps_for PassesOwn.never rfl (pi_range1 rfl T.range (pa_cons (pe_call G hr1 rfl mgG kG bG .nil pass0 (pa_cons (pv 0) (pa_cons (pe_op op_add (pv 1) pe_int) pa_nil))) pa_nil)) (pg_name (i := 5) scDn.nd rfl (Or.inl rfl))
        (pss_cons (ps_set (i := 6) scDn.nd rfl (Or.inl rfl) (pe_op op_add (pv 3) (pe_call G hr1 rfl mgG kG bG .nil pass0 (pa_cons (pv 0) (pa_cons (pv 2) pa_nil)))))
        (pss_one (ps_expr (pe_bm PySem.F.plainAttrs_list PySem.F.slot_list_append PySem.F.type_list_append mt_append (pv 4) (pa_cons (pe_tup (pa_cons (pv 6) (pa_cons (pe_op op_add (pe_op op_add (pv 6) pe_int) (pe_call G hr1 rfl mgG kG bG .nil pass0 (pa_cons (pv 0) (pa_cons pe_int pa_nil)))) pa_nil))) pa_nil))))))
      (pss_one (ps_ret (pv 4)))), ?_⟩
    refine ⟨_, rfl, (by show 5 ≤ sizeLine; decide), fun p hpn => ?_⟩
    have pl := hp.ne hpn
    refine ⟨l, p, _, n, rfl, hp.put pl, by omega, pl, upd_same, by decide, by decide, fun H1 x sx1 hp1 hx => ?_⟩
    obtain ⟨b, rfl, b0, b1⟩ : ∃ b : Int, x = V.int b ∧ 0 ≤ b ∧ b ≤ 999960 := by
      rcases List.mem_cons.mp hx with e | hx
      · exact ⟨0, e, by decide, by decide⟩
      rcases List.mem_cons.mp hx with e | hx
      · exact ⟨0, e, by decide, by decide⟩
      rcases List.mem_cons.mp hx with e | hx
      · exact ⟨0, e, by decide, by decide⟩
      rcases List.mem_cons.mp hx with e | hx
      · exact ⟨5, e, by decide, by decide⟩
      rcases List.mem_cons.mp hx with e | hx
      · exact ⟨999960, e, by decide, by decide⟩
      cases hx
    have sA : SameX l H H1 := (Same.x (Same.upd hpn) l).trans sx1
    refine ⟨Nat.zero_le _, fun a ha => ⟨_, _, rfl, ?_⟩⟩
    have al := hp1.ne ha
    have ha0 : H a = none := sA.free al ha
    refine ⟨_, rfl, _, rfl, _, _, rfl, rfl, l, most + 1, n + 1, rfl, hp1.put al, by omega, by omega, by omega, fun H2 r sx2 hp2 r0 r1 => ?_⟩
    have sB : SameX l H H2 := (sA.put ha0).trans sx2
    refine ⟨r, rfl, by omega, by omega, for_range (lo := 0) (n := r.toNat) (fun i σ H' => ∃ (ts : List TP) (v5 v6 : Option V), σ = [some (.ref l), some (.int most), some (.int wide), some (.int b), some (.ref a), v5, v6] ∧ SameX l H H' ∧ PotOk (n + 2 + 2 * i) H' l ∧ H' a = some (.lst (ts.map rf)) ∧ TPs H' ts ∧ ts.length = i ∧
        (∀ q ∈ prs ts, okP q) ∧ (∀ q ∈ prs ts, q.2 - q.1 ≤ 9))
      ⟨[], none, none, rfl, sB, hp2.mono (by omega), sx2 _ _ al upd_same, TPs.nil, rfl, fun q m => (by cases m), fun q m => (by cases m)⟩ ?_ ?_⟩
    · rintro i σ H' hi ⟨ts, v5, v6, rfl, sx, hp', hL, hT, hlen, hok, hw⟩
      have i5 : (i : Int) < 5 := by omega
      refine ⟨_, rfl, _, rfl, _, rfl, l, wide, _, rfl, hp', by omega, w0, by omega, fun H3 r3 sx3 hp3 r30 r31 => ?_⟩
      refine ⟨_, _, rfl, rfl, ?_⟩
      refine ⟨_, rfl, .inl ⟨rfl, _, SqL.of (sx3 _ _ al hL)⟩, _, rfl, _, rfl, _, _, rfl, rfl, _, rfl, l, 9, _, rfl, hp3, by omega, by decide, by decide, fun H4 r4 sx4 hp4 r40 r41 => ?_⟩
      refine ⟨_, _, rfl, rfl, (by show 2 ≤ sizeLine; decide), fun t ht => ?_⟩
      have tl := hp4.ne ht
      have sC : SameX l H' H4 := sx3.trans sx4
      have sD : SameX l H H4 := sx.trans sC
      have hL4 : H4 a = some (.lst (ts.map rf)) := sC _ _ al hL
      have hT4 : TPs H4 ts := by
        obtain ⟨xs, ex⟩ := hp'.at_
        exact hT.x ex sC
      refine ⟨a, _, _, rfl, rfl, (Same.upd ht) _ _ hL4, ?_, ?_⟩
      · rw [List.length_map, hlen]
        exact Nat.lt_of_lt_of_le (show i < 5 by omega) (by decide)
      · refine ⟨ts ++ [(t, b + r3, b + r3 + 1 + r4)], _, _, rfl, (sD.upd' ht).put ha0, ((hp4.put tl).put al).mono (by omega), ?_, ?_, ?_, ?_, ?_⟩
        · rw [upd_same, List.map_append]; rfl
        · exact ((hT4.same (Same.upd ht)).app (TPs.one (t := (t, b + r3, b + r3 + 1 + r4)) upd_same)).put ((Same.upd ht) _ _ hL4)
        · rw [List.length_append, hlen]; rfl
        · intro q m
          rw [prs_app] at m
          rcases List.mem_append.mp m with m | m
          · exact hok q m
          · have e3 : q = (b + r3, b + r3 + 1 + r4) := List.mem_singleton.mp m
            rw [e3]
            exact ⟨by show 0 ≤ b + r3; omega, by show b + r3 < b + r3 + 1 + r4; omega, by show b + r3 + 1 + r4 ≤ 1000000; omega⟩
        · intro q m
          rw [prs_app] at m
          rcases List.mem_append.mp m with m | m
          · exact hw q m
          · have e3 : q = (b + r3, b + r3 + 1 + r4) := List.mem_singleton.mp m
            rw [e3]
            show b + r3 + 1 + r4 - (b + r3) ≤ 9
            omega
    · rintro σ H' ⟨ts, v5, v6, rfl, sx, hp', hL, hT, hlen, hok, hw⟩
      refine ⟨_, rfl, k H' a ts sx (hp'.mono (by omega)) al hL hT (by omega) hok hw⟩

/-! ### spans made couple by couple -/
/-- what the law's own defs have of Spans -/
structure Sps (P : Program) (w : World) (K : PySem.W.Frag) (mg : Str → Option Value) (base : Heap) (C : Addr) where
  cls : SpCls K mg C
  fI : Addr
  M : Mk K C fI
  I : FnR P w K mg base CX0 4 fI (spNew C)
  gA : Addr
  oA : Op K C "__and__" gA
  And_ : FnR P w K mg base CX0 6 gA (spBin C And)
  gO : Addr
  oO : Op K C "__or__" gO
  Or_ : FnR P w K mg base CX0 6 gO (spBin C Or)
  gS : Addr
  oS : Op K C "__sub__" gS
  Sub_ : FnR P w K mg base CX0 6 gS (spBin C fun a b => a ∧ ¬ b)
  gL : Addr
  oL : Op K C "__len__" gL
  Len_ : FnR P w K mg base CX0 6 gL (spLen C)
  gE : Addr
  oE : Op K C "__eq__" gE
  Eq_ : FnR P w K mg base CX0 6 gE (spEqS C)
section
variable {X : Cx} {C : Addr}
theorem op_or' (B : Sps X.prog X.w X.K X.mg X.base C) (hr : Room 6 X.A) : OpR X (binaryOp .BitOr) (rBin C (spBin C Or) E0) := op_bin B.cls.self B.oO.at_ B.oO.fn B.Or_ hr pass0
theorem op_and' (B : Sps X.prog X.w X.K X.mg X.base C) (hr : Room 6 X.A) : OpR X (binaryOp .BitAnd) (rBin C (spBin C And) E0) := op_bin B.cls.self B.oA.at_ B.oA.fn B.And_ hr pass0
theorem op_sub' (B : Sps X.prog X.w X.K X.mg X.base C) (hr : Room 6 X.A) : OpR X (binaryOp .Sub) (rBin C (spBin C fun a b => a ∧ ¬ b) E0) := op_bin B.cls.self B.oS.at_ B.oS.fn B.Sub_ hr pass0
theorem op_eq' (B : Sps X.prog X.w X.K X.mg X.base C) (hr : Room 6 X.A) : OpR X (compareOp .Eq) (rEqO X.K C (spEqS C) E0) := op_eqO B.oE.at_ B.oE.fn B.Eq_ hr pass0
theorem call_len' (B : Sps X.prog X.w X.K X.mg X.base C) (hr : Room 7 X.A) : CallR X (.builtin "len") (rLenO C (spLen C) E0) := call_lenO B.oL.at_ B.oL.fn B.Len_ hr pass0
end
theorem IsSp.ins {C : Addr} {S : Int → Prop} {v : V} {H : Hp} (h : IsSp C S v H) : ∃ x dx fs, v = .ref x ∧ H x = some (.ins C dx fs) := let ⟨x, _, e, ⟨dx, t, hx, _⟩, _⟩ := h; ⟨x, dx, _, e, hx⟩
/-- a binary operator's reading -/
theorem bin_read {C : Addr} {R : Prop → Prop → Prop} {S T : Int → Prop} {u v : V} {H : Hp} {Q : VK} (hu : IsSp C S u H) (hv : IsSp C T v H) (h : ∀ (H' : Hp) (z : V), Same H H' → IsSp C (fun y => R (S y) (T y)) z H' → Q z H') : rBin C (spBin C R) E0 u v H Q := by
  obtain ⟨a, dx, fs, rfl, ha⟩ := hu.ins
  obtain ⟨b, dy, gs, rfl, hb⟩ := hv.ins
  exact ⟨a, dx, fs, b, dy, gs, rfl, rfl, ha, hb, S, T, _, _, rfl, hu, hv, h⟩
theorem eq_read {C : Addr} {S T : Int → Prop} {u v : V} {H : Hp} {Q : VK} (B : SpCls K mg C) (hu : IsSp C S u H) (hv : IsSp C T v H) (h : ∀ b : Bool, (b = true ↔ ∀ y, S y ↔ T y) → Q (.bl b) H) : rEqO K C (spEqS C) E0 u v H Q := by
  obtain ⟨a, dx, fs, rfl, ha⟩ := hu.ins
  obtain ⟨b, dy, gs, rfl, hb⟩ := hv.ins
  exact ⟨a, dx, fs, rfl, ha, .inl ⟨b, dy, gs, rfl, hb, B.nfC⟩, S, _, _, rfl, hu, .inl ⟨T, hv, h⟩⟩
theorem eq_yes {C : Addr} {S T : Int → Prop} {u v : V} {H : Hp} {Q : VK} (B : SpCls K mg C) (hu : IsSp C S u H) (hv : IsSp C T v H) (e : ∀ y, S y ↔ T y) (h : Q (.bl true) H) : rEqO K C (spEqS C) E0 u v H Q :=
  eq_read B hu hv fun b hb => by rw [hb.mpr e]; exact h
theorem len_read {C : Addr} {S : Int → Prop} {u : V} {H : Hp} {Q : VK} (hu : IsSp C S u H) (h : ∀ H', Same H H' → Q (.int (num S)) H') : rLenO C (spLen C) E0 [u] H Q := by
  obtain ⟨a, dx, fs, rfl, ha⟩ := hu.ins
  have b := num_ok S
  exact ⟨a, dx, fs, rfl, ha, S, _, rfl, hu, fun H' s => ⟨_, rfl, b.1, by omega, h H' s⟩⟩
theorem seq_set {te : TE} {u : TS} {D : Ends} {σ : L2.St} {H : Hp} {i : Nat} (h : te σ H fun x H1 => u D (σ.set i (some x)) H1) : tSeq (tAsg te (gName i)) u D σ H := h
theorem make0_read {C : Addr} {σ : L2.St} {H : Hp} {Q : VK} {E : XK} (h : ∀ (H' : Hp) (v : V), Same H H' → IsSp C (fun y => inS y []) v H' → Q v H') : StX.tMakeR C (spNew C) E tNil σ H Q :=
  mk_read (C := C) (ts := []) TPs.nil (by decide) (fun q m => (by cases m)) h
theorem asg_set {te : TE} {D : Ends} {σ : L2.St} {H : Hp} {i : Nat} (h : te σ H fun x H1 => D.nx (σ.set i (some x)) H1) : tAsg te (gName i) D σ H := h
/-- an expression gives Spans of just these positions, and leaves what stood -/
def Ev (C : Addr) (te : TE) (σ : L2.St) (H : Hp) (S : Int → Prop) : Prop := ∀ Q : VK, (∀ (H' : Hp) (v : V), Same H H' → IsSp C S v H' → Q v H') → te σ H Q
theorem Ev.iff {C : Addr} {te : TE} {σ : L2.St} {H : Hp} {S T : Int → Prop} (h : Ev C te σ H S) (e : ∀ y, S y ↔ T y) : Ev C te σ H T := fun Q k => h Q fun H' v s hv => k H' v s (hv.iff e)
theorem Ev.var {C : Addr} {σ : L2.St} {H : Hp} {S : Int → Prop} {i : Nat} {v : V} (h : σ[i]? = some (some v)) (hv : IsSp C S v H) : Ev C (tVar i) σ H S := fun Q k => ⟨v, h, k H v (Same.refl H) hv⟩
theorem Ev.bin {C : Addr} {ta tb : TE} {σ : L2.St} {H : Hp} {S T : Int → Prop} {R : Prop → Prop → Prop} (ha : Ev C ta σ H S) (hb : ∀ H', Same H H' → Ev C tb σ H' T) : Ev C (tOp (rBin C (spBin C R) E0) ta tb) σ H fun y => R (S y) (T y) :=
  fun Q k => ha _ fun H1 u s1 hu => hb H1 s1 _ fun H2 v s2 hv => bin_read (hu.same s2) hv fun H3 z s3 hz => k H3 z ((s1.trans s2).trans s3) hz
theorem Ev.make0 {C : Addr} {σ : L2.St} {H : Hp} : Ev C (StX.tMakeR C (spNew C) E0 tNil) σ H fun y => inS y [] := fun Q k => make0_read k
theorem Ev.make1 {C : Addr} {σ : L2.St} {H : Hp} {t : TA} {p : Pr} (ht : ∀ (R : List V → Hp → Prop), (∀ x H1, Same H H1 → H1 x = some (.tup [.int p.1, .int p.2]) → R [.ref x] H1) → t σ H R) (ok : okP p) :
    Ev C (StX.tMakeR C (spNew C) E0 t) σ H fun y => inP y p :=
  fun Q k => ht _ fun x H1 s1 e1 => mk_read (C := C) (ts := [(x, p)]) (TPs.one (t := (x, p)) e1) (show 1 ≤ 4000000 by decide) (fun q m => by rw [List.mem_singleton.mp m]; exact ok) fun H' v s2 hv => k H' v (s1.trans s2) (hv.iff fun y => inS_one)
def spOf (C : Addr) : Sp := fun vs H Q _ => ∃ (d : Addr) (ks : List Int), vs = [.ref d] ∧ DK H d ks ∧ (∀ x ∈ ks, 0 ≤ x ∧ x < 1000000) ∧ ∀ (H' : Hp) (v : V), Same H H' → IsSp C (fun y => y ∈ ks) v H' → Q v H'
theorem scOf : FnScope ["_law_places_here", "_law_found", "_law_start", "_law_stop"] ["_law_places_here"] (defScope sOf) := ⟨rfl, rfl, rfl, by decide +kernel, rfl, by decide +kernel, by decide +kernel⟩
theorem ok_of {f g C : Addr} {fd fdG : FuncData} (F : Fun K "_law_of" "_law_of" sOf f fd) (B : Sps P w K mg base C) (G : FnOk P w K mg base CX0 2 g fdG ["_law_places_here"] spCouples) (mgG : mg "_law_couples" = some (.ref g)) (kG : PySem.W.keepIn K (.ref g) = true) (bG : Binds K fdG ["_law_places_here"] []) :
    FnOk P w K mg base CX0 7 f fd ["_law_places_here"] (spOf C) := by
  refine F.ok scOf (fun vs H Q E h => ?_) (fun cdv Ar outer s H vs Q E hr h => ?_)
  · obtain ⟨d, ks, rfl, _⟩ := h
    rfl
  · obtain ⟨d, ks, rfl, hD, hrg, k⟩ := h
    have hr1 : Room 2 _ := hr.mono (by decide)
    have hr4 : Room 5 _ := hr.mono (by decide)
    refine ⟨_, pss_cons (ps_set (i := 1) scOf.nd rfl (Or.inl rfl) (pe_makeR0 B.M B.I hr4 rfl B.cls.mgC pass0))
      (pss_cons (ps_for PassesOwn.never rfl (pi_tup (pe_call G hr1 rfl mgG kG bG .nil pass0 (pa_cons (pv 0) pa_nil))) (pg_tup rfl (pgs_cons (pg_name (i := 2) scOf.nd rfl (Or.inl rfl)) (pgs_cons (pg_name (i := 3) scOf.nd rfl (Or.inl rfl)) pgs_nil)))
        (pss_one (ps_set (i := 1) scOf.nd rfl (Or.inl rfl) (pe_op (op_or' B hr) (pv 1) (StX.pe_makeR B.M B.I hr4 rfl B.cls.mgC pass0 (pa_cons (pe_tup (pa_cons (pv 2) (pa_cons (pv 3) pa_nil))) pa_nil))))))
      (pss_one (ps_ret (pv 1)))), ?_⟩
    refine seq_set (make0_read (C := C) (E := E0) fun H1 v1 s1 h1 => ?_)
    refine ⟨_, rfl, d, ks, rfl, hD.same s1, hrg, fun H2 p ms s2 ⟨ts, hA, hT, eT⟩ nm im => ?_⟩
    refine ⟨p, rfl, ⟨_, tupAt hA⟩, for_tup (K := K) (a := p) (xs := ts.map rf) (fun i σ H' => ∃ (v : V) (v2 v3 : Option V), σ = [some (.ref d), some v, v2, v3] ∧ Same H2 H' ∧ IsSp C (fun y => inS y (ms.take i)) v H')
      ⟨v1, none, none, rfl, Same.refl _, h1.same s2⟩ (fun i σ H' _ ⟨_, _, _, _, sH, _⟩ => tupAt (sH _ _ hA)) ?_ ?_⟩
    · rintro i y σ H' hi ⟨v, v2, v3, rfl, sH, hv⟩
      rw [List.getElem?_map] at hi
      obtain ⟨u, hu, e⟩ : ∃ u, ts[i]? = some u ∧ rf u = y := by
        cases e : ts[i]? with
        | none => rw [e] at hi; cases hi
        | some u => rw [e] at hi; exact ⟨u, rfl, Option.some.inj hi⟩
      subst e
      have mu : u ∈ ts := List.mem_of_getElem? hu
      have hm : ms[i]? = some u.2 := by
        rw [← eT]
        unfold prs
        rw [List.getElem?_map, hu]
        rfl
      refine ⟨u.1, _, rfl, tupAt (hT.same sH u mu), rfl, _, _, rfl, _, _, rfl, rfl, ?_⟩
      refine asg_set ?_
      have hok : okP u.2 := nm.ok _ (by rw [← eT]; exact prs_mem mu)
      refine Ev.bin (Ev.var (i := 1) rfl hv) (fun H3 s3 => Ev.make1 (p := u.2) (fun R h => ?_) hok) _ fun H4 z s4 hz => ⟨z, _, _, rfl, sH.trans s4, hz.iff fun y => ?_⟩
      · exact ⟨_, rfl, _, rfl, (by show 2 ≤ sizeLine; decide), fun t ht => h t _ (Same.upd ht) upd_same⟩
      · rw [take_snoc hm, inS_append, inS_one]
    · rintro σ H' ⟨v, v2, v3, rfl, sH, hv⟩
      refine ⟨_, rfl, k H' v ((s1.trans s2).trans sH) (hv.iff fun y => ?_)⟩
      have e : ms.take (ts.map rf).length = ms := List.take_of_length_le (by rw [← eT]; unfold prs; rw [List.length_map, List.length_map]; exact Nat.le_refl _)
      rw [e]
      exact im y
end
end Sps
set_option Elab.async false
set_option linter.all false
set_option maxRecDepth 100000
set_option maxHeartbeats 4000000
/-! The law's looks at two Spans, at three. -/
namespace Sps
open PySem PySem.Spec PyProof.Rows L2
abbrev sTwo : Stmt := top 20
abbrev sRules : Stmt := top 21
/-! ### tests whose outcome is known -/
def Yes (t : TT) (σ : L2.St) (H : Hp) : Prop := ∀ Q : Bool → Hp → Prop, (∀ H', Same H H' → Q true H') → t σ H Q
def No (t : TT) (σ : L2.St) (H : Hp) : Prop := ∀ Q : Bool → Hp → Prop, (∀ H', Same H H' → Q false H') → t σ H Q
/-- an expression that gives this int -/
def EvI (te : TE) (σ : L2.St) (H : Hp) (i : Int) : Prop := ∀ Q : VK, (∀ H', Same H H' → Q (.int i) H') → te σ H Q
theorem Yes.not {t : TT} {σ : L2.St} {H : Hp} (h : Yes t σ H) : No (tNot t) σ H := fun Q k => h _ fun H' s => k H' s
theorem No.or {t u : TT} {σ : L2.St} {H : Hp} (h : No t σ H) (k : ∀ H', Same H H' → No u σ H') : No (tOr t u) σ H := fun Q q => h _ fun H' s => iteF (k H' s _ fun H2 s2 => q H2 (s.trans s2))
theorem No.ifs {c : TT} {t u : TS} {D : Ends} {σ : L2.St} {H : Hp} (h : No c σ H) (k : ∀ H', Same H H' → u D σ H') : tIfS c t u D σ H := h _ fun H' s => iteF (k H' s)
theorem seq_if {c : TT} {t u v : TS} {D : Ends} {σ : L2.St} {H : Hp} (h : tIfS c t u { D with nx := v D } σ H) : tSeq (tIfS c t u) v D σ H := h
section
variable {K : PySem.W.Frag} {mg : Str → Option Value} {C : Addr} {σ : L2.St} {H : Hp}
theorem Ev.eq {ta tb : TE} {S T : Int → Prop} (B : SpCls K mg C) (ha : Ev C ta σ H S) (hb : ∀ H', Same H H' → Ev C tb σ H' T) (e : ∀ y, S y ↔ T y) : Yes (tTest (tOp (rEqO K C (spEqS C) E0) ta tb)) σ H := fun Q k =>
  ha _ fun H1 u s1 hu => hb H1 s1 _ fun H2 v s2 hv => eq_yes B (hu.same s2) hv e ⟨true, rfl, k H2 (s1.trans s2)⟩
theorem Ev.len {te : TE} {S : Int → Prop} (h : Ev C te σ H S) : EvI (tCB (rLenO C (spLen C) E0) (tCons te tNil)) σ H (num S) := fun Q k =>
  h _ fun H1 u s1 hu => len_read hu fun H2 s2 => k H2 (s1.trans s2)
theorem EvI.add {ta tb : TE} {i j : Int} (ha : EvI ta σ H i) (hb : ∀ H', Same H H' → EvI tb σ H' j) : EvI (tOp (rI0 fun i j => .int (i + j)) ta tb) σ H (i + j) := fun Q k =>
  ha _ fun H1 s1 => hb H1 s1 _ fun H2 s2 => ⟨_, _, rfl, rfl, k H2 (s1.trans s2)⟩
theorem EvI.sub {ta tb : TE} {i j : Int} (ha : EvI ta σ H i) (hb : ∀ H', Same H H' → EvI tb σ H' j) : EvI (tOp (rI0 fun i j => .int (i - j)) ta tb) σ H (i - j) := fun Q k =>
  ha _ fun H1 s1 => hb H1 s1 _ fun H2 s2 => ⟨_, _, rfl, rfl, k H2 (s1.trans s2)⟩
theorem EvI.ne {ta tb : TE} {i j : Int} (ha : EvI ta σ H i) (hb : ∀ H', Same H H' → EvI tb σ H' j) (e : i = j) : No (tTest (tOp rNe ta tb)) σ H := fun Q k =>
  ha _ fun H1 s1 => hb H1 s1 _ fun H2 s2 => ⟨rfl, _, rfl, by rw [e]; simpa using k H2 (s1.trans s2)⟩
end
section
variable {P : Program} {w : World} {K : PySem.W.Frag} {mg : Str → Option Value} {base : Heap}
def spRules (C : Addr) : Sp := fun vs H Q _ => ∃ (S T R : Int → Prop) (u v z : V), vs = [u, v, z] ∧ IsSp C S u H ∧ IsSp C T v H ∧ IsSp C R z H ∧ ∀ H', Same H H' → Q (.bl true) H'
theorem scR : FnScope ["_law_one", "_law_other", "_law_third"] ["_law_one", "_law_other", "_law_third"] (defScope sRules) := ⟨rfl, rfl, rfl, by decide +kernel, rfl, by decide +kernel, by decide +kernel⟩
theorem ok_rules {f C : Addr} {fd : FuncData} (F : Fun K "_law_rules_right" "_law_rules_right" sRules f fd) (T : Names mg) (B : Sps P w K mg base C) : FnOk P w K mg base CX0 8 f fd ["_law_one", "_law_other", "_law_third"] (spRules C) := by
  refine F.ok scR (fun vs H Q E h => ?_) (fun cdv Ar outer s H vs Q E hr h => ?_)
  · obtain ⟨_, _, _, _, _, _, rfl, _⟩ := h
    rfl
  · obtain ⟨S1, T1, R1, u, v, z, rfl, hu, hv, hz, k⟩ := h
    have h5 : Room 6 _ := hr.mono (by decide)
    have h4 : Room 5 _ := hr.mono (by decide)
    refine ⟨_, pss_cons (ps_if (PW.pt (pw_or (pt_not (pt_cmpR (op_eq' B h5) (pe_op (op_and' B h5) (pv 0) (pv 1)) (pe_op (op_and' B h5) (pv 1) (pv 0)) (nomark _)))
        (pw_or1 (pt_not (pt_cmpR (op_eq' B h5) (pe_op (op_or' B h5) (pv 0) (pe_op (op_or' B h5) (pv 1) (pv 2))) (pe_op (op_or' B h5) (pe_op (op_or' B h5) (pv 0) (pv 1)) (pv 2)) (nomark _)))))) (pss_one (ps_ret pe_bl)) pss_nil)
      (pss_cons (ps_if (PW.pt (pw_or (pt_not (pt_cmpR (op_eq' B h5) (pe_op (op_and' B h5) (pv 0) (pe_op (op_or' B h5) (pv 1) (pv 2))) (pe_op (op_or' B h5) (pe_op (op_and' B h5) (pv 0) (pv 1)) (pe_op (op_and' B h5) (pv 0) (pv 2))) (nomark _)))
        (pw_or1 (pt_not (pt_cmpR (op_eq' B h5) (pe_op (op_sub' B h5) (pv 0) (pe_op (op_or' B h5) (pv 1) (pv 2))) (pe_op (op_sub' B h5) (pe_op (op_sub' B h5) (pv 0) (pv 1)) (pv 2)) (nomark _)))))) (pss_one (ps_ret pe_bl)) pss_nil)
      (pss_cons (ps_if (PW.pt (pw_or (pt_not (pt_cmpR (op_eq' B h5) (pe_op (op_sub' B h5) (pv 0) (pe_op (op_sub' B h5) (pv 0) (pv 1))) (pe_op (op_and' B h5) (pv 0) (pv 1)) (nomark _)))
        (pw_or (pt_not (pt_cmpR (op_eq' B h5) (pe_op (op_or' B h5) (pv 0) (pe_makeR0 B.M B.I h4 rfl B.cls.mgC pass0)) (pv 0) (nomark _)))
        (pw_or1 (pt_not (pt_cmpR (op_eq' B h5) (pe_op (op_sub' B h5) (pv 0) (pv 0)) (pe_makeR0 B.M B.I h4 rfl B.cls.mgC pass0) (nomark _))))))) (pss_one (ps_ret pe_bl)) pss_nil)
      (pss_cons (ps_if (pt_cmpR op_ne (pe_op op_add (pe_callB (call_len' B hr) (by rfl) T.len PySem.boot_len (pa_cons (pe_op (op_or' B h5) (pv 0) (pv 1)) pa_nil)) (pe_callB (call_len' B hr) (by rfl) T.len PySem.boot_len (pa_cons (pe_op (op_and' B h5) (pv 0) (pv 1)) pa_nil)))
        (pe_op op_add (pe_callB (call_len' B hr) (by rfl) T.len PySem.boot_len (pa_cons (pv 0) pa_nil)) (pe_callB (call_len' B hr) (by rfl) T.len PySem.boot_len (pa_cons (pv 1) pa_nil))) (nomark _)) (pss_one (ps_ret pe_bl)) pss_nil)
      (pss_one (ps_ret (pe_cmpR op_eq (pe_callB (call_len' B hr) (by rfl) T.len PySem.boot_len (pa_cons (pe_op (op_sub' B h5) (pv 0) (pv 1)) pa_nil))
        (pe_op op_sub (pe_callB (call_len' B hr) (by rfl) T.len PySem.boot_len (pa_cons (pv 0) pa_nil)) (pe_callB (call_len' B hr) (by rfl) T.len PySem.boot_len (pa_cons (pe_op (op_and' B h5) (pv 0) (pv 1)) pa_nil))) (nomark _))))))), ?_⟩
    have v0 : ∀ H', Same H H' → Ev C (tVar 0) [some u, some v, some z] H' S1 := fun H' s => Ev.var rfl (hu.same s)
    have v1 : ∀ H', Same H H' → Ev C (tVar 1) [some u, some v, some z] H' T1 := fun H' s => Ev.var rfl (hv.same s)
    have v2 : ∀ H', Same H H' → Ev C (tVar 2) [some u, some v, some z] H' R1 := fun H' s => Ev.var rfl (hz.same s)
    have bin : ∀ {ta tb : TE} {S T : Int → Prop} {R : Prop → Prop → Prop}, (∀ H', Same H H' → Ev C ta [some u, some v, some z] H' S) → (∀ H', Same H H' → Ev C tb [some u, some v, some z] H' T) → ∀ H', Same H H' → Ev C (tOp (rBin C (spBin C R) E0) ta tb) [some u, some v, some z] H' fun y => R (S y) (T y) :=
      fun ha hb H' s => Ev.bin (ha H' s) fun H2 s2 => hb H2 (s.trans s2)
    have e0 : ∀ H', Same H H' → Ev C (StX.tMakeR C (spNew C) E0 tNil) [some u, some v, some z] H' fun y => inS y [] := fun H' _ => Ev.make0
    have eq : ∀ {ta tb : TE} {S T : Int → Prop}, (∀ H', Same H H' → Ev C ta [some u, some v, some z] H' S) → (∀ H', Same H H' → Ev C tb [some u, some v, some z] H' T) → (∀ y, S y ↔ T y) → ∀ H', Same H H' → No (tNot (tTest (tOp (rEqO K C (spEqS C) E0) ta tb))) [some u, some v, some z] H' :=
      fun ha hb e H' s => (Ev.eq B.cls (ha H' s) (fun H2 s2 => hb H2 (s.trans s2)) e).not
    have len : ∀ {te : TE} {S : Int → Prop}, (∀ H', Same H H' → Ev C te [some u, some v, some z] H' S) → ∀ H', Same H H' → EvI (tCB (rLenO C (spLen C) E0) (tCons te tNil)) [some u, some v, some z] H' (num S) := fun h H' s => (h H' s).len
    have r0 := Same.refl H
    refine seq_if (No.ifs (No.or (eq (bin v0 v1) (bin v1 v0) (fun y => And.comm) H r0) fun H1 s1 => eq (bin v0 (bin v1 v2)) (bin (bin v0 v1) v2) (fun y => or_assoc.symm) H1 s1) fun H2 s2 => ?_)
    refine seq_if (No.ifs (No.or (eq (bin v0 (bin v1 v2)) (bin (bin v0 v1) (bin v0 v2)) (fun y => and_or_left) H2 s2) fun H1 s1 => eq (bin v0 (bin v1 v2)) (bin (bin v0 v1) v2) (fun y => ?_) H1 (s2.trans s1)) fun H3 s3' => ?_)
    · exact ⟨fun ⟨a, b⟩ => ⟨⟨a, fun c => b (.inl c)⟩, fun c => b (.inr c)⟩, fun ⟨⟨a, b⟩, c⟩ => ⟨a, fun d => d.elim b c⟩⟩
    have s3 := s2.trans s3'
    refine seq_if (No.ifs (No.or (eq (bin v0 (bin v0 v1)) (bin v0 v1) (fun y => ?_) H3 s3) fun H1 s1 => No.or (eq (bin v0 e0) v0 (fun y => ?_) H1 (s3.trans s1)) fun H5 s5 => eq (bin v0 v0) e0 (fun y => ?_) H5 ((s3.trans s1).trans s5)) fun H4 s4' => ?_)
    · refine ⟨fun ⟨a, b⟩ => ⟨a, ?_⟩, fun ⟨a, b⟩ => ⟨a, fun c => c.2 b⟩⟩
      by_cases c : T1 y
      · exact c
      · exact (b ⟨a, c⟩).elim
    · exact ⟨fun a => a.elim id fun a => (inS_nil a).elim, .inl⟩
    · exact ⟨fun ⟨a, b⟩ => (b a).elim, fun a => (inS_nil a).elim⟩
    have s4 := s3.trans s4'
    refine seq_if (No.ifs (EvI.ne (EvI.add (len (bin v0 v1) H4 s4) fun H1 s1 => len (bin v0 v1) H1 (s4.trans s1)) (fun H5 s5 => EvI.add (len v0 H5 (s4.trans s5)) fun H1 s1 => len v1 H1 ((s4.trans s5).trans s1)) (num_or_and S1 T1)) fun H6 s6' => ?_)
    have s6 := s4.trans s6'
    refine len (bin v0 v1) H6 s6 _ fun H7 s7 => ?_
    refine EvI.sub (len v0 H7 (s6.trans s7)) (fun H1 s1 => len (bin v0 v1) H1 ((s6.trans s7).trans s1)) _ fun H8 s8 => ?_
    refine ⟨rfl, ?_⟩
    have e : num (fun y => S1 y ∧ ¬ T1 y) = num S1 - num (fun y => S1 y ∧ T1 y) := num_sub S1 T1
    show Q (.bl (decide (V.int (num fun y => S1 y ∧ ¬ T1 y) = V.int (num S1 - num fun y => S1 y ∧ T1 y)))) H8
    rw [e, decide_eq_true rfl]
    exact k H8 ((s6.trans s7).trans s8)
end
end Sps
set_option Elab.async false
set_option linter.all false
set_option maxRecDepth 100000
set_option maxHeartbeats 4000000
/-! The law's look at two Spans and their positions. -/
namespace Sps
open PySem PySem.Spec PyProof.Rows L2
/-- tuples (position, True) -/
abbrev TQ := Addr × Int
def TQs (H : Hp) (ts : List TQ) : Prop := ∀ t ∈ ts, H t.1 = some (.tup [.int t.2, .bl true])
def rq (t : TQ) : V := .ref t.1
theorem TQs.same {H H' : Hp} {ts : List TQ} (h : TQs H ts) (s : Same H H') : TQs H' ts := fun t m => s _ _ (h t m)
theorem TQs.snoc {H : Hp} {ts : List TQ} {t : TQ} (h : TQs H ts) (k : H t.1 = some (.tup [.int t.2, .bl true])) : TQs H (ts ++ [t]) := fun u m => (List.mem_append.mp m).elim (h u) fun m => by rw [List.mem_singleton.mp m]; exact k
theorem TQs.put {H : Hp} {ts : List TQ} {l : Addr} {xs : List V} {o : HO} (h : TQs H ts) (hl : H l = some (.lst xs)) : TQs (L2.upd H l o) ts := fun t m => by
  rw [upd_ne (ne_of (h t m) hl (by intro z; cases z))]
  exact h t m
theorem paired_tq {K : PySem.W.Frag} {H : Hp} : ∀ {ts : List TQ}, TQs H ts → Paired (fun p (kv : Key × V) => SqT K H p [kV kv.1, kv.2]) (ts.map (·.1)) (kd (ts.map (·.2)))
  | [], _ => .nil
  | t :: ts, h => .cons (tupAt (h t List.mem_cons_self)) (paired_tq fun u m => h u (List.mem_cons_of_mem _ m))
theorem map_rq (ts : List TQ) : ts.map rq = (ts.map (·.1)).map V.ref := by rw [List.map_map]; rfl
/-- dict of a list of pairs -/
def rDictP (K : PySem.W.Frag) : List V → Hp → VK → Prop := fun xs H Q => ∃ (a : Addr) (ps : List Addr) (kvs : List (Key × V)), xs = [.ref a] ∧ SqL K H a (ps.map V.ref) ∧ Paired (fun p kv => SqT K H p [kV kv.1, kv.2]) ps kvs ∧
  ∀ p, H p = none → Q (.ref p) (upd H p (.dK (mergeK [] kvs)))
theorem call_dictP' {X : Cx} (hc : X.calm = true) : CallR X (.type "dict") (rDictP X.K) := call_dictP hc
/-- dict of a list of such tuples -/
theorem dict_read {K : PySem.W.Frag} {H : Hp} {a : Addr} {ts : List TQ} {Q : VK} (ha : H a = some (.lst (ts.map rq))) (hT : TQs H ts) (h : ∀ (H' : Hp) (d : Addr), Same H H' → DK H' d (addAll [] (ts.map (·.2))) → Q (.ref d) H') :
    rDictP K [.ref a] H Q := by
  refine ⟨a, ts.map (·.1), kd (ts.map (·.2)), rfl, ?_, paired_tq hT, fun p hp => ?_⟩
  · rw [← map_rq]
    exact SqL.of ha
  · refine h _ p (Same.upd hp) ⟨?_, nd_addAll List.nodup_nil⟩
    rw [upd_same]
    have e := merge_kd (ls := ts.map (·.2)) (ks := [])
    exact congrArg (fun x => some (HO.dK x)) e
/-- the comprehension over the one dict's keys, by whether they are in the other one -/
theorem comp_read {H : Hp} {Q : VK} {d1 d2 : Addr} {ks1 ks2 : List Int} {x0 x1 : Option V} {x4 x5 x6 x7 x8 : Option V} {tt : TT} {neg : Bool} (h1 : DK H d1 ks1) (h2 : DK H d2 ks2) (hl : ks1.length ≤ 8000000)
    (htt : ∀ (k : Int) (H' : Hp) (W : Bool → Hp → Prop), Rd H' d2 (.dK (kd ks2)) → W (xor neg (decide (k ∈ ks2))) H' → tt [x0, x1, some (.ref d1), some (.ref d2), x4, x5, x6, x7, some (.int k)] H' W)
    (h : ∀ (H' : Hp) (D : Addr) (ts : List TQ), Same H H' → H' D = some (.lst (ts.map rq)) → TQs H' ts → (∀ k, k ∈ ts.map (·.2) ↔ k ∈ ks1 ∧ xor neg (decide (k ∈ ks2)) = true) → Q (.ref D) H') :
    tLockE (tLc (iKeys (tVar 2)) (gName 8) tt (tTup (tCons (tVar 8) (tCons (tC (.bl true)) tNil))) [8]) [x0, x1, some (.ref d1), some (.ref d2), x4, x5, x6, x7, x8] H Q := by
  refine ⟨d1, _, h1.1, True.intro, fun od => ?_⟩
  have hF : (L2.upd H d1 (.frz od (.dK (kd ks1)))) d1 = some (.frz od (.dK (kd ks1))) := upd_same
  refine ⟨_, rfl, d1, od, rfl, .inl ⟨kd ks1, hF, fun D hD => ?_⟩⟩
  have nD : d1 ≠ D := ne_of_none hF hD
  have hD0 : H D = none := by rw [upd_ne nD.symm] at hD; exact hD
  refine lc_it (walk_keys (d := d1) (o := od) (kvs := kd ks1)) (fun i H' => (∀ b o, b ≠ d1 → H b = some o → H' b = some o) ∧ H' d1 = some (.frz od (.dK (kd ks1))) ∧ ∃ ts : List TQ, H' D = some (.lst (ts.map rq)) ∧ TQs H' ts ∧ ts.length ≤ i ∧ (∀ k, k ∈ ts.map (·.2) ↔ k ∈ ks1.take i ∧ xor neg (decide (k ∈ ks2)) = true))
    ⟨fun b o n e => ?_, ?_, [], upd_same, fun t m => (by cases m), Nat.le_refl _, fun k => ⟨fun m => (by cases m), fun m => (by cases m.1)⟩⟩ (fun i H' _ p => p.2.1) ?_ ?_
  · rw [upd_ne (ne_of_none e hD0), upd_ne n]
    exact e
  · rw [upd_ne nD]
    exact hF
  · rintro i x H' H2 hi ⟨sH, hd1, ts, hL, hT, hlen, hin⟩ ⟨rfl, k, v, hk, rfl⟩
    obtain ⟨j, hj, e⟩ : ∃ j, ks1[i]? = some j ∧ (Sum.inl j, V.bl true) = (k, v) := by
      unfold kd at hk
      rw [List.getElem?_map] at hk
      cases e : ks1[i]? with
      | none => rw [e] at hk; cases hk
      | some j => rw [e] at hk; exact ⟨j, rfl, Option.some.inj hk⟩
    cases e
    have rd2 : Rd H2 d2 (.dK (kd ks2)) := by
      by_cases c : d2 = d1
      · subst c
        have e := h1.1.symm.trans h2.1
        rw [Option.some.inj e] at hd1
        exact .inr ⟨od, hd1⟩
      · exact .inl (sH _ _ c h2.1)
    have hjn : j ∉ ks1.take i := fun m => by
      obtain ⟨q, hq⟩ := List.getElem?_of_mem m
      obtain ⟨hq1, eq⟩ := List.getElem?_eq_some_iff.mp hq
      rw [List.length_take] at hq1
      rw [List.getElem_take] at eq
      obtain ⟨hi1, ei⟩ := List.getElem?_eq_some_iff.mp hj
      have := (List.getElem_inj h1.2).mp (eq.trans ei.symm)
      omega
    refine ⟨rfl, htt j H2 _ rd2 ?_⟩
    refine ite2 (fun c => ?_) (fun c => ?_)
    · refine ⟨_, rfl, (by show 2 ≤ sizeLine; decide), fun t ht => ?_⟩
      have sT : Same H2 (L2.upd H2 t (.tup [.int j, .bl true])) := Same.upd ht
      refine ⟨_, sT _ _ hL, ?_, fun b o n e => ?_, ?_, ts ++ [(t, j)], ?_, ?_, ?_, fun m => ?_⟩
      · rw [List.length_map]
        have hi2 : i < (kd ks1).length := hi
        unfold kd at hi2
        rw [List.length_map] at hi2
        exact Nat.lt_of_le_of_lt (Nat.le_trans hlen (by omega : i ≤ 8000000)) (by decide)
      · rw [upd_ne (ne_of_none e hD0)]
        exact sT _ _ (sH b o n e)
      · rw [upd_ne nD]
        exact sT _ _ hd1
      · rw [upd_same, List.map_append]; rfl
      · exact ((hT.same sT).snoc (t := (t, j)) upd_same).put (sT _ _ hL)
      · rw [List.length_append]
        exact Nat.succ_le_succ hlen
      · rw [List.map_append, List.mem_append, hin m, take_snoc hj, List.mem_append]
        constructor
        · rintro (⟨a, b⟩ | a)
          · exact ⟨.inl a, b⟩
          · have e : m = j := List.mem_singleton.mp a
            rw [e]
            exact ⟨.inr (List.mem_singleton.mpr rfl), c⟩
        · rintro ⟨a | a, b⟩
          · exact .inl ⟨a, b⟩
          · exact .inr a
    · refine ⟨sH, hd1, ts, hL, hT, Nat.le_succ_of_le hlen, fun m => ?_⟩
      rw [hin m, take_snoc hj, List.mem_append]
      constructor
      · rintro ⟨a, b⟩
        exact ⟨.inl a, b⟩
      · rintro ⟨a | a, b⟩
        · exact ⟨a, b⟩
        · rw [List.mem_singleton.mp a] at b
          exact (c b).elim
  · rintro H' ⟨sH, hd1, ts, hL, hT, hlen, hin⟩
    refine ⟨hd1, h _ D ts (fun b o e => ?_) ?_ (fun t m => ?_) fun k => ?_⟩
    · by_cases c : b = d1
      · subst c
        rw [upd_same]
        exact h1.1.symm.trans e
      · rw [upd_ne c]
        exact sH b o c e
    · rw [upd_ne nD.symm]
      exact hL
    · rw [upd_ne (ne_of (hT t m) hd1 (by intro z; cases z))]
      exact hT t m
    · rw [hin k]
      unfold kd
      rw [List.length_map, take_all]
end Sps
namespace Sps
open PySem PySem.Spec PyProof.Rows L2
theorem isSome_kd {ks : List Int} {k : Int} : (valV (kd ks) (Sum.inl k)).isSome = decide (k ∈ ks) := by
  rw [val_kd]
  by_cases m : k ∈ ks
  · rw [if_pos m, decide_eq_true m]; rfl
  · rw [if_neg m, decide_eq_false m]; rfl
theorem sameKeys_iff {ks ls : List Int} (hk : ks.Nodup) (hl : ls.Nodup) : sameKeys (kd ks) (kd ls) = true ↔ ∀ y, y ∈ ks ↔ y ∈ ls := by
  unfold sameKeys
  have e : (kd ks).all (fun p => (valV (kd ls) p.1).isSome) = ks.all fun k => decide (k ∈ ls) := by
    unfold kd
    rw [List.all_map]
    congr 1
    funext k
    exact isSome_kd
  rw [e, Bool.and_eq_true, List.all_eq_true, beq_iff_eq]
  unfold kd
  rw [List.length_map, List.length_map]
  constructor
  · rintro ⟨h1, h2⟩ y
    have s1 : ∀ x ∈ ks, x ∈ ls := fun x m => of_decide_eq_true (h2 x m)
    exact ⟨s1 y, sub_eq hk hl h1 s1 y⟩
  · intro h
    refine ⟨Nat.le_antisymm (sub_len hk fun x m => (h x).mp m) (sub_len hl fun x m => (h x).mpr m), fun x m => decide_eq_true ((h x).mp m)⟩
theorem nil_r {σ : L2.St} {H : Hp} {Q : List V → Hp → Prop} (h : Q [] H) : tNil σ H Q := h
theorem shaped_3 (a b c : List Pr) : SeqAt.shaped (.list [datP a, datP b, datP c]) = true := by
  have ha := shaped_datP a
  have hb := shaped_datP b
  have hc := shaped_datP c
  have la := SeqAt.canLay_of_shaped ha
  have lb := SeqAt.canLay_of_shaped hb
  have lc := SeqAt.canLay_of_shaped hc
  have dd : ∀ ps : List Pr, PyData.depth (datP ps) ≤ 2 := fun ps => by
    have h := (lay_dP ps).2
    unfold datP
    simp only [PyData.depth]
    omega
  have da := dd a
  have db := dd b
  have dc := dd c
  have e1 : PyData.canLay0 (.list [datP a, datP b, datP c]) = true := by simp only [PyData.canLay0, PyData.canLayAll0, la, lb, lc, Bool.and_self]
  have e2 : PyData.depth (.list [datP a, datP b, datP c]) ≤ 64 := by
    simp only [PyData.depth, PyData.depthAll]
    omega
  unfold SeqAt.shaped
  rw [e1, Bool.true_and]
  exact decide_eq_true e2
theorem eqv_3 (a b c : List Pr) : PyData.eqv (.list [datP a, datP b, datP c]) (.list [datP a, datP b, datP c]) = true := by
  simp only [PyData.eqv, PyData.eqvAll]
  have e : ∀ ps, PyData.eqv (datP ps) (datP ps) = true := fun ps => by rw [eqv_datP, decide_eq_true rfl]
  rw [e, e, e]
  rfl
section
variable {P : Program} {w : World} {K : PySem.W.Frag} {mg : Str → Option Value} {base : Heap}
theorem items_read {H : Hp} {d : Addr} {ks : List Int} {Q : VK} (hd : DK H d ks) (h : ∀ (H' : Hp) (p : Addr) (ts : List TQ), Same H H' → H' p = some (.lst (ts.map rq)) → TQs H' ts → ts.map (·.2) = ks → Q (.ref p) H') : LiI.rItemsL (.ref d) H Q := by
  refine ⟨d, kd ks, rfl, hd.1, fun H' p ts s hp ht hpt hL hP => ?_⟩
  have hex : ∀ {ts : List Addr} {ks : List Int}, Paired (fun (t : Addr) (q : Key × V) => H' t = some (.tup [kV q.1, q.2])) ts (kd ks) → ∃ us : List TQ, us.map (·.1) = ts ∧ us.map (·.2) = ks ∧ TQs H' us := by
    intro ts
    induction ts with
    | nil =>
      intro ks hh
      cases ks with
      | nil => exact ⟨[], rfl, rfl, fun t m => by cases m⟩
      | cons k ks => cases hh
    | cons t ts ih =>
      intro ks hh
      cases ks with
      | nil => cases hh
      | cons k ks =>
        cases hh with
        | cons a r =>
          obtain ⟨us, e1, e2, e3⟩ := ih r
          exact ⟨(t, k) :: us, by rw [List.map_cons, e1], by rw [List.map_cons, e2], fun u m => (List.mem_cons.mp m).elim (fun e => by rw [e]; exact a) (e3 u)⟩
  obtain ⟨us, e1, e2, e3⟩ := hex hP
  refine h H' p us s ?_ e3 e2
  rw [map_rq, e1]
  exact hL
def spTwo (C : Addr) : Sp := fun vs H Q _ => ∃ (u v : V) (d1 d2 : Addr) (ks1 ks2 : List Int), vs = [u, v, .ref d1, .ref d2] ∧ IsSp C (fun y => y ∈ ks1) u H ∧ IsSp C (fun y => y ∈ ks2) v H ∧ DK H d1 ks1 ∧ DK H d2 ks2 ∧ ks1.length ≤ 8000000 ∧ ks2.length ≤ 8000000 ∧
  ∀ H', Same H H' → Q (.bl true) H'
theorem scT : FnScope ["_law_one", "_law_other", "_law_here", "_law_there", "_law_met", "_law_left", "_law_told", "_law_due", "_law_spot"] ["_law_one", "_law_other", "_law_here", "_law_there"] (defScope sTwo) := ⟨rfl, rfl, rfl, by decide +kernel, rfl, by decide +kernel, by decide +kernel⟩
theorem ok_two {f g gF C : Addr} {fd fdG fdF : FuncData} (F : Fun K "_law_two_right" "_law_two_right" sTwo f fd) (T : Names mg) (B : Sps P w K mg base C)
    (G : FnOk P w K mg base CX0 2 g fdG ["_law_places_here"] spCouples) (mgG : mg "_law_couples" = some (.ref g)) (kG : PySem.W.keepIn K (.ref g) = true) (bG : Binds K fdG ["_law_places_here"] [])
    (O : FnOk P w K mg base CX0 7 gF fdF ["_law_places_here"] (spOf C)) (mgO : mg "_law_of" = some (.ref gF)) (kO : PySem.W.keepIn K (.ref gF) = true) (bO : Binds K fdF ["_law_places_here"] []) :
    FnOk P w K mg base CX0 8 f fd ["_law_one", "_law_other", "_law_here", "_law_there"] (spTwo C) := by
  refine F.ok scT (fun vs H Q E h => ?_) (fun cdv Ar outer s H vs Q E hr h => ?_)
  · obtain ⟨_, _, _, _, _, _, rfl, _⟩ := h
    rfl
  · obtain ⟨u, v, d1, d2, ks1, ks2, rfl, hu, hv, h1, h2, l1, l2, k⟩ := h
    have h5 : Room 6 _ := hr.mono (by decide)
    have hr1 : Room 2 _ := hr.mono (by decide)
    refine ⟨_, pss_cons (ps_set (i := 4) scT.nd rfl (Or.inl rfl) (pe_callTy (call_dictP' rfl) (by rfl) T.dict (by decide +kernel) (pa_cons (pe_lock (pe_lc (own := [("_law_spot", 8)]) (g := gName 8) (tt := tB (tDIn (tVar 8) (tVar 3))) rfl scT.nd (pi_keys (pv 2))
          (blkOk_by (own := [("_law_spot", 8)]) (N := ["_law_one", "_law_other", "_law_here", "_law_there", "_law_met", "_law_left", "_law_told", "_law_due", "_law_spot"]) (sc := defScope sTwo) (by decide +kernel))
          (fun _ _ _ _ _ => pg_name (i := 8) scT.nd rfl (Or.inl rfl)) (fun _ _ _ _ _ => pts_one (pt_cmp (pc_din (hu_of hr) (pv 8) (pv 3)))) (fun _ _ _ _ _ => pe_tup (pa_cons (pv 8) (pa_cons pe_bl pa_nil))))) pa_nil)))
      (pss_cons (ps_set (i := 5) scT.nd rfl (Or.inl rfl) (pe_callTy (call_dictP' rfl) (by rfl) T.dict (by decide +kernel) (pa_cons (pe_lock (pe_lc (own := [("_law_spot", 8)]) (g := gName 8) (tt := tB (tDNotIn (tVar 8) (tVar 3))) rfl scT.nd (pi_keys (pv 2))
          (blkOk_by (own := [("_law_spot", 8)]) (N := ["_law_one", "_law_other", "_law_here", "_law_there", "_law_met", "_law_left", "_law_told", "_law_due", "_law_spot"]) (sc := defScope sTwo) (by decide +kernel))
          (fun _ _ _ _ _ => pg_name (i := 8) scT.nd rfl (Or.inl rfl)) (fun _ _ _ _ _ => pts_one (pt_cmp (pc_dnotin (hu_of hr) (pv 8) (pv 3)))) (fun _ _ _ _ _ => pe_tup (pa_cons (pv 8) (pa_cons pe_bl pa_nil))))) pa_nil)))
      (pss_cons (ps_set (i := 6) scT.nd rfl (Or.inl rfl) (pe_lst (pa_cons (pe_fld (pe_op (op_and' B h5) (pv 0) (pv 1)) rfl) (pa_cons (pe_fld (pe_op (op_or' B h5) (pv 0) (pv 1)) rfl) (pa_cons (pe_fld (pe_op (op_sub' B h5) (pv 0) (pv 1)) rfl) pa_nil)))))
      (pss_cons (ps_set (i := 7) scT.nd rfl (Or.inl rfl) (pe_lst (pa_cons (pe_call G hr1 rfl mgG kG bG .nil pass0 (pa_cons (pv 4) pa_nil))
          (pa_cons (pe_call G hr1 rfl mgG kG bG .nil pass0 (pa_cons (pe_callTy (call_dictP' rfl) (by rfl) T.dict (by decide +kernel) (pa_cons (pe_op op_cat (LiI.pe_listItems rfl (pv 2) (by rfl) T.list (by decide +kernel)) (LiI.pe_listItems rfl (pv 3) (by rfl) T.list (by decide +kernel))) pa_nil)) pa_nil))
          (pa_cons (pe_call G hr1 rfl mgG kG bG .nil pass0 (pa_cons (pv 5) pa_nil)) pa_nil)))))
      (pss_cons (ps_if (PW.pt (pw_or (pt_cmpR (op_neD hr.units) (pv 6) (pv 7) (nomark _)) (pw_or1 (pt_cmpR op_ne (pe_cmpR (op_eq' B h5) (pv 0) (pv 1) (nomark _)) (pe_cmpR (op_eqDB hr.units0) (pv 2) (pv 3) (nomark _)) (nomark _))))) (pss_one (ps_ret pe_bl)) pss_nil)
      (pss_one (ps_ret (pe_and (pe_not (pe_cmpR (op_eq' B h5) (pv 0) (pe_fld (pv 0) rfl) (nomark _))) (pe_and (pe_not (pe_cmpR (op_eq' B h5) (pv 0) pe_int (nomark _)))
          (pe_one (pe_cmpR (op_eq' B h5) (pv 0) (pe_call O hr rfl mgO kO bO .nil pass0 (pa_cons (pv 2) pa_nil)) (nomark _))))))))))), ?_⟩
    -- the positions in both
    refine seq_set (comp_read (neg := false) h1 h2 l1 (fun j H' W rd w => ⟨_, rfl, _, rfl, d2, _, rfl, .inl ⟨_, Sum.inl j, rd, rfl, rfl⟩, _, rfl, ?_⟩) fun Ha Da ta sa hDa hTa hka => dict_read hDa hTa fun H1 m sm hm => ?_)
    · rw [isSome_kd]
      have e : xor false (decide (j ∈ ks2)) = decide (j ∈ ks2) := by simp
      rw [e] at w
      exact w
    have s1 : Same H H1 := sa.trans sm
    -- those that are left
    refine seq_set (comp_read (neg := true) (h1.same s1) (h2.same s1) l1 (fun j H' W rd w => ⟨_, rfl, _, rfl, d2, _, rfl, .inl ⟨_, Sum.inl j, rd, rfl, rfl⟩, _, rfl, ?_⟩) fun Hb Db tb sb hDb hTb hkb => dict_read hDb hTb fun H2 n sn hn => ?_)
    · rw [isSome_kd]
      have e : xor true (decide (j ∈ ks2)) = !decide (j ∈ ks2) := by simp
      rw [e] at w
      exact w
    have s12 : Same H1 H2 := sb.trans sn
    have s2 : Same H H2 := s1.trans s12
    have hm2 : DK H2 m _ := hm.same s12
    have eu : ∀ H', Same H H' → ∀ (x : Option V) y z a b c d, Ev C (tVar 0) [some u, x, y, z, a, b, c, d, none] H' fun y => y ∈ ks1 := fun H' s x y z a b c d => Ev.var rfl (hu.same s)
    have r1 : ∀ y ∈ ks1, 0 ≤ y ∧ y < 1000000 := fun y hy => hu.inR hy
    have r2 : ∀ y ∈ ks2, 0 ≤ y ∧ y < 1000000 := fun y hy => hv.inR hy
    have keyM : ∀ y, y ∈ addAll [] (ta.map (·.2)) ↔ y ∈ ks1 ∧ y ∈ ks2 := fun y => by
      rw [mem_addAll, hka y]
      simp
    have keyN : ∀ y, y ∈ addAll [] (tb.map (·.2)) ↔ y ∈ ks1 ∧ ¬ y ∈ ks2 := fun y => by
      rw [mem_addAll, hkb y]
      simp
    -- what is told
    refine seq_set ?_
    refine Ev.bin (Ev.var (i := 0) rfl (hu.same s2)) (fun H' s => Ev.var (i := 1) rfl (hv.same (s2.trans s))) _ fun H3 z3 s3 h3 => ?_
    obtain ⟨xA, mA, rfl, ⟨dA, tA, hxA, htA⟩, nA, iA⟩ := h3
    refine ⟨xA, C, dA, _, _, rfl, hxA, B.cls.cl, B.cls.nP, look_pairs _, ?_⟩
    refine Ev.bin (Ev.var (i := 0) rfl (hu.same (s2.trans s3))) (fun H' s => Ev.var (i := 1) rfl (hv.same ((s2.trans s3).trans s))) _ fun H4 z4 s4 h4 => ?_
    obtain ⟨xO, mO, rfl, ⟨dO, tO, hxO, htO⟩, nO, iO⟩ := h4
    refine ⟨xO, C, dO, _, _, rfl, hxO, B.cls.cl, B.cls.nP, look_pairs _, ?_⟩
    have s24 : Same H2 H4 := s3.trans s4
    refine Ev.bin (Ev.var (i := 0) rfl (hu.same (s2.trans s24))) (fun H' s => Ev.var (i := 1) rfl (hv.same ((s2.trans s24).trans s))) _ fun H5 z5 s5 h5' => ?_
    obtain ⟨xS, mS, rfl, ⟨dS, tS, hxS, htS⟩, nS, iS⟩ := h5'
    refine ⟨xS, C, dS, _, _, rfl, hxS, B.cls.cl, B.cls.nP, look_pairs _, (by show 3 ≤ sizeLine; decide), fun L hL => ?_⟩
    have s25 : Same H2 (L2.upd H5 L (.lst [.ref tA, .ref tO, .ref tS])) := Same.upd' (s24.trans s5) hL
    have hL1 : (L2.upd H5 L (.lst [.ref tA, .ref tO, .ref tS])) L = some (.lst [.ref tA, .ref tO, .ref tS]) := upd_same
    have hA6 := htA.same (Same.upd' (s4.trans s5) hL (o := .lst [.ref tA, .ref tO, .ref tS]))
    have hO6 := htO.same (Same.upd' s5 hL (o := .lst [.ref tA, .ref tO, .ref tS]))
    have hS6 := htS.same (Same.upd hL (o := .lst [.ref tA, .ref tO, .ref tS]))
    generalize eH6 : L2.upd H5 L (.lst [.ref tA, .ref tO, .ref tS]) = H6 at *
    have s6 : Same H H6 := s2.trans s25
    -- what is due
    refine seq_set ?_
    refine ⟨_, rfl, m, _, rfl, hm2.same s25, fun y hy => r1 y ((keyM y).mp hy).1, fun H7 p7 q7 s7 hp7 nq7 iq7 => ?_⟩
    refine ⟨_, rfl, items_read (h1.same (s6.trans s7)) fun H8 p8 t8 s8 hp8 hT8 e8 => ⟨_, rfl, items_read (h2.same ((s6.trans s7).trans s8)) fun H9 p9 t9 s9 hp9 hT9 e9 => ?_⟩⟩
    refine ⟨p8, p9, _, _, rfl, rfl, s9 _ _ hp8, hp9, ?_, fun pc hpc => ?_⟩
    · have e1 : t8.length = ks1.length := by rw [← e8, List.length_map]
      have e2 : t9.length = ks2.length := by rw [← e9, List.length_map]
      rw [List.length_map, List.length_map, e1, e2]
      exact Nat.le_trans (show ks1.length + ks2.length ≤ 16000000 by omega) (by decide)
    have sc : Same H9 (L2.upd H9 pc (.lst (t8.map rq ++ t9.map rq))) := Same.upd hpc
    have hTc : TQs (L2.upd H9 pc (.lst (t8.map rq ++ t9.map rq))) (t8 ++ t9) := fun t mt => sc _ _ ((List.mem_append.mp mt).elim (hT8.same s9 t) (hT9 t))
    change tNil _ _ _
    refine nil_r ?_
    change rDictP _ _ _ _
    refine dict_read (ts := t8 ++ t9) (by rw [upd_same, List.map_append]) hTc fun H10 pd s10 hpd => ?_
    have s710 : Same H7 H10 := ((s8.trans s9).trans sc).trans s10
    have keyU : ∀ y, y ∈ addAll [] ((t8 ++ t9).map (·.2)) ↔ y ∈ ks1 ∨ y ∈ ks2 := fun y => by
      rw [mem_addAll, List.map_append, e8, e9, List.mem_append]
      simp
    refine ⟨pd, _, rfl, hpd, fun y hy => ((keyU y).mp hy).elim (r1 y) (r2 y), fun H11 p11 q11 s11 hp11 nq11 iq11 => ?_⟩
    have s611 : Same H6 H11 := (s7.trans s710).trans s11
    refine ⟨_, rfl, n, _, rfl, hn.same (s25.trans s611), fun y hy => r1 y ((keyN y).mp hy).1, fun H12 p12 q12 s12' hp12 nq12 iq12 => ?_⟩
    refine ⟨(by show 3 ≤ sizeLine; decide), fun M hM => ?_⟩
    have s612 : Same H6 (L2.upd H12 M (.lst [.ref p7, .ref p11, .ref p12])) := Same.upd' (s611.trans s12') hM
    have eA : mA = q7 := nA.uniq nq7 fun y => by rw [iA y, iq7 y, keyM y]
    have eO : mO = q11 := nO.uniq nq11 fun y => by rw [iO y, iq11 y, keyU y]
    have eS : mS = q12 := nS.uniq nq12 fun y => by rw [iS y, iq12 y, keyN y]
    have s13 : Same H (L2.upd H12 M (.lst [.ref p7, .ref p11, .ref p12])) := s6.trans s612
    have dT : Dp K (L2.upd H12 M (.lst [.ref p7, .ref p11, .ref p12])) (.ref L) (.list [datP mA, datP mO, datP mS]) :=
      .lst (SqL.of (s612 _ _ hL1)) (.cons (dp_pt (hA6.same s612)) (.cons (dp_pt (hO6.same s612)) (.cons (dp_pt (hS6.same s612)) .nil)))
    have dD : Dp K (L2.upd H12 M (.lst [.ref p7, .ref p11, .ref p12])) (.ref M) (.list [datP q7, datP q11, datP q12]) :=
      .lst (SqL.of upd_same) (.cons (dp_pt (hp7.same (Same.upd' ((s710.trans s11).trans s12') hM))) (.cons (dp_pt (hp11.same (Same.upd' s12' hM))) (.cons (dp_pt (hp12.same (Same.upd hM))) .nil)))
    generalize L2.upd H12 M (.lst [.ref p7, .ref p11, .ref p12]) = H13 at *
    have b1 := hu.same s13
    have b2 := hv.same s13
    have b3 := h1.same s13
    have b4 := h2.same s13
    refine seq_if (No.ifs (No.or (fun W q => ⟨_, rfl, _, rfl, _, _, dT, dD, shaped_3 _ _ _, shaped_3 _ _ _, _, rfl, ?_⟩) fun H14 s14 W q => ⟨_, rfl, _, rfl, ?_⟩) fun H15 s15 => ?_)
    · rw [eA, eO, eS, eqv_3]
      exact q _ (Same.refl _)
    · refine eq_read B.cls (b1.same s14) (b2.same s14) fun b hb => ?_
      refine ⟨_, rfl, _, rfl, d1, d2, kd ks1, kd ks2, rfl, rfl, (b3.same s14).1, (b4.same s14).1, fun p m => ?_, fun p m => ?_, rfl, _, rfl, ?_⟩
      · obtain ⟨j, _, e⟩ := List.mem_map.mp m
        rw [← e]
      · obtain ⟨j, _, e⟩ := List.mem_map.mp m
        rw [← e]
      · have e : b = sameKeys (kd ks1) (kd ks2) := by
          rw [Bool.eq_iff_iff, hb, sameKeys_iff h1.2 h2.2]
        rw [← e, decide_eq_true rfl]
        exact q _ (Same.refl _)
    · have sF := s13.trans s15
      have huF := hu.same sF
      obtain ⟨xu, mu, eu', ⟨du, tu, hxu, ⟨tsu, hAu, hTu, ePu⟩⟩, nu, iu⟩ := id huF
      subst eu'
      refine ⟨_, rfl, _, rfl, xu, C, du, _, _, rfl, hxu, B.cls.cl, B.cls.nP, look_pairs _, ?_⟩
      refine ⟨xu, du, _, rfl, hxu, .inr (.inl ⟨tu, _, rfl, hAu, B.cls.nfT⟩), _, _, _, rfl, huF, .inr (.inl ⟨⟨tu, _, rfl, hAu⟩, ?_⟩)⟩
      refine ⟨false, rfl, true, rfl, iteT ?_⟩
      refine ⟨_, rfl, xu, du, _, rfl, hxu, .inr (.inr ⟨0, rfl, B.cls.nfI⟩), _, _, _, rfl, huF, .inr (.inr ⟨⟨0, rfl⟩, ?_⟩)⟩
      refine ⟨false, rfl, true, rfl, iteT ?_⟩
      refine ⟨_, rfl, _, rfl, d1, ks1, rfl, h1.same sF, r1, fun H16 z16 s16 h16 => ?_⟩
      exact eq_yes B.cls (huF.same s16) h16 (fun y => Iff.rfl) (k H16 (sF.trans s16))
end
end Sps
set_option Elab.async false
set_option linter.all false
set_option maxRecDepth 100000
set_option maxHeartbeats 4000000
/-! The law itself. -/
namespace Sps
open PySem PySem.Spec PyProof.Rows L2
abbrev sRight : Stmt := top 22
abbrev sLaw : Stmt := top 23
structure DKr (H : Hp) (d : Addr) (ks : List Int) : Prop where
  dk : DK H d ks
  rg : ∀ x ∈ ks, 0 ≤ x ∧ x < 1000000
  len : ks.length ≤ 8000000
theorem DKr.same {H H' : Hp} {d : Addr} {ks : List Int} (h : DKr H d ks) (s : Same H H') : DKr H' d ks := ⟨h.dk.same s, h.rg, h.len⟩
theorem DKr.x {n : Int} {H H' : Hp} {d l : Addr} {ks : List Int} (h : DKr H d ks) (hl : PotOk n H l) (s : SameX l H H') : DKr H' d ks := by
  obtain ⟨xs, e⟩ := hl.at_
  exact ⟨h.dk.x e s, h.rg, h.len⟩
theorem SameX.same {H H1 H' : Hp} {l : Addr} (s : Same H H1) (x : SameX l H1 H') (n : H l = none) : Same H H' := fun b o e => x b o (ne_of_none e n) (s b o e)
theorem Yes.val {te : TE} {σ : L2.St} {H : Hp} (h : ∀ Q : VK, (∀ H', Same H H' → Q (.bl true) H') → te σ H Q) : Yes (tB te) σ H := fun Q k => h _ fun H' s => ⟨true, rfl, k H' s⟩
section
variable {P : Program} {w : World} {K : PySem.W.Frag} {mg : Str → Option Value} {base : Heap}
/-- the defs that the law calls -/
structure Defs (P : Program) (w : World) (K : PySem.W.Frag) (mg : Str → Option Value) (base : Heap) (C : Addr) where
  aPl : Addr
  dPl : FuncData
  gPl : FnOk P w K mg base CX0 2 aPl dPl ["_law_couples_here"] spPlaces
  mPl : mg "_law_places" = some (.ref aPl)
  kPl : PySem.W.keepIn K (.ref aPl) = true
  bPl : Binds K dPl ["_law_couples_here"] []
  aDn : Addr
  dDn : FuncData
  gDn : FnOk P w K mg base CX0 4 aDn dDn ["_law_pot_here", "_law_most", "_law_wide"] spDrawn
  mDn : mg "_law_drawn" = some (.ref aDn)
  kDn : PySem.W.keepIn K (.ref aDn) = true
  bDn : Binds K dDn ["_law_pot_here", "_law_most", "_law_wide"] []
  aAn : Addr
  dAn : FuncData
  gAn : FnOk P w K mg base CX0 3 aAn dAn ["_law_pot_here", "_law_items"] spAny
  mAn : mg "_law_any" = some (.ref aAn)
  kAn : PySem.W.keepIn K (.ref aAn) = true
  bAn : Binds K dAn ["_law_pot_here", "_law_items"] []
  aOf : Addr
  dOf : FuncData
  gOf : FnOk P w K mg base CX0 7 aOf dOf ["_law_places_here"] (spOf C)
  mOf : mg "_law_of" = some (.ref aOf)
  kOf : PySem.W.keepIn K (.ref aOf) = true
  bOf : Binds K dOf ["_law_places_here"] []
  aTw : Addr
  dTw : FuncData
  gTw : FnOk P w K mg base CX0 8 aTw dTw ["_law_one", "_law_other", "_law_here", "_law_there"] (spTwo C)
  mTw : mg "_law_two_right" = some (.ref aTw)
  kTw : PySem.W.keepIn K (.ref aTw) = true
  bTw : Binds K dTw ["_law_one", "_law_other", "_law_here", "_law_there"] []
  aRu : Addr
  dRu : FuncData
  gRu : FnOk P w K mg base CX0 8 aRu dRu ["_law_one", "_law_other", "_law_third"] (spRules C)
  mRu : mg "_law_rules_right" = some (.ref aRu)
  kRu : PySem.W.keepIn K (.ref aRu) = true
  bRu : Binds K dRu ["_law_one", "_law_other", "_law_third"] []
def spRight : Sp := fun vs H Q _ => ∃ l : Addr, vs = [.ref l] ∧ PotOk 0 H l ∧ ∀ H', SameX l H H' → Q (.bl true) H'
theorem scRt : FnScope ["_law_pot_here", "_law_turn", "_law_again", "_law_here", "_law_there", "_law_third", "_law_one", "_law_other", "_law_last", "_law_couple"] ["_law_pot_here"] (defScope sRight) := ⟨rfl, rfl, rfl, by decide +kernel, rfl, by decide +kernel, by decide +kernel⟩
theorem ok_right {f C : Addr} {fd : FuncData} (F : Fun K "_law_right" "_law_right" sRight f fd) (T : Names mg) (B : Sps P w K mg base C) (D : Defs P w K mg base C) : FnOk P w K mg base CX0 9 f fd ["_law_pot_here"] spRight := by
  refine F.ok scRt (fun vs H Q E h => ?_) (fun cdv Ar outer s H vs Q E hr h => ?_)
  · obtain ⟨_, rfl, _⟩ := h
    rfl
  · obtain ⟨l, rfl, hp, k⟩ := h
    have h6 : Room 7 _ := hr.mono (by decide)
    have h5 : Room 6 _ := hr.mono (by decide)
    have h4 : Room 5 _ := hr.mono (by decide)
    have h3 : Room 4 _ := hr.mono (by decide)
    have h2 : Room 3 _ := hr.mono (by decide)
    have h1 : Room 2 _ := hr.mono (by decide)
    refine ⟨_, pss_cons (ps_for PassesOwn.never rfl (pi_range1 rfl T.range (pa_cons pe_int pa_nil)) (pg_name (i := 1) scRt.nd rfl (Or.inl rfl))
        (pss_cons (ps_asg (pe_lc (own := [("_law_again", 2)]) (g := gName 2) (tt := tYes) rfl scRt.nd (pi_range1 rfl T.range (pa_cons pe_int pa_nil))
            (blkOk_by (own := [("_law_again", 2)]) (N := ["_law_pot_here", "_law_turn", "_law_again", "_law_here", "_law_there", "_law_third", "_law_one", "_law_other", "_law_last", "_law_couple"]) (sc := defScope sRight) (by decide +kernel))
            (fun _ _ _ _ _ => pg_name (i := 2) scRt.nd rfl (Or.inl rfl)) (fun _ _ _ _ _ => pts_nil)
            (fun _ _ _ _ _ => pe_call D.gPl h1 rfl D.mPl D.kPl D.bPl .nil pass0 (pa_cons (pe_call D.gDn h3 rfl D.mDn D.kDn D.bDn .nil pass0 (pa_cons (pv 0) (pa_cons pe_int (pa_cons pe_int pa_nil)))) pa_nil)))
          (pg_unl rfl (pgs_cons (pg_name (i := 3) scRt.nd rfl (Or.inl rfl)) (pgs_cons (pg_name (i := 4) scRt.nd rfl (Or.inl rfl)) (pgs_cons (pg_name (i := 5) scRt.nd rfl (Or.inl rfl)) pgs_nil)))))
        (pss_cons (ps_set (i := 4) scRt.nd rfl (Or.inl rfl) (pe_call D.gAn h2 rfl D.mAn D.kAn D.bAn .nil pass0 (pa_cons (pv 0) (pa_cons (pe_lst (pa_cons (pv 4) (pa_cons (pv 4) (pa_cons
            (pe_callTy (call_dictP' rfl) (by rfl) T.dict (by decide +kernel) (pa_cons (LiI.pe_listItems rfl (pv 3) (by rfl) T.list (by decide +kernel)) pa_nil)) pa_nil)))) pa_nil))))
        (pss_cons (ps_par3 (i := 6) (j := 7) (l := 8) rfl scRt.nd rfl rfl rfl (by decide) (by decide) (by decide) rfl rfl rfl (pa_cons (pe_call D.gOf h6 rfl D.mOf D.kOf D.bOf .nil pass0 (pa_cons (pv 3) pa_nil)) (pa_cons (pe_call D.gOf h6 rfl D.mOf D.kOf D.bOf .nil pass0 (pa_cons (pv 4) pa_nil)) (pa_cons (pe_call D.gOf h6 rfl D.mOf D.kOf D.bOf .nil pass0 (pa_cons (pv 5) pa_nil)) pa_nil))) (by rfl))
        (pss_cons (ps_if (PW.pt (pw_or (pt_not (pt_val (pe_call D.gTw hr rfl D.mTw D.kTw D.bTw .nil pass0 (pa_cons (pv 6) (pa_cons (pv 7) (pa_cons (pv 3) (pa_cons (pv 4) pa_nil)))))))
            (pw_or1 (pt_not (pt_val (pe_call D.gRu hr rfl D.mRu D.kRu D.bRu .nil pass0 (pa_cons (pv 6) (pa_cons (pv 7) (pa_cons (pv 8) pa_nil))))))))) (pss_one (ps_ret pe_bl)) pss_nil)
        (pss_cons (ps_set (i := 2) scRt.nd rfl (Or.inl rfl) (pe_makeR0 B.M B.I h4 rfl B.cls.mgC pass0))
        (pss_cons (ps_for PassesOwn.never rfl (pi_tup (pe_revT (pe_fld (pv 6) rfl))) (pg_name (i := 9) scRt.nd rfl (Or.inl rfl))
            (pss_one (ps_set (i := 2) scRt.nd rfl (Or.inl rfl) (pe_op (op_or' B h5) (StX.pe_makeR B.M B.I h4 rfl B.cls.mgC pass0 (pa_cons (pv 9) pa_nil)) (pv 2)))))
        (pss_one (ps_if (pt_not (pt_cmpR (op_eq' B h5) (pv 2) (pv 6) (nomark _))) (pss_one (ps_ret pe_bl)) pss_nil)))))))))
      (pss_one (ps_ret pe_bl)), ?_⟩
    refine ⟨30, rfl, by decide, by decide, for_range (lo := 0) (n := 30) (fun i σ H' => ∃ (x1 x2 x3 x4 x5 x6 x7 x8 x9 : Option V), σ = [some (.ref l), x1, x2, x3, x4, x5, x6, x7, x8, x9] ∧ SameX l H H' ∧ PotOk (100 * i) H' l)
      ⟨_, _, _, _, _, _, _, _, _, rfl, SameX.refl H l, hp.mono (by omega)⟩ ?_ ?_⟩
    · rintro i σ H0 hi ⟨x1, x2, x3, x4, x5, x6, x7, x8, x9, rfl, sx0, hp0⟩
      have hi30 : (i : Int) < 30 := by omega
      -- three dicts of drawn positions
      refine ⟨3, rfl, by decide, by decide, fun Dl hDl => lc_range (lo := 0) (n := 3) (fun j H' => SameX l H0 H' ∧ PotOk (100 * i + 20 * j) H' l ∧ ∃ ds : List (Addr × List Int), H' Dl = some (.lst (ds.map fun p => V.ref p.1)) ∧ ds.length = j ∧ ∀ p ∈ ds, DKr H' p.1 p.2)
        ⟨Same.x (Same.upd hDl) l, (hp0.put (hp0.ne hDl)).mono (by omega), [], upd_same, rfl, fun p m => (by cases m)⟩ ?_ ?_⟩
      · rintro j H' hj ⟨sx, hpj, ds, hL, hlen, hds⟩
        have hj3 : (j : Int) < 3 := by omega
        refine ⟨rfl, ?_⟩
        refine ⟨_, rfl, l, 5, 24, _, rfl, hpj, by omega, by decide, by decide, by decide, by decide, fun H1 a ts s1 hp1 nal hA hT htl hok _ => ?_⟩
        refine ⟨a, ts, rfl, hA, hT, hok, by omega, fun H2 d ks s2 hd hin hkl => ?_⟩
        have sC : SameX l H' H2 := s1.trans (Same.x s2 l)
        have nDl : Dl ≠ l := hp0.ne hDl
        have hL2 : H2 Dl = some (.lst (ds.map fun p => V.ref p.1)) := sC _ _ nDl hL
        have hrg : ∀ x ∈ ks, 0 ≤ x ∧ x < 1000000 := fun x m => by
          obtain ⟨q, mq, hx⟩ := (hin x).mp m
          obtain ⟨o1, o2, o3⟩ := hok q mq
          obtain ⟨a1, a2⟩ := hx
          omega
        have putD : ∀ {b : Addr} {ls : List Int} {o : HO}, DKr H2 b ls → DKr (L2.upd H2 Dl o) b ls := fun {b ls o} h => ⟨⟨by rw [upd_ne (ne_of h.dk.1 hL2 (by intro z; cases z))]; exact h.dk.1, h.dk.2⟩, h.rg, h.len⟩
        refine ⟨_, hL2, ?_, (sx.trans sC).put hDl, ?_, ds ++ [(d, ks)], ?_, ?_, fun p m => ?_⟩
        · rw [List.length_map, hlen]
          exact Nat.lt_of_lt_of_le hj (by decide)
        · exact ((hp1.same s2).put nDl).mono (by omega)
        · rw [upd_same, List.map_append]; rfl
        · rw [List.length_append, hlen]; rfl
        · rcases List.mem_append.mp m with m | m
          · exact putD ((hds p m).x hpj sC)
          · rw [List.mem_singleton.mp m]
            exact putD ⟨hd, hrg, hkl⟩
      · rintro H1 ⟨sx1, hp1, ds, hL, hlen, hds⟩
        match ds, hlen, hL, hds with
        | [(d1, k1), (d2, k2), (d3, k3)], _, hL, hds =>
          have D1 : DKr H1 d1 k1 := hds (d1, k1) (List.mem_cons_self)
          have D2 : DKr H1 d2 k2 := hds (d2, k2) (List.mem_cons_of_mem _ List.mem_cons_self)
          have D3 : DKr H1 d3 k3 := hds (d3, k3) (List.mem_cons_of_mem _ (List.mem_cons_of_mem _ List.mem_cons_self))
          refine ⟨Dl, _, rfl, SqL.of hL, rfl, _, _, rfl, _, _, rfl, _, _, rfl, rfl, ?_⟩
          -- the second one may be a copy of the first one
          refine ⟨_, rfl, _, rfl, _, rfl, _, rfl, items_read D1.dk fun H2 p2 t2 s2 hp2' hT2 e2 => ?_⟩
          change tNil _ _ _
          refine nil_r ?_
          change rDictP _ _ _ _
          refine dict_read hp2' hT2 fun H3 dc s3 hdc => ?_
          have s13 : Same H1 H3 := s2.trans s3
          have Dc : DKr H3 dc (addAll [] (t2.map (·.2))) := by
            have mm : ∀ x, x ∈ addAll [] (t2.map (·.2)) → x ∈ k1 := fun x m => by
              rw [mem_addAll, e2] at m
              exact m.elim (fun z => by cases z) id
            exact ⟨hdc, fun x m => D1.rg x (mm x m), Nat.le_trans (sub_len hdc.2 mm) D1.len⟩
          refine ⟨(by show 3 ≤ sizeLine; decide), fun L hL3 => ?_⟩
          have hp3 : PotOk (100 * i + 60) H3 l := (hp1.same s13).mono (by omega)
          have nL : L ≠ l := hp3.ne hL3
          refine ⟨l, L, _, 100 * i + 60, rfl, hp3.put nL, by omega, nL, upd_same, (by show 0 < 3; decide), (by show 3 < 1000; decide), fun H4 x sx4 hp4 hx => ?_⟩
          have sx14 : SameX l H1 H4 := (Same.x (Same.upd' s13 hL3) l).trans sx4
          obtain ⟨d, ks, rfl, Dd⟩ : ∃ d ks, x = V.ref d ∧ DKr H4 d ks := by
            rcases List.mem_cons.mp hx with e | hx
            · exact ⟨d2, k2, e, D2.x hp1 sx14⟩
            rcases List.mem_cons.mp hx with e | hx
            · exact ⟨d2, k2, e, D2.x hp1 sx14⟩
            rcases List.mem_cons.mp hx with e | hx
            · exact ⟨dc, _, e, (Dc.same (Same.upd hL3)).x (hp3.put nL) sx4⟩
            cases hx
          have D14 : DKr H4 d1 k1 := D1.x hp1 sx14
          have D34 : DKr H4 d3 k3 := D3.x hp1 sx14
          have sx4' : SameX l H0 H4 := sx1.trans sx14
          -- their spans
          refine ⟨_, rfl, d1, k1, rfl, D14.dk, D14.rg, fun H5 u s5 hu => ?_⟩
          refine ⟨_, rfl, d, ks, rfl, (Dd.same s5).dk, Dd.rg, fun H6 v s6 hv => ?_⟩
          refine ⟨_, rfl, d3, k3, rfl, (D34.same (s5.trans s6)).dk, D34.rg, fun H7 z s7 hz => ?_⟩
          refine ⟨u, v, z, rfl, ?_⟩
          have s47 : Same H4 H7 := (s5.trans s6).trans s7
          have hu7 := hu.same (s6.trans s7)
          have hv7 := hv.same s7
          dsimp only
          refine seq_if (No.ifs (No.or (Yes.not (Yes.val fun W q => ?_)) fun H8 s8 => Yes.not (Yes.val fun W q => ?_)) fun H9 s9 => ?_)
          · exact ⟨_, rfl, _, rfl, _, rfl, _, rfl, u, v, d1, d, k1, ks, rfl, hu7, hv7, (D14.same s47).dk, (Dd.same s47).dk, D14.len, Dd.len, q⟩
          · exact ⟨_, rfl, _, rfl, _, rfl, _, _, _, u, v, z, rfl, hu7.same s8, hv7.same s8, hz.same s8, q⟩
          · have hu9 := hu7.same s9
            refine seq_set (make0_read (C := C) (E := E0) fun H10 a0 s10 ha0 => ?_)
            obtain ⟨xu, mu, eu, ⟨du, tu, hxu, ⟨ts, hAu, hTu, ePu⟩⟩, nu, iu⟩ := id (hu9.same s10)
            subst eu
            refine ⟨_, rfl, xu, C, du, _, _, rfl, hxu, B.cls.cl, B.cls.nP, look_pairs _, tu, _, rfl, tupAt hAu, fun pr hpr => ?_⟩
            have s11 : Same H10 (L2.upd H10 pr (.tup (ts.map rf).reverse)) := Same.upd hpr
            refine ⟨pr, rfl, ⟨_, tupAt upd_same⟩, for_tup (K := K) (a := pr) (xs := (ts.map rf).reverse) (fun j σ H' => ∃ (a : V) (y9 : Option V), σ = [some (.ref l), some (.int (0 + i)), some a, some (.ref d1), some (.ref d), some (.ref d3), some (.ref xu), some v, some z, y9] ∧ Same (L2.upd H10 pr (.tup (ts.map rf).reverse)) H' ∧ IsSp C (fun y => inS y (prs (ts.reverse.take j))) a H')
              ⟨a0, _, rfl, Same.refl _, ha0.same s11⟩ (fun j σ H' _ ⟨_, _, _, sH, _⟩ => tupAt (sH _ _ upd_same)) ?_ ?_⟩
            · rintro j y σ H' hj ⟨a, y9, rfl, sH, ha⟩
              rw [← List.map_reverse, List.getElem?_map] at hj
              obtain ⟨t, ht, e⟩ : ∃ t, ts.reverse[j]? = some t ∧ rf t = y := by
                cases e : ts.reverse[j]? with
                | none => rw [e] at hj; cases hj
                | some t => rw [e] at hj; exact ⟨t, rfl, Option.some.inj hj⟩
              subst e
              have mt : t ∈ ts := List.mem_reverse.mp (List.mem_of_getElem? ht)
              have ht2 := (hTu.same s11).same sH t mt
              refine asg_set ?_
              refine Ev.bin (Ev.make1 (p := t.2) (fun R h => ?_) (nu.ok _ (by rw [← ePu]; exact prs_mem mt))) (fun H3 s3 => Ev.var (i := 2) rfl (ha.same s3)) _ fun H12 a2 s12 h12 => ⟨a2, _, rfl, sH.trans s12, h12.iff fun y => ?_⟩
              · exact ⟨_, rfl, h t.1 _ (Same.refl _) ht2⟩
              · rw [take_snoc ht, prs_app, inS_append]
                show inP y t.2 ∨ _ ↔ _ ∨ inS y [t.2]
                rw [inS_one, or_comm]
            · rintro σ H' ⟨a, y9, rfl, sH, ha⟩
              have sE : Same H9 H' := (s10.trans s11).trans sH
              refine No.ifs (Yes.not (Ev.eq B.cls (Ev.var (i := 2) rfl ha) (fun H2 s2 => Ev.var (i := 6) rfl ((hu9.same sE).same s2)) fun y => ?_)) fun H11 s11' => ?_
              · rw [← List.map_reverse, List.length_map, take_all]
                have iu' : inS y (prs ts) ↔ y ∈ k1 := by rw [ePu]; exact iu y
                refine Iff.trans (inS_mem fun p => ?_) iu'
                exact by
                  unfold prs
                  rw [List.mem_map, List.mem_map]
                  exact ⟨fun ⟨t, m, e⟩ => ⟨t, List.mem_reverse.mp m, e⟩, fun ⟨t, m, e⟩ => ⟨t, List.mem_reverse.mpr m, e⟩⟩
              · have sF : Same H4 H11 := ((s47.trans s9).trans sE).trans s11'
                exact ⟨_, _, _, _, _, _, _, _, _, rfl, (sx0.trans sx4').trans (Same.x sF l), (hp4.same sF).mono (by omega)⟩
    · rintro σ H' ⟨x1, x2, x3, x4, x5, x6, x7, x8, x9, rfl, sx, hp'⟩
      exact k H' sx

def spLaw (K : PySem.W.Frag) : Sp := fun vs H Q _ => ∃ (a : Addr) (ns : List Int), vs = [.ref a] ∧ SqL K H a (ns.map V.int) ∧ ns.length ≤ 63 ∧ ∀ H', Q (.bl true) H'
theorem scLw : FnScope ["_law_script", "_law_k"] ["_law_script"] (defScope sLaw) := ⟨rfl, rfl, rfl, by decide +kernel, rfl, by decide +kernel, by decide +kernel⟩
theorem ok_law {f g gP : Addr} {fd fdG fdP : FuncData} (F : Fun K "law" "law" sLaw f fd) (T : Names mg) (G : FnOk P w K mg base CX0 9 g fdG ["_law_pot_here"] spRight) (mgG : mg "_law_right" = some (.ref g)) (kG : PySem.W.keepIn K (.ref g) = true) (bG : Binds K fdG ["_law_pot_here"] [])
    (O : FnOk P w K mg base CX0 2 gP fdP ["_law_script", "_law_k"] (spPot K)) (mgO : mg "_law_pot" = some (.ref gP)) (kO : PySem.W.keepIn K (.ref gP) = true) (bO : Binds K fdP ["_law_script", "_law_k"] []) :
    FnOk P w K mg base CX0 10 f fd ["_law_script"] (spLaw K) := by
  refine F.ok scLw (fun vs H Q E h => ?_) (fun cdv Ar outer s H vs Q E hr h => ?_)
  · obtain ⟨_, _, rfl, _⟩ := h
    rfl
  · obtain ⟨a, ns, rfl, ha, hlen, k⟩ := h
    have h1 : Room 2 _ := hr.mono (by decide)
    refine ⟨_, pss_cons (ps_for PassesOwn.never rfl (pi_range1 rfl T.range (pa_cons (pe_callB (call_max2 rfl) (by rfl) T.max (by decide +kernel) (pa_cons pe_int (pa_cons (pe_callB (call_min2 rfl) (by rfl) T.min (by decide +kernel)
          (pa_cons pe_int (pa_cons (pe_callB call_len_seq (by rfl) T.len PySem.boot_len (pa_cons (pv 0) pa_nil)) pa_nil))) pa_nil))) pa_nil)) (pg_name (i := 1) scLw.nd rfl (Or.inl rfl))
        (pss_one (ps_if (pt_not (pt_val (pe_call G hr rfl mgG kG bG .nil pass0 (pa_cons (pe_call O h1 rfl mgO kO bO .nil pass0 (pa_cons (pv 0) (pa_cons (pv 1) pa_nil))) pa_nil)))) (pss_one (ps_ret pe_bl)) pss_nil)))
      (pss_one (ps_ret pe_bl)), ?_⟩
    refine ⟨_, rfl, _, _, rfl, .inl ha, _, _, rfl, _, _, rfl, ?_⟩
    generalize hm : (if (if (((ns.map V.int).length : Nat) : Int) < 3 then (((ns.map V.int).length : Nat) : Int) else 3) > 1 then (if (((ns.map V.int).length : Nat) : Int) < 3 then (((ns.map V.int).length : Nat) : Int) else 3) else 1) = m
    have m0 : 1 ≤ m ∧ m ≤ 3 := by
      rw [← hm]
      split <;> split <;> omega
    refine ⟨m, rfl, by omega, by omega, for_range (lo := 0) (n := m.toNat) (fun i σ H' => ∃ x1 : Option V, σ = [some (.ref a), x1] ∧ Same H H') ⟨none, rfl, Same.refl H⟩ ?_ ?_⟩
    · rintro i σ H0 hi ⟨x1, rfl, s0⟩
      refine No.ifs (Yes.not (Yes.val fun W q => ?_)) fun H2 s2 => ⟨_, rfl, s0.trans s2⟩
      refine ⟨_, rfl, _, rfl, a, ns, 0 + (i : Int), rfl, s0.seq ha, by omega, by omega, fun H1 l s1 hl hp => ⟨l, rfl, hp, fun H2 sx => q H2 (SameX.same s1 sx hl)⟩⟩
    · rintro σ H' ⟨x1, rfl, s0⟩
      exact k H'
end
end Sps
set_option Elab.async false
set_option linter.all false
set_option maxRecDepth 100000
set_option maxHeartbeats 4000000
/-! What the top has left, and the end. -/
namespace Sps
open PySem PySem.Spec PyProof.Rows L2
theorem all_mk {l : PySem.W.OpenLaw} {w : World} {K : PySem.W.Frag} {h : Heap} {mg : Str → Option Value} {fa C f1 f2 f3 f4 f5 f6 f7 f8 f9 f10 f11 f12 f13 f14 f15 f16 m1 m2 m3 m4 m5 m6 : Addr} (X : K.In h) (G : h.Ns mainGlobals mg) (hfa : mg "law" = some (.ref fa)) {tE : Tok}
    {odf1 anf1 odf2 anf2 odf3 anf3 odf4 anf4 odf5 anf5 odf6 anf6 odf7 anf7 odf8 anf8 odf9 anf9 odf10 anf10 odf11 anf11 odf12 anf12 odf13 anf13 odf14 anf14 odf15 anf15 odf16 anf16 odm1 anm1 odm2 anm2 odm3 anm3 odm4 anm4 odm5 anm5 odm6 anm6 : Option Addr}
    {slf1 slf2 slf3 slf4 slf5 slf6 slf7 slf8 slf9 slf10 slf11 slf12 slf13 slf14 slf15 slf16 slm1 slm2 slm3 slm4 slm5 slm6 : Array (Option Value)}
    {ocf1 kVf1 dcf1 pmf1 cdf1 ctf1 ocf2 kVf2 dcf2 pmf2 cdf2 ctf2 ocf3 kVf3 dcf3 pmf3 cdf3 ctf3 ocf4 kVf4 dcf4 pmf4 cdf4 ctf4 ocf5 kVf5 dcf5 pmf5 cdf5 ctf5 ocf6 kVf6 dcf6 pmf6 cdf6 ctf6 ocf7 kVf7 dcf7 pmf7 cdf7 ctf7 ocf8 kVf8 dcf8 pmf8 cdf8 ctf8 ocf9 kVf9 dcf9 pmf9 cdf9 ctf9 ocf10 kVf10 dcf10 pmf10 cdf10 ctf10 ocf11 kVf11 dcf11 pmf11 cdf11 ctf11 ocf12 kVf12 dcf12 pmf12 cdf12 ctf12 ocf13 kVf13 dcf13 pmf13 cdf13 ctf13 ocf14 kVf14 dcf14 pmf14 cdf14 ctf14 ocf15 kVf15 dcf15 pmf15 cdf15 ctf15 ocf16 kVf16 dcf16 pmf16 cdf16 ctf16 ocm1 kVm1 dcm1 pmm1 cdm1 ctm1 ocm2 kVm2 dcm2 pmm2 cdm2 ctm2 ocm3 kVm3 dcm3 pmm3 cdm3 ctm3 ocm4 kVm4 dcm4 pmm4 cdm4 ctm4 ocm5 kVm5 dcm5 pmm5 cdm5 ctm5 ocm6 kVm6 dcm6 pmm6 cdm6 ctm6 : Value}
    (aC : PySem.W.nsIn K mainGlobals "Spans" = some (some (.ref C)))
    (af1 : PySem.W.nsIn K mainGlobals "is_whole_number" = some (some (.ref f1)))
    (lf1 : K.lookup f1 = some ⟨ocf1, odf1, .func (PySem.W.fnOf "is_whole_number" "is_whole_number" (defArgs sWhole) (defBody sWhole) (defScope sWhole) .none kVf1 dcf1 pmf1 anf1 cdf1 ctf1), slf1⟩)
    (cf1 : PySem.W.codeIn K cdf1 "is_whole_number" = true)
    (kf1 : PySem.W.keepIn K (.ref f1) = true)
    (af2 : PySem.W.nsIn K mainGlobals "is_within" = some (some (.ref f2)))
    (lf2 : K.lookup f2 = some ⟨ocf2, odf2, .func (PySem.W.fnOf "is_within" "is_within" (defArgs sWithin) (defBody sWithin) (defScope sWithin) .none kVf2 dcf2 pmf2 anf2 cdf2 ctf2), slf2⟩)
    (cf2 : PySem.W.codeIn K cdf2 "is_within" = true)
    (kf2 : PySem.W.keepIn K (.ref f2) = true)
    (af3 : PySem.W.nsIn K mainGlobals "_is_pair" = some (some (.ref f3)))
    (lf3 : K.lookup f3 = some ⟨ocf3, odf3, .func (PySem.W.fnOf "_is_pair" "_is_pair" (defArgs sIsPair) (defBody sIsPair) (defScope sIsPair) .none kVf3 dcf3 pmf3 anf3 cdf3 ctf3), slf3⟩)
    (cf3 : PySem.W.codeIn K cdf3 "_is_pair" = true)
    (kf3 : PySem.W.keepIn K (.ref f3) = true)
    (af4 : PySem.W.nsIn K mainGlobals "_merged" = some (some (.ref f4)))
    (lf4 : K.lookup f4 = some ⟨ocf4, odf4, .func (PySem.W.fnOf "_merged" "_merged" (defArgs sMerged) (defBody sMerged) (defScope sMerged) .none kVf4 dcf4 pmf4 anf4 cdf4 ctf4), slf4⟩)
    (cf4 : PySem.W.codeIn K cdf4 "_merged" = true)
    (kf4 : PySem.W.keepIn K (.ref f4) = true)
    (af5 : PySem.W.nsIn K mainGlobals "_gaps" = some (some (.ref f5)))
    (lf5 : K.lookup f5 = some ⟨ocf5, odf5, .func (PySem.W.fnOf "_gaps" "_gaps" (defArgs sGaps) (defBody sGaps) (defScope sGaps) .none kVf5 dcf5 pmf5 anf5 cdf5 ctf5), slf5⟩)
    (cf5 : PySem.W.codeIn K cdf5 "_gaps" = true)
    (kf5 : PySem.W.keepIn K (.ref f5) = true)
    (af6 : PySem.W.nsIn K mainGlobals "_law_pot" = some (some (.ref f6)))
    (lf6 : K.lookup f6 = some ⟨ocf6, odf6, .func (PySem.W.fnOf "_law_pot" "_law_pot" (defArgs sPot) (defBody sPot) (defScope sPot) .none kVf6 dcf6 pmf6 anf6 cdf6 ctf6), slf6⟩)
    (cf6 : PySem.W.codeIn K cdf6 "_law_pot" = true)
    (kf6 : PySem.W.keepIn K (.ref f6) = true)
    (af7 : PySem.W.nsIn K mainGlobals "_law_draw" = some (some (.ref f7)))
    (lf7 : K.lookup f7 = some ⟨ocf7, odf7, .func (PySem.W.fnOf "_law_draw" "_law_draw" (defArgs sDraw) (defBody sDraw) (defScope sDraw) .none kVf7 dcf7 pmf7 anf7 cdf7 ctf7), slf7⟩)
    (cf7 : PySem.W.codeIn K cdf7 "_law_draw" = true)
    (kf7 : PySem.W.keepIn K (.ref f7) = true)
    (af8 : PySem.W.nsIn K mainGlobals "_law_any" = some (some (.ref f8)))
    (lf8 : K.lookup f8 = some ⟨ocf8, odf8, .func (PySem.W.fnOf "_law_any" "_law_any" (defArgs sAny) (defBody sAny) (defScope sAny) .none kVf8 dcf8 pmf8 anf8 cdf8 ctf8), slf8⟩)
    (cf8 : PySem.W.codeIn K cdf8 "_law_any" = true)
    (kf8 : PySem.W.keepIn K (.ref f8) = true)
    (af9 : PySem.W.nsIn K mainGlobals "_law_places" = some (some (.ref f9)))
    (lf9 : K.lookup f9 = some ⟨ocf9, odf9, .func (PySem.W.fnOf "_law_places" "_law_places" (defArgs sPlaces) (defBody sPlaces) (defScope sPlaces) .none kVf9 dcf9 pmf9 anf9 cdf9 ctf9), slf9⟩)
    (cf9 : PySem.W.codeIn K cdf9 "_law_places" = true)
    (kf9 : PySem.W.keepIn K (.ref f9) = true)
    (af10 : PySem.W.nsIn K mainGlobals "_law_couples" = some (some (.ref f10)))
    (lf10 : K.lookup f10 = some ⟨ocf10, odf10, .func (PySem.W.fnOf "_law_couples" "_law_couples" (defArgs sCouples) (defBody sCouples) (defScope sCouples) .none kVf10 dcf10 pmf10 anf10 cdf10 ctf10), slf10⟩)
    (cf10 : PySem.W.codeIn K cdf10 "_law_couples" = true)
    (kf10 : PySem.W.keepIn K (.ref f10) = true)
    (af11 : PySem.W.nsIn K mainGlobals "_law_drawn" = some (some (.ref f11)))
    (lf11 : K.lookup f11 = some ⟨ocf11, odf11, .func (PySem.W.fnOf "_law_drawn" "_law_drawn" (defArgs sDrawn) (defBody sDrawn) (defScope sDrawn) .none kVf11 dcf11 pmf11 anf11 cdf11 ctf11), slf11⟩)
    (cf11 : PySem.W.codeIn K cdf11 "_law_drawn" = true)
    (kf11 : PySem.W.keepIn K (.ref f11) = true)
    (af12 : PySem.W.nsIn K mainGlobals "_law_of" = some (some (.ref f12)))
    (lf12 : K.lookup f12 = some ⟨ocf12, odf12, .func (PySem.W.fnOf "_law_of" "_law_of" (defArgs sOf) (defBody sOf) (defScope sOf) .none kVf12 dcf12 pmf12 anf12 cdf12 ctf12), slf12⟩)
    (cf12 : PySem.W.codeIn K cdf12 "_law_of" = true)
    (kf12 : PySem.W.keepIn K (.ref f12) = true)
    (af13 : PySem.W.nsIn K mainGlobals "_law_two_right" = some (some (.ref f13)))
    (lf13 : K.lookup f13 = some ⟨ocf13, odf13, .func (PySem.W.fnOf "_law_two_right" "_law_two_right" (defArgs sTwo) (defBody sTwo) (defScope sTwo) .none kVf13 dcf13 pmf13 anf13 cdf13 ctf13), slf13⟩)
    (cf13 : PySem.W.codeIn K cdf13 "_law_two_right" = true)
    (kf13 : PySem.W.keepIn K (.ref f13) = true)
    (af14 : PySem.W.nsIn K mainGlobals "_law_rules_right" = some (some (.ref f14)))
    (lf14 : K.lookup f14 = some ⟨ocf14, odf14, .func (PySem.W.fnOf "_law_rules_right" "_law_rules_right" (defArgs sRules) (defBody sRules) (defScope sRules) .none kVf14 dcf14 pmf14 anf14 cdf14 ctf14), slf14⟩)
    (cf14 : PySem.W.codeIn K cdf14 "_law_rules_right" = true)
    (kf14 : PySem.W.keepIn K (.ref f14) = true)
    (af15 : PySem.W.nsIn K mainGlobals "_law_right" = some (some (.ref f15)))
    (lf15 : K.lookup f15 = some ⟨ocf15, odf15, .func (PySem.W.fnOf "_law_right" "_law_right" (defArgs sRight) (defBody sRight) (defScope sRight) .none kVf15 dcf15 pmf15 anf15 cdf15 ctf15), slf15⟩)
    (cf15 : PySem.W.codeIn K cdf15 "_law_right" = true)
    (kf15 : PySem.W.keepIn K (.ref f15) = true)
    (af16 : PySem.W.nsIn K mainGlobals "law" = some (some (.ref f16)))
    (lf16 : K.lookup f16 = some ⟨ocf16, odf16, .func (PySem.W.fnOf "law" "law" (defArgs sLaw) (defBody sLaw) (defScope sLaw) .none kVf16 dcf16 pmf16 anf16 cdf16 ctf16), slf16⟩)
    (cf16 : PySem.W.codeIn K cdf16 "law" = true)
    (kf16 : PySem.W.keepIn K (.ref f16) = true)
    (am1 : PySem.W.findIn K (.ref C) "__init__" = some (some (.ref m1)))
    (im1 : PySem.W.isFn K (.ref m1) = true)
    (lm1 : K.lookup m1 = some ⟨ocm1, odm1, .func (PySem.W.fnOf "__init__" "Spans.__init__" (defArgs sInit) (defBody sInit) (defScope sInit) .none kVm1 dcm1 pmm1 anm1 cdm1 ctm1), slm1⟩)
    (cm1 : PySem.W.codeIn K cdm1 "Spans.__init__" = true)
    (km1 : PySem.W.keepIn K (.ref m1) = true)
    (am2 : PySem.W.findIn K (.ref C) "__and__" = some (some (.ref m2)))
    (im2 : PySem.W.isFn K (.ref m2) = true)
    (lm2 : K.lookup m2 = some ⟨ocm2, odm2, .func (PySem.W.fnOf "__and__" "Spans.__and__" (defArgs sAnd) (defBody sAnd) (defScope sAnd) .none kVm2 dcm2 pmm2 anm2 cdm2 ctm2), slm2⟩)
    (cm2 : PySem.W.codeIn K cdm2 "Spans.__and__" = true)
    (km2 : PySem.W.keepIn K (.ref m2) = true)
    (am3 : PySem.W.findIn K (.ref C) "__or__" = some (some (.ref m3)))
    (im3 : PySem.W.isFn K (.ref m3) = true)
    (lm3 : K.lookup m3 = some ⟨ocm3, odm3, .func (PySem.W.fnOf "__or__" "Spans.__or__" (defArgs sOr) (defBody sOr) (defScope sOr) .none kVm3 dcm3 pmm3 anm3 cdm3 ctm3), slm3⟩)
    (cm3 : PySem.W.codeIn K cdm3 "Spans.__or__" = true)
    (km3 : PySem.W.keepIn K (.ref m3) = true)
    (am4 : PySem.W.findIn K (.ref C) "__sub__" = some (some (.ref m4)))
    (im4 : PySem.W.isFn K (.ref m4) = true)
    (lm4 : K.lookup m4 = some ⟨ocm4, odm4, .func (PySem.W.fnOf "__sub__" "Spans.__sub__" (defArgs sSub) (defBody sSub) (defScope sSub) .none kVm4 dcm4 pmm4 anm4 cdm4 ctm4), slm4⟩)
    (cm4 : PySem.W.codeIn K cdm4 "Spans.__sub__" = true)
    (km4 : PySem.W.keepIn K (.ref m4) = true)
    (am5 : PySem.W.findIn K (.ref C) "__len__" = some (some (.ref m5)))
    (im5 : PySem.W.isFn K (.ref m5) = true)
    (lm5 : K.lookup m5 = some ⟨ocm5, odm5, .func (PySem.W.fnOf "__len__" "Spans.__len__" (defArgs sLen) (defBody sLen) (defScope sLen) .none kVm5 dcm5 pmm5 anm5 cdm5 ctm5), slm5⟩)
    (cm5 : PySem.W.codeIn K cdm5 "Spans.__len__" = true)
    (km5 : PySem.W.keepIn K (.ref m5) = true)
    (am6 : PySem.W.findIn K (.ref C) "__eq__" = some (some (.ref m6)))
    (im6 : PySem.W.isFn K (.ref m6) = true)
    (lm6 : K.lookup m6 = some ⟨ocm6, odm6, .func (PySem.W.fnOf "__eq__" "Spans.__eq__" (defArgs sEq) (defBody sEq) (defScope sEq) .none kVm6 dcm6 pmm6 anm6 cdm6 ctm6), slm6⟩)
    (cm6 : PySem.W.codeIn K cdm6 "Spans.__eq__" = true)
    (km6 : PySem.W.keepIn K (.ref m6) = true)
    (pg : PySem.W.plainGet K C Str.empty = true)
    (hd : PySem.W.hasDictIn K C = true)
    (po : PySem.W.plainOver K C = true)
    (sa : PySem.W.findIn K (.ref C) "__setattr__" = some (some (.builtin "object.__setattr__")))
    (mk : PySem.W.makesIn K C = true)
    (kc : PySem.W.keepIn K (.ref C) = true)
    (nP : PySem.W.findIn K (.ref C) "pairs" = some none)
    (sf : PySem.W.selfFirst K C = true)
    (nfC : PySem.W.notFirst K C (.ref C) = true)
    (nfT : PySem.W.notFirst K C (.type "tuple") = true)
    (nfI : PySem.W.notFirst K C (.type "int") = true)
    (kCC : PySem.W.kitOne K (.ref C) (.ref C) = some true)
    (kTC : PySem.W.kitOne K (.type "tuple") (.ref C) = some false)
    (kIC : PySem.W.kitOne K (.type "int") (.ref C) = some false)
    (ca : PySem.W.findIn K (.ref C) "__class__" = some (some (.builtin "object.__class__")))
    (cn : PySem.W.specialIn K (.builtin "object.__class__") "__get__" = some (some (.builtin "getset_descriptor.__get__")))
    (ct_ : PySem.W.takesIn K (.builtin "object.__class__") = some true)
    (cm : PySem.W.mroIn K C (.type "object") = some true)
    (z_isinstance : PySem.W.nsIn K mainGlobals "isinstance" = some none)
    (z_bool : PySem.W.nsIn K mainGlobals "bool" = some none)
    (z_int : PySem.W.nsIn K mainGlobals "int" = some none)
    (z_tuple : PySem.W.nsIn K mainGlobals "tuple" = some none)
    (z_len : PySem.W.nsIn K mainGlobals "len" = some none)
    (z_sorted : PySem.W.nsIn K mainGlobals "sorted" = some none)
    (z_max : PySem.W.nsIn K mainGlobals "max" = some none)
    (z_min : PySem.W.nsIn K mainGlobals "min" = some none)
    (z_all : PySem.W.nsIn K mainGlobals "all" = some none)
    (z_any : PySem.W.nsIn K mainGlobals "any" = some none)
    (z_range : PySem.W.nsIn K mainGlobals "range" = some none)
    (z_sum : PySem.W.nsIn K mainGlobals "sum" = some none)
    (z_abs : PySem.W.nsIn K mainGlobals "abs" = some none)
    (z_dict : PySem.W.nsIn K mainGlobals "dict" = some none)
    (z_list : PySem.W.nsIn K mainGlobals "list" = some none)
    (zE : PySem.W.nsIn K mainGlobals "END" = some (some (.int 1000000 tE)))
    : ∃ fd : FuncData, (∀ (s : Shared) (v : Value), BindsTo s fd ⟨[v], []⟩ [("_law_script", v)]) ∧ ∀ base : Heap, K.In base → base.Ns mainGlobals mg → FnOk l.prog w K mg base CX0 10 fa fd ["_law_script"] (spLaw K) := by
  have e := hfa.symm.trans (PySem.W.mg_of X G af16)
  cases e
  have T : Names mg := ⟨PySem.W.mg_none_of X G z_isinstance, PySem.W.mg_none_of X G z_bool, PySem.W.mg_none_of X G z_int, PySem.W.mg_none_of X G z_tuple, PySem.W.mg_none_of X G z_len, PySem.W.mg_none_of X G z_sorted, PySem.W.mg_none_of X G z_max, PySem.W.mg_none_of X G z_min, PySem.W.mg_none_of X G z_all, PySem.W.mg_none_of X G z_any, PySem.W.mg_none_of X G z_range, PySem.W.mg_none_of X G z_sum, PySem.W.mg_none_of X G z_abs, PySem.W.mg_none_of X G z_dict, PySem.W.mg_none_of X G z_list, ⟨tE, PySem.W.mg_of X G zE⟩⟩
  have S : SpCls K mg C := ⟨⟨pg, hd, po, sa⟩, nP, PySem.W.mg_of X G aC, sf, nfC, nfT, nfI, kCC, kTC, kIC, ca, cn, ct_, cm⟩
  have Ff1 := fun_mk (st := sWhole) lf1 cf1 kf1
  have Ff2 := fun_mk (st := sWithin) lf2 cf2 kf2
  have Ff3 := fun_mk (st := sIsPair) lf3 cf3 kf3
  have Ff4 := fun_mk (st := sMerged) lf4 cf4 kf4
  have Ff5 := fun_mk (st := sGaps) lf5 cf5 kf5
  have Ff6 := fun_mk (st := sPot) lf6 cf6 kf6
  have Ff7 := fun_mk (st := sDraw) lf7 cf7 kf7
  have Ff8 := fun_mk (st := sAny) lf8 cf8 kf8
  have Ff9 := fun_mk (st := sPlaces) lf9 cf9 kf9
  have Ff10 := fun_mk (st := sCouples) lf10 cf10 kf10
  have Ff11 := fun_mk (st := sDrawn) lf11 cf11 kf11
  have Ff12 := fun_mk (st := sOf) lf12 cf12 kf12
  have Ff13 := fun_mk (st := sTwo) lf13 cf13 kf13
  have Ff14 := fun_mk (st := sRules) lf14 cf14 kf14
  have Ff15 := fun_mk (st := sRight) lf15 cf15 kf15
  have Ff16 := fun_mk (st := sLaw) lf16 cf16 kf16
  have Fm1 := fun_mk (st := sInit) lm1 cm1 km1
  have Fm2 := fun_mk (st := sAnd) lm2 cm2 km2
  have Fm3 := fun_mk (st := sOr) lm3 cm3 km3
  have Fm4 := fun_mk (st := sSub) lm4 cm4 km4
  have Fm5 := fun_mk (st := sLen) lm5 cm5 km5
  have Fm6 := fun_mk (st := sEq) lm6 cm6 km6
  have bf1 := Ff1.binds (ps := ["value"]) fun _ _ _ _ _ _ us hl => match us, hl with | [_], _ => rfl
  have bf2 := Ff2.binds (ps := ["value", "least", "most"]) fun _ _ _ _ _ _ us hl => match us, hl with | [_, _, _], _ => rfl
  have bf3 := Ff3.binds (ps := ["value"]) fun _ _ _ _ _ _ us hl => match us, hl with | [_], _ => rfl
  have bf4 := Ff4.binds (ps := ["pairs"]) fun _ _ _ _ _ _ us hl => match us, hl with | [_], _ => rfl
  have bf5 := Ff5.binds (ps := ["pairs"]) fun _ _ _ _ _ _ us hl => match us, hl with | [_], _ => rfl
  have bf6 := Ff6.binds (ps := ["_law_script", "_law_k"]) fun _ _ _ _ _ _ us hl => match us, hl with | [_, _], _ => rfl
  have bf7 := Ff7.binds (ps := ["_law_pot_here", "_law_many"]) fun _ _ _ _ _ _ us hl => match us, hl with | [_, _], _ => rfl
  have bf8 := Ff8.binds (ps := ["_law_pot_here", "_law_items"]) fun _ _ _ _ _ _ us hl => match us, hl with | [_, _], _ => rfl
  have bf9 := Ff9.binds (ps := ["_law_couples_here"]) fun _ _ _ _ _ _ us hl => match us, hl with | [_], _ => rfl
  have bf10 := Ff10.binds (ps := ["_law_places_here"]) fun _ _ _ _ _ _ us hl => match us, hl with | [_], _ => rfl
  have bf11 := Ff11.binds (ps := ["_law_pot_here", "_law_most", "_law_wide"]) fun _ _ _ _ _ _ us hl => match us, hl with | [_, _, _], _ => rfl
  have bf12 := Ff12.binds (ps := ["_law_places_here"]) fun _ _ _ _ _ _ us hl => match us, hl with | [_], _ => rfl
  have bf13 := Ff13.binds (ps := ["_law_one", "_law_other", "_law_here", "_law_there"]) fun _ _ _ _ _ _ us hl => match us, hl with | [_, _, _, _], _ => rfl
  have bf14 := Ff14.binds (ps := ["_law_one", "_law_other", "_law_third"]) fun _ _ _ _ _ _ us hl => match us, hl with | [_, _, _], _ => rfl
  have bf15 := Ff15.binds (ps := ["_law_pot_here"]) fun _ _ _ _ _ _ us hl => match us, hl with | [_], _ => rfl
  have bf16 := Ff16.binds (ps := ["_law_script"]) fun _ _ _ _ _ _ us hl => match us, hl with | [_], _ => rfl
  have bm2 := Fm2.binds (ps := ["self", "other"]) fun _ _ _ _ _ _ us hl => match us, hl with | [_, _], _ => rfl
  have bm3 := Fm3.binds (ps := ["self", "other"]) fun _ _ _ _ _ _ us hl => match us, hl with | [_, _], _ => rfl
  have bm4 := Fm4.binds (ps := ["self", "other"]) fun _ _ _ _ _ _ us hl => match us, hl with | [_, _], _ => rfl
  have bm5 := Fm5.binds (ps := ["self"]) fun _ _ _ _ _ _ us hl => match us, hl with | [_], _ => rfl
  have bm6 := Fm6.binds (ps := ["self", "other"]) fun _ _ _ _ _ _ us hl => match us, hl with | [_, _], _ => rfl
  refine ⟨PySem.W.fnOf "law" "law" (defArgs sLaw) (defBody sLaw) (defScope sLaw) .none kVf16 dcf16 pmf16 anf16 cdf16 ctf16, fun s v => .of_eq rfl, fun base _ _ => ?_⟩
  have gWh := ok_whole (P := l.prog) (w := w) (mg := mg) (base := base) Ff1 T
  have gW := ok_within Ff2 gWh (PySem.W.mg_of X G af1) kf1 bf1
  have gP := ok_isPair Ff3 T gW (PySem.W.mg_of X G af2) kf2 bf2
  have gM := ok_merged (P := l.prog) (w := w) (mg := mg) (base := base) Ff4 T
  have gG := ok_gaps (P := l.prog) (w := w) (mg := mg) (base := base) Ff5 T
  have M : Mk K C m1 := ⟨mk, am1, im1, kc⟩
  have gI := ok_init Fm1 T S gP (PySem.W.mg_of X G af3) kf3 bf3 gM (PySem.W.mg_of X G af4) kf4 bf4
  have A : Has l.prog w K mg base C := ⟨_, M, gI, _, _, gM, (PySem.W.mg_of X G af4), kf4, bf4, _, _, gG, (PySem.W.mg_of X G af5), kf5, bf5⟩
  have rA : FnR l.prog w K mg base CX0 6 m2 (spBin C And) := ((FnOk.raw (ok_and Fm2 S A) bm2 .nil).imp fun vs H Q E h => by rw [List.append_nil]; exact h)
  have rO : FnR l.prog w K mg base CX0 6 m3 (spBin C Or) := ((FnOk.raw (ok_or Fm3 S A) bm3 .nil).imp fun vs H Q E h => by rw [List.append_nil]; exact h)
  have rS : FnR l.prog w K mg base CX0 6 m4 (spBin C fun a b => a ∧ ¬ b) := ((FnOk.raw (ok_sub Fm4 S A) bm4 .nil).imp fun vs H Q E h => by rw [List.append_nil]; exact h)
  have rL : FnR l.prog w K mg base CX0 6 m5 (spLen C) := (((FnOk.raw (ok_len (P := l.prog) (w := w) (mg := mg) (base := base) Fm5 T S) bm5 .nil).imp fun vs H Q E h => by rw [List.append_nil]; exact h)).mono (by decide)
  have rE : FnR l.prog w K mg base CX0 6 m6 (spEqS C) := (((FnOk.raw (ok_eq (P := l.prog) (w := w) (mg := mg) (base := base) Fm6 T S) bm6 .nil).imp fun vs H Q E h => by rw [List.append_nil]; exact h)).mono (by decide)
  have B : Sps l.prog w K mg base C := ⟨S, _, M, gI, _, ⟨am2, im2⟩, rA, _, ⟨am3, im3⟩, rO, _, ⟨am4, im4⟩, rS, _, ⟨am5, im5⟩, rL, _, ⟨am6, im6⟩, rE⟩
  have gDr := ok_draw (P := l.prog) (w := w) (mg := mg) (base := base) Ff7 T
  have gAn := ok_any Ff8 T gDr (PySem.W.mg_of X G af7) kf7 bf7
  have gPo := ok_pot (P := l.prog) (w := w) (mg := mg) (base := base) Ff6 T
  have gPl := ok_places (P := l.prog) (w := w) (mg := mg) (base := base) Ff9 T
  have gCo := ok_couples (P := l.prog) (w := w) (mg := mg) (base := base) Ff10 T
  have gDn := ok_drawn Ff11 T gDr (PySem.W.mg_of X G af7) kf7 bf7 gAn (PySem.W.mg_of X G af8) kf8 bf8
  have gOf := ok_of Ff12 B gCo (PySem.W.mg_of X G af10) kf10 bf10
  have gTw := ok_two Ff13 T B gCo (PySem.W.mg_of X G af10) kf10 bf10 gOf (PySem.W.mg_of X G af12) kf12 bf12
  have gRu := ok_rules Ff14 T B
  have D : Defs l.prog w K mg base C := ⟨_, _, gPl, (PySem.W.mg_of X G af9), kf9, bf9, _, _, gDn, (PySem.W.mg_of X G af11), kf11, bf11, _, _, gAn, (PySem.W.mg_of X G af8), kf8, bf8, _, _, gOf, (PySem.W.mg_of X G af12), kf12, bf12, _, _, gTw, (PySem.W.mg_of X G af13), kf13, bf13, _, _, gRu, (PySem.W.mg_of X G af14), kf14, bf14⟩
  have gRt := ok_right Ff15 T B D
  exact ok_law Ff16 T gRt (PySem.W.mg_of X G af15) kf15 bf15 gPo (PySem.W.mg_of X G af6) kf6 bf6
theorem walk {l : PySem.W.OpenLaw} {q : Program} {loose : List Str} {XP : (Str → Option Value) → Heap → Prop} {YP : World → Heap → Prop} {d : DefRec} {K : Params → PySem.W.Frag} (hn : l.most = some 63) (hdf : d.params.defaults = [])
    (hY : ∀ (w : World) (h : Heap), YP w h → (K w.params).In h)
    (F : ∀ (w : World) (mg : Str → Option Value) (fa : Addr) (h : Heap), (K w.params).In h → h.Ns mainGlobals mg → mg d.name = some (.ref fa) →
      ∃ fd : FuncData, (∀ (s : Shared) (u : Value), BindsTo s fd ⟨[u], []⟩ [("_law_script", u)]) ∧ ∀ base : Heap, (K w.params).In base → base.Ns mainGlobals mg → FnOk l.prog w (K w.params) mg base CX0 10 fa fd ["_law_script"] (spLaw (K w.params))) :
    PySem.W.WalkO q loose XP YP l.row.toRowW d [] (fun f vs => PySem.call f vs) :=
  L2.walk_of (n := 63) (k := 10) (x := "_law_script") (CX := fun _ => CX0) (sp := fun w => spLaw (K w.params)) hn (by decide) hdf ⟨rfl, by decide, by decide⟩ hY F (fun _ _ a ns hl _ hS => ⟨a, ns, rfl, hS, hl, fun _ => rfl⟩) fun _ _ _ _ _ z => z
end Sps
set_option Elab.async false
open PySem PySem.W PyProof.Rows in
set_option maxRecDepth 100000 in
set_option maxHeartbeats 0 in
theorem PySem.Challenge.cw_oneedition_k38_whole_rules_of_spans_holds : PySem.Challenge.rw_oneedition_k38_whole_rules_of_spans.Holds := by
  w_on; o_law; k_head; (case hw => w_witness2)
  k_fill
  refine Sps.walk (l := PySem.Challenge.rw_oneedition_k38_whole_rules_of_spans) rfl rfl (fun w h Y => PySem.W.kIn_of Y) ?F
  case F =>
    intro w mg fa h KX G hmg
    refine' Sps.all_mk KX G hmg ?aC ?af1 ?lf1 ?cf1 ?kf1 ?af2 ?lf2 ?cf2 ?kf2 ?af3 ?lf3 ?cf3 ?kf3 ?af4 ?lf4 ?cf4 ?kf4 ?af5 ?lf5 ?cf5 ?kf5 ?af6 ?lf6 ?cf6 ?kf6 ?af7 ?lf7 ?cf7 ?kf7 ?af8 ?lf8 ?cf8 ?kf8 ?af9 ?lf9 ?cf9 ?kf9 ?af10 ?lf10 ?cf10 ?kf10 ?af11 ?lf11 ?cf11 ?kf11 ?af12 ?lf12 ?cf12 ?kf12 ?af13 ?lf13 ?cf13 ?kf13 ?af14 ?lf14 ?cf14 ?kf14 ?af15 ?lf15 ?cf15 ?kf15 ?af16 ?lf16 ?cf16 ?kf16 ?am1 ?im1 ?lm1 ?cm1 ?km1 ?am2 ?im2 ?lm2 ?cm2 ?km2 ?am3 ?im3 ?lm3 ?cm3 ?km3 ?am4 ?im4 ?lm4 ?cm4 ?km4 ?am5 ?im5 ?lm5 ?cm5 ?km5 ?am6 ?im6 ?lm6 ?cm6 ?km6 ?pg ?hd ?po ?sa ?mk ?kc ?nP ?sf ?nfC ?nfT ?nfI ?kCC ?kTC ?kIC ?ca ?cn ?ct_ ?cm ?z_isinstance ?z_bool ?z_int ?z_tuple ?z_len ?z_sorted ?z_max ?z_min ?z_all ?z_any ?z_range ?z_sum ?z_abs ?z_dict ?z_list ?zE
    (case aC => k_is)
    (case af1 => k_is)
    (case lf1 => k_is)
    (case cf1 => k_is)
    (case kf1 => k_is)
    (case af2 => k_is)
    (case lf2 => k_is)
    (case cf2 => k_is)
    (case kf2 => k_is)
    (case af3 => k_is)
    (case lf3 => k_is)
    (case cf3 => k_is)
    (case kf3 => k_is)
    (case af4 => k_is)
    (case lf4 => k_is)
    (case cf4 => k_is)
    (case kf4 => k_is)
    (case af5 => k_is)
    (case lf5 => k_is)
    (case cf5 => k_is)
    (case kf5 => k_is)
    (case af6 => k_is)
    (case lf6 => k_is)
    (case cf6 => k_is)
    (case kf6 => k_is)
    (case af7 => k_is)
    (case lf7 => k_is)
    (case cf7 => k_is)
    (case kf7 => k_is)
    (case af8 => k_is)
    (case lf8 => k_is)
    (case cf8 => k_is)
    (case kf8 => k_is)
    (case af9 => k_is)
    (case lf9 => k_is)
    (case cf9 => k_is)
    (case kf9 => k_is)
    (case af10 => k_is)
    (case lf10 => k_is)
    (case cf10 => k_is)
    (case kf10 => k_is)
    (case af11 => k_is)
    (case lf11 => k_is)
    (case cf11 => k_is)
    (case kf11 => k_is)
    (case af12 => k_is)
    (case lf12 => k_is)
    (case cf12 => k_is)
    (case kf12 => k_is)
    (case af13 => k_is)
    (case lf13 => k_is)
    (case cf13 => k_is)
    (case kf13 => k_is)
    (case af14 => k_is)
    (case lf14 => k_is)
    (case cf14 => k_is)
    (case kf14 => k_is)
    (case af15 => k_is)
    (case lf15 => k_is)
    (case cf15 => k_is)
    (case kf15 => k_is)
    (case af16 => k_is)
    (case lf16 => k_is)
    (case cf16 => k_is)
    (case kf16 => k_is)
    (case am1 => k_is)
    (case im1 => k_is)
    (case lm1 => k_is)
    (case cm1 => k_is)
    (case km1 => k_is)
    (case am2 => k_is)
    (case im2 => k_is)
    (case lm2 => k_is)
    (case cm2 => k_is)
    (case km2 => k_is)
    (case am3 => k_is)
    (case im3 => k_is)
    (case lm3 => k_is)
    (case cm3 => k_is)
    (case km3 => k_is)
    (case am4 => k_is)
    (case im4 => k_is)
    (case lm4 => k_is)
    (case cm4 => k_is)
    (case km4 => k_is)
    (case am5 => k_is)
    (case im5 => k_is)
    (case lm5 => k_is)
    (case cm5 => k_is)
    (case km5 => k_is)
    (case am6 => k_is)
    (case im6 => k_is)
    (case lm6 => k_is)
    (case cm6 => k_is)
    (case km6 => k_is)
    (case pg => k_is)
    (case hd => k_is)
    (case po => k_is)
    (case sa => k_is)
    (case mk => k_is)
    (case kc => k_is)
    (case nP => k_is)
    (case sf => k_is)
    (case nfC => k_is)
    (case nfT => k_is)
    (case nfI => k_is)
    (case kCC => kit_is)
    (case kTC => kit_is)
    (case kIC => kit_is)
    (case ca => k_is)
    (case cn => k_is)
    (case ct_ => k_is)
    (case cm => k_is)
    (case z_isinstance => k_is)
    (case z_bool => k_is)
    (case z_int => k_is)
    (case z_tuple => k_is)
    (case z_len => k_is)
    (case z_sorted => k_is)
    (case z_max => k_is)
    (case z_min => k_is)
    (case z_all => k_is)
    (case z_any => k_is)
    (case z_range => k_is)
    (case z_sum => k_is)
    (case z_abs => k_is)
    (case z_dict => k_is)
    (case z_list => k_is)
    (case zE => k_is)
