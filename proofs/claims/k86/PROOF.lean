import PyProof.Rows.All
import Wide.All
import OpenK.AllK
import Wide.FinOn
import HandS.ForMost
import HandS.Star
import HandS.More
import HandS.Sort
import HandS.SortRule
import HandS.SortInts
import HandS.IsInst
import HandS.TupAny
import HandS.Wide
import HandS.WideMore
import HandS.ListItems
import HandS.Flow
import HandS.DictEq
import HandS.SlotsOwn
import KE.KOpsOwn
import KE.KRevSl
import PyProof.ListRange
import HandS.Head0
import HandS.Head1
import HandS.Head2
import HandS.HeadEnd
import HandS.HeadHook1
import HandS.HeadHook2
import HandS.HeadHook3
import HandS.HeadHook4
import HandS.ExcField
import HandS.Base
import HandS.Walk
import HandS.DictTup
import HandS.TupSets
import KE.KDictPairs
import HandS.Zip
import HandS.Conv
import KE.KDictList
import KE.GoesMore
import KE.GoesZip
import HandS.DictComp
import HandS.Defaults
import HandS.ExcIs
import HandS.ExcInit
import HandS.TryMany
import HandS.WordsExc
import HandS.Text
import HandS.Lambda
import HandS.Style
import HandS.EndTab
import HandS.EndBits
import HandS.MakeKwOnly
import PySem.Challenge.RW_oneedition_k86_asks_and_time
set_option Elab.async false
set_option linter.all false
set_option maxRecDepth 100000
set_option maxHeartbeats 4000000
/-! Rules of our own over the hand layer: operators of an own class, sorted over dicts and tuples of any length, dicts compared, ranges, t[::-1]. -/
namespace Sps
open PySem PySem.Spec PyProof.Rows L2
section
variable {X : Cx} {CX : CXT} {n : Nat} {C g : Addr} {sp : Sp} {E : XK}

/-- a & b and its like: both instances of the class at C -/
def rBin (C : Addr) (sp : Sp) (E : XK) : R2 := fun x y H Q => ∃ a dx fs b dy gs, x = .ref a ∧ y = .ref b ∧ H a = some (.ins C dx fs) ∧ H b = some (.ins C dy gs) ∧ sp [x, y] H Q E
theorem op_bin {op : Operator} (hc : PySem.W.selfFirst X.K C = true) (hs : PySem.W.findIn X.K (.ref C) (PySem.dunder op.info.2) = some (some (.ref g))) (hf : PySem.W.isFn X.K (.ref g) = true)
    (F : FnR X.prog X.w X.K X.mg X.base CX n g sp) (hr : Room n X.A) (hx : Passes CX X E) : OpR X (binaryOp op) (rBin C sp E) := by
  intro pins s σ H x y v u Q I rx ry h
  obtain ⟨a, dx, fs, b, dy, gs, rfl, rfl, ha, hb, q⟩ := h
  cases (show v = Value.ref a from rx)
  cases (show u = Value.ref b from ry)
  obtain ⟨mA, OA, _⟩ := ins_get I.hok ha
  obtain ⟨_, JA, _⟩ := OA.look
  obtain ⟨mB, OB, _⟩ := ins_get I.hok hb
  obtain ⟨_, JB, _⟩ := OB.look
  obtain ⟨m, hF⟩ := I.fr
  refine PySem.W.binop_K hF I.ok.mod.kin JA JB.type hc hs hf ?_
  refine wpAny_mono (wpAny_call (run_fnR (us := [.ref a, .ref b]) (vs := [.ref a, .ref b]) F hr hx I (.cons rfl (.cons rfl .nil)) q)) (fun w s' z => ?_) fun _ _ e => e
  obtain ⟨z', H', I', rz, qz⟩ := z
  exact SlX.cmpback rz ⟨z', H', I', rz, qz⟩

/-- a == y by the class's own def: y of any type that is told -/
def rEqO (K : PySem.W.Frag) (C : Addr) (sp : Sp) (E : XK) : R2 := fun x y H Q => ∃ a dx fs, x = .ref a ∧ H a = some (.ins C dx fs) ∧
  ((∃ b dy gs, y = .ref b ∧ H b = some (.ins C dy gs) ∧ PySem.W.notFirst K C (.ref C) = true) ∨ (∃ b ys, y = .ref b ∧ H b = some (.tup ys) ∧ PySem.W.notFirst K C (.type "tuple") = true) ∨ (∃ i, y = .int i ∧ PySem.W.notFirst K C (.type "int") = true)) ∧ sp [x, y] H Q E
theorem op_eqO (hs : PySem.W.findIn X.K (.ref C) "__eq__" = some (some (.ref g))) (hf : PySem.W.isFn X.K (.ref g) = true)
    (F : FnR X.prog X.w X.K X.mg X.base CX n g sp) (hr : Room n X.A) (hx : Passes CX X E) : OpR X (compareOp .Eq) (rEqO X.K C sp E) := by
  intro pins s σ H x y v u Q I rx ry h
  obtain ⟨a, dx, fs, rfl, ha, hy, q⟩ := h
  cases (show v = Value.ref a from rx)
  obtain ⟨mA, OA, _⟩ := ins_get I.hok ha
  obtain ⟨_, JA, _⟩ := OA.look
  obtain ⟨m, hF⟩ := I.fr
  have core : ∀ (tb : Value), PySem.W.Looks (model X.prog X.w) s.heap (typeOf u) tb → PySem.W.notFirst X.K C tb = true → wpAny (model X.prog X.w) X.A (compareOp .Eq (.ref a) u) (EP X pins σ Q) X.xe s := by
    intro tb hb hn
    show wpAny (model X.prog X.w) X.A (richCompare .Eq (.ref a) u) _ _ s
    refine PySem.W.cmp_K (op := .Eq) (tb := tb) hr.units0 hF I.ok.mod.kin JA hb hn hs hf ?_
    refine wpAny_mono (wpAny_call (run_fnR (us := [.ref a, u]) (vs := [.ref a, y]) F hr hx I (.cons rfl (.cons ry .nil)) q)) (fun w s' z => ?_) fun _ _ e => e
    obtain ⟨z', H', I', rz, qz⟩ := z
    exact SlX.cmpback rz ⟨z', H', I', rz, qz⟩
  rcases hy with ⟨b, dy, gs, rfl, hb, hn⟩ | ⟨b, ys, rfl, hb, hn⟩ | ⟨i, rfl, hn⟩
  · cases (show u = Value.ref b from ry)
    obtain ⟨mB, OB, _⟩ := ins_get I.hok hb
    obtain ⟨_, JB, _⟩ := OB.look
    exact core _ JB.type hn
  · cases (show u = Value.ref b from ry)
    obtain ⟨_, _, _, o, h1, h2, _⟩ := (show ObjOk X.prog X.w H s.heap b (.tup ys) from I.hok b _ hb)
    have hT : PySem.W.Looks (model X.prog X.w) s.heap (typeOf (.ref b)) o.cls := (PySem.W.Looks.ld h1).andThen .now
    rw [h2] at hT
    exact core _ hT hn
  · obtain ⟨t, e⟩ := (show ∃ t, u = Value.int i t from ry)
    subst e
    exact core _ (PySem.W.Looks.of_pure rfl) hn

/-- len(a) by the class's own def -/
def rLenO (C : Addr) (sp : Sp) (E : XK) : List V → Hp → VK → Prop := fun xs H Q => ∃ a dx fs, xs = [.ref a] ∧ H a = some (.ins C dx fs) ∧ sp [.ref a] H (fun v H' => ∃ i : Int, v = .int i ∧ 0 ≤ i ∧ i < 2 ^ 63 ∧ Q (.int i) H') E
theorem call_lenO (hs : PySem.W.findIn X.K (.ref C) "__len__" = some (some (.ref g))) (hf : PySem.W.isFn X.K (.ref g) = true)
    (F : FnR X.prog X.w X.K X.mg X.base CX n g sp) (hr : Room (n + 1) X.A) (hx : Passes CX X E) : CallR X (.builtin "len") (rLenO C sp E) := by
  intro pins s σ H xs us Q I r h
  obtain ⟨a, dx, fs, rfl, ha, q⟩ := h
  obtain ⟨u, rfl, ru⟩ := r.one
  cases (show u = Value.ref a from ru)
  obtain ⟨mA, OA, _⟩ := ins_get I.hok ha
  obtain ⟨_, JA, _⟩ := OA.look
  obtain ⟨m, hF⟩ := I.fr
  refine PySem.W.len_K hF I.ok.mod.kin JA hs hf ?_
  refine wpAny_mono (wpAny_call (SlX.run_at (us := [.ref a]) (ws := [.ref a]) F hr.in1 I.env0.in1 hx I (.cons rfl .nil) q)) (fun w s' z => ?_) fun _ _ e => e
  obtain ⟨z', H', I', rz, i, rfl, h0, h1, qz⟩ := z
  obtain ⟨t, e⟩ := (show ∃ t, w = Value.int i t from rz)
  subst e
  exact ⟨⟨h0, h1⟩, .int i, H', I'.tok _, ⟨_, rfl⟩, qz⟩

/-! ### sorted -/
/-- sorted(d), d a dict of ints, of any length -/
def rSortD : List V → Hp → VK → Prop := fun xs H Q => ∃ (a : Addr) (kvs : List (Key × V)) (ks : List Int), xs = [.ref a] ∧ Rd H a (.dK kvs) ∧ kvs.map (·.1) = ks.map Sum.inl ∧
  ∀ (ys : List Int) (p : Addr), ys.Perm ks → ys.Pairwise (· ≤ ·) → H p = none → Q (.ref p) (upd H p (.lst (ys.map V.int)))
theorem call_sortD (hcalm : X.calm = true) : CallR X (.builtin "sorted") rSortD := by
  intro pins s σ H xs us Q I r q
  obtain ⟨a, kvs, ks, ex, hd, hks, q⟩ := q
  subst ex
  obtain ⟨u, eu, rx⟩ := vals1 r
  subst eu
  cases rx
  obtain ⟨z, lo, vs, rel, dd⟩ := dk_rd I.hok hd
  obtain ⟨ep, hat⟩ := dd.dictAt
  have hkeys : vs.map (·.1) = ks.map Sum.inl := rel.keys.symm.trans hks
  have hl : vs.length = ks.length := by
    have e := congrArg List.length hkeys
    rw [List.length_map, List.length_map] at e
    exact e
  have hl2 : kvs.length = ks.length := by
    have e := congrArg List.length hks
    rw [List.length_map, List.length_map] at e
    exact e
  have h16 : vs.length ≤ sizeLine := by rw [hl, ← hl2]; exact z
  refine Calls.call_function_entry PyProof.Rows.kind_sorted PyProof.Rows.plain_sorted PyProof.Rows.entry_sorted (PyProof.Rows.args_sorted1 _) ?_
  unfold Builtin.«sorted»
  refine wpAny_bind (m := checkCount "sorted" 1 1 _) (wpAny_pure ?_)
  refine wpAny_bind (PySem.W.kdu_collect (A := X.A.in1) (PySem.W.kdl_dict (knd := mixKind X.prog X.w) (kvs := vs) (ep := ep) lo) (I.ok.hd hcalm) hat h16 fun h' tk acc hk hacc => ?_)
  have hal : acc.toList.length = ks.length := by rw [Array.length_toList, hacc.1, hl]
  have hS : IntsAre acc.toList ks := ints_each hal fun j v e => by
    obtain ⟨k, x, e1, e2⟩ := hacc.2 j v (by rw [← Array.getElem?_toList]; exact e)
    have e3 : (vs.map (·.1))[j]? = some k := by rw [List.getElem?_map, e1]; rfl
    rw [hkeys, List.getElem?_map] at e3
    cases e4 : ks[j]? with
    | none => rw [e4] at e3; cases e3
    | some y =>
      rw [e4] at e3
      have e5 : Sum.inl y = k := Option.some.inj e3
      subst e5
      rcases keyIs_shape (show keyIs (Sum.inl y) v = true from e2) with ⟨i, t, ek, ev⟩ | ⟨z, t, ek, ev⟩
      · cases ek
        exact ⟨y, t, rfl, ev⟩
      · cases ek
  have I1 : Inv X pins σ H { s with heap := h', toks := tk } := I.kept hk
  have hal2 : acc.toList.length ≤ sizeLine := by rw [hal, ← hl2]; exact z
  refine wpAny_bind (wpAny_newList ?_ hal2)
  have hoL : (h'.push (seqObj "list" acc.toList.toArray 0)).get? h'.objs.size = some (seqObj "list" acc.toList.toArray 0) := Heap.get?_push_size _ rfl
  show wpAny _ _ _ _ _ { s with heap := h'.push (seqObj "list" acc.toList.toArray 0), toks := tk }
  refine wpAny_bind (wpAny_holding (wpAny_call_entry PyProof.Rows.slot_list_sort ⟨_, hoL, rfl⟩ PyProof.Rows.entry_list_sort
    (SrtO.list_sort_ord SrtO.swo_int hoL hal2 (fun h2 => SrtO.ints_sortable hS h2) fun out g1 g2 => ⟨.none, rfl, ?_⟩) (PyProof.Rows.args_list_sort _)))
  obtain ⟨k1, k2, k3⟩ := SrtO.ints_out hS g1 g2
  obtain ⟨e', he'⟩ := PyProof.Rows.sortedHeap_at (vs := acc.toList) (out := out.toArray) hoL
  have hlen : ((out.map SrtO.iv).map V.int).length ≤ sizeLine := by
    rw [List.length_map, k2.length_eq, ← hl2]
    exact z
  refine wpAny_pure ⟨_, rfl, .ref h'.objs.size, upd H h'.objs.size (.lst ((out.map SrtO.iv).map V.int)), I1.laid (t' := tk) (fun b u e => ?_) (Nat.le_refl _)
    (show ObjOk X.prog X.w _ _ _ (.lst ((out.map SrtO.iv).map V.int)) from ⟨hlen, out, e', vals_of_ints k1, he'⟩), rfl, q _ _ k2 k3 (I1.hok.fresh (Nat.le_refl _))⟩
  have hb : b < h'.objs.size := Heap.lt_size e
  rw [PyProof.Rows.sortedHeap_old (Nat.ne_of_lt hb) (by rw [size_push']; exact Nat.lt_succ_of_lt hb)]
  exact Heap.get?_push_of_some _ e

/-- sorted(t), t a tuple of pairs of ints, of any length -/
def rSortT (K : PySem.W.Frag) : List V → Hp → VK → Prop := fun vs H Q => ∃ (a : Addr) (xs : List V) (k : V → Int × Int), vs = [V.ref a] ∧ SqT K H a xs ∧ (∀ x ∈ xs, ∃ t, x = V.ref t ∧ H t = some (.tup [.int (k x).1, .int (k x).2])) ∧
  ∀ ys p, SrtO.Srtd (ltP k) ys → ys.Perm xs → H p = none → Q (.ref p) (upd H p (.lst ys))
theorem call_sortT : CallR X (.builtin "sorted") (rSortT X.K) := by
  intro pins s σ H vs us Q I r h
  obtain ⟨a, xs, k, rfl, hs, hx, q⟩ := h
  obtain ⟨its, rv, ⟨o, ho, hc, n, hd⟩, hz⟩ := I.tuple hs
  obtain ⟨u, rfl, ru⟩ := vals1 r
  obtain rfl : u = Value.ref a := ru
  obtain ⟨e1, e2⟩ := refs_back rv fun x m => by
    obtain ⟨t, e, _⟩ := hx x m
    exact ⟨t, e⟩
  have hp : ∀ v ∈ its, Srt.IsPair s.heap v (k (backV v)).1 (k (backV v)).2 := fun v hv => by
    obtain ⟨t, rfl⟩ := e2 v hv
    have hm : V.ref t ∈ xs := by rw [e1]; exact List.mem_map.mpr ⟨_, hv, rfl⟩
    obtain ⟨t', e, ht⟩ := hx _ hm
    cases e
    obtain ⟨_, its2, r2, o2, ho2, hc2, n2, hd2⟩ := I.hok _ _ ht
    obtain ⟨u1, u2, rfl, ri, rj⟩ := vals2 r2
    obtain ⟨t1, rfl⟩ := ri
    obtain ⟨t2, rfl⟩ := rj
    exact ⟨t, o2, t1, t2, n2, rfl, ho2, hc2, hd2⟩
  have hz2 : its.length ≤ sizeLine := by rw [← rv.length]; exact hz
  refine Calls.call_function_entry PyProof.Rows.kind_sorted PyProof.Rows.plain_sorted PyProof.Rows.entry_sorted (PyProof.Rows.args_sorted1 _) ?_
  unfold Builtin.«sorted»
  refine wpAny_bind (m := checkCount "sorted" 1 1 _) (wpAny_pure ?_)
  refine wpAny_bind (wpAny_collect_seq a (.inr rfl) ho hc hd (fun h' hk => ?_) (by rw [List.size_toArray]; exact hz2))
  have et : its.toArray.toList = its := by simp
  rw [et]
  have I1 : Inv X pins σ H { s with heap := h' } := I.kept (t' := s.toks) hk
  refine wpAny_bind (wpAny_newList ?_ hz2)
  have hoL : (h'.push (seqObj "list" its.toArray 0)).get? h'.objs.size = some (seqObj "list" its.toArray 0) := Heap.get?_push_size _ rfl
  show wpAny _ _ _ _ _ { s with heap := h'.push (seqObj "list" its.toArray 0) }
  refine wpAny_bind (wpAny_holding (wpAny_call_entry PyProof.Rows.slot_list_sort ⟨_, hoL, rfl⟩ PyProof.Rows.entry_list_sort
    (SrtO.list_sort_ord (SrtO.swo_lex fun u => k (backV u)) hoL hz2 (fun h2 => SrtO.pairs_sortableO (by omega) (fun v hv => (hp v hv).keeps fun b o e _ => Heap.get?_push_of_some _ (hk b o e)) fun o e => ?_) fun out g1 g2 => ⟨.none, rfl, ?_⟩) (PyProof.Rows.args_list_sort _)))
  · have e' : some o = some (seqObj "list" its.toArray 0) := e.symm.trans hoL
    cases e'
    intro c
    exact absurd (Value.type.inj c) (by decide)
  · have h3 : ∀ u ∈ out, ∃ a, u = Value.ref a := fun u hu => e2 u (g2.perm.mem_iff.mp hu)
    obtain ⟨ep, he'⟩ := PyProof.Rows.sortedHeap_at (vs := its) (out := out.toArray) hoL
    have hb : SrtO.Stb (ltP k) (out.map backV) xs := by
      rw [e1]
      exact SrtO.Stb.map (ltP_swo k) backV g2
    have hlen : (out.map backV).length ≤ sizeLine := by
      rw [hb.len]
      exact hz
    refine wpAny_pure ⟨_, rfl, .ref h'.objs.size, upd H h'.objs.size (.lst (out.map backV)), I1.laid (t' := s.toks) (fun b u e => ?_) (Nat.le_refl _)
      (show ObjOk X.prog X.w _ _ _ (.lst (out.map backV)) from ⟨hlen, out, ep, vals_back h3, he'⟩), rfl, q _ _ (SrtO.srtd_map g1) hb.perm (I1.hok.fresh (Nat.le_refl _))⟩
    have hb : b < h'.objs.size := Heap.lt_size e
    rw [PyProof.Rows.sortedHeap_old (Nat.ne_of_lt hb) (by rw [size_push']; exact Nat.lt_succ_of_lt hb)]
    exact Heap.get?_push_of_some _ e

/-! ### dicts compared -/
/-- how d == e comes out, where every value is True -/
def sameKeys (ka kb : List (Key × V)) : Bool := ka.length == kb.length && ka.all fun p => (valV kb p.1).isSome
def rEqDB : R2 := fun x y H Q => ∃ a b ka kb, x = .ref a ∧ y = .ref b ∧ H a = some (.dK ka) ∧ H b = some (.dK kb) ∧ (∀ p ∈ ka, p.2 = V.bl true) ∧ (∀ p ∈ kb, p.2 = V.bl true) ∧ Q (.bl (sameKeys ka kb)) H
theorem valV_val {kb : List (Key × V)} {k : Key} {v : V} (h : ∀ p ∈ kb, p.2 = V.bl true) (e : valV kb k = some v) : v = V.bl true := by
  unfold valV at e
  cases q : kb.find? fun kv => decide (kv.1 = k) with
  | none => rw [q] at e; cases e
  | some p =>
    rw [q] at e
    have e2 : p.2 = v := Option.some.inj e
    rw [← e2]
    exact h p (List.mem_of_find?_eq_some q)
theorem hits_any {A : Around} {s : Shared} {kb : List (Key × V)} {vb : List (Key × Value)} (hb : ∀ p ∈ kb, p.2 = V.bl true) (rb : KV kb vb) {ka : List (Key × V)} {va : List (Key × Value)} (ra : KV ka va) :
    (∀ p ∈ ka, p.2 = V.bl true) → PySem.W.KeqHits A s vb va (ka.all fun p => (valV kb p.1).isSome) := by
  unfold KV at ra
  induction ra with
  | nil => intro _; exact .nil
  | @cons p q ps qs h t ih =>
    intro hp
    obtain ⟨h1, h2⟩ := h
    obtain ⟨k, v⟩ := q
    have h1' : p.1 = k := h1
    have ev := hp p List.mem_cons_self
    rw [List.all_cons]
    cases e : valV kb p.1 with
    | none =>
      have rr := rb.val p.1
      rw [e] at rr
      cases e3 : valueAt vb p.1 with
      | some y => rw [e3] at rr; exact rr.elim
      | none =>
        rw [h1'] at e3
        show PySem.W.KeqHits A s vb ((k, v) :: qs) (false && _)
        rw [Bool.false_and]
        exact .miss e3
    | some y0 =>
      have ey := valV_val hb e
      subst ey
      have rr : RelO (some (V.bl true)) (valueAt vb p.1) := by rw [← e]; exact rb.val p.1
      obtain ⟨y, hy, ry⟩ := rr.some_of
      rw [h1'] at hy
      rw [ev] at h2
      show PySem.W.KeqHits A s vb ((k, v) :: qs) (true && _)
      exact .hit hy (eqAt_same h2 ry rfl) (ih fun p' hm => hp p' (List.mem_cons_of_mem _ hm))
theorem op_eqDB (hu : X.A.units < cLine) : OpR X (compareOp .Eq) rEqDB := by
  intro pins s σ H x y v u Q I rx ry h
  obtain ⟨a, b, ka, kb, rfl, rfl, ea, eb, ha, hb, q⟩ := h
  obtain rfl : v = Value.ref a := rx
  obtain rfl : u = Value.ref b := ry
  obtain ⟨_, ya, va, ra, da⟩ := (show ObjOk X.prog X.w H s.heap a (.dK ka) from I.hok a _ ea)
  obtain ⟨_, yb, vb, rb, db⟩ := (show ObjOk X.prog X.w H s.heap b (.dK kb) from I.hok b _ eb)
  have hl : va.length = ka.length := ra.length.symm
  have hl2 : vb.length = kb.length := rb.length.symm
  exact PySem.W.keq_eq (knd := mixKind X.prog X.w) (r := ka.all fun p => (valV kb p.1).isSome) ya yb da db hu (fun _ => hits_any hb rb ra ha) (fin_bl I q (by rw [hl, hl2]; rfl))

/-! ### t[::-1] of a tuple -/
theorem adjust_back (n : Nat) : Builtin.Slice.sliceAdjust none none (-1) (n : Int) = ((n : Int) - 1, -1) := by
  unfold Builtin.Slice.sliceAdjust
  rfl
theorem places_back (n : Nat) : Builtin.Slice.slicePlaces ((n : Int) - 1) (-1) (-1) = n := by
  unfold Builtin.Slice.slicePlaces
  have h1 : ¬ ((-1 : Int) > 0) := by decide
  have h2 : (- (-1) : Int) = 1 := by decide
  simp only [h1, if_false, h2, Int.ediv_one]
  split <;> omega
theorem pick_back (xs : Array Value) : ((List.range xs.size).filterMap fun (m : Nat) => xs[((xs.size : Int) - 1 + (m : Int) * (-1)).toNat]?) = xs.toList.reverse := by
  have e : ((List.range xs.size).filterMap fun (m : Nat) => xs[((xs.size : Int) - 1 + (m : Int) * (-1)).toNat]?) = ((List.range xs.size).map fun k => xs.size - 1 - k).filterMap (xs[·]?) := by
    rw [List.filterMap_map]
    have aux : ∀ l : List Nat, (∀ m ∈ l, m < xs.size) → (l.filterMap fun (m : Nat) => xs[((xs.size : Int) - 1 + (m : Int) * (-1)).toNat]?) = l.filterMap ((xs[·]?) ∘ fun k => xs.size - 1 - k) := by
      intro l hl
      induction l with
      | nil => rfl
      | cons m l ih =>
        have hm := hl m List.mem_cons_self
        have e2 : ((xs.size : Int) - 1 + (m : Int) * (-1)).toNat = xs.size - 1 - m := by omega
        rw [List.filterMap_cons, List.filterMap_cons, ih (fun k hk => hl k (List.mem_cons_of_mem _ hk)), e2]
        rfl
    exact aux _ fun m hm => List.mem_range.mp hm
  rw [e, PySem.W.krv_range, List.filterMap_reverse, PySem.W.krv_all]
section
variable {prog : Program} {w : World} {A : Around} {E : Value → Shared → Prop} {s : Shared}
theorem getItem_back {t sl : Addr} {items : Array Value} {u : Tok} {Q : Value → Shared → Prop} (ht : IsTup s.heap t items) (hs : s.heap.IsSliceOf sl .none .none (.int (-1) u))
    (h : Q (.ref s.heap.objs.size) { s with heap := s.heap.push { cls := .type "tuple", data := .seq items.toList.reverse.toArray } })
    (hsz : items.size ≤ sizeLine) : wpAny (model prog w) A (getItem (.ref t) (.ref sl)) Q E s := by
  have hok : sizeOk (.seq items.toList.reverse.toArray) := by
    show items.toList.reverse.toArray.size ≤ sizeLine
    rw [List.size_toArray, List.length_reverse, Array.length_toList]
    exact hsz
  obtain ⟨os, hos, hcs, hds⟩ := id hs
  have hTs : s.TypeIs (.ref sl) "slice" := ⟨os, hos, hcs⟩
  unfold getItem
  try with_reducible refine wpAny_holding ?_
  first | refine wpAny_bind (wpAny_pure ?_) | skip
  refine wpAny_bind (wpAny_sequenceKey ht.typeIs (by decide) ?_)
  refine wpAny_bind (wpAny_callSpecial?_slot (name := Str.ofString "__getitem__") ht.typeIs PyProof.Rows.slot_tuple_getitem
    (wpAny_call_entry PyProof.Rows.slot_tuple_getitem ht.typeIs entry_tuple_getitem ?_ (args_tuple_getitem _ _)))
  show wpAny _ _ (Builtin.Tuple.tupleItemsOf (.ref t) >>= _) _ _ s
  refine wpAny_bind (tupleItemsOf_ ht ?_)
  refine wpAny_bind (wpAny_typeOf hTs ?_)
  rw [if_pos (by decide)]
  refine wpAny_bind ?_
  unfold Builtin.Slice.sliceApplied Builtin.Slice.sliceFields
  refine wpAny_bind (wpAny_bind (wpAny_field hos hds (x := .none) rfl (wpAny_bind (wpAny_field hos hds (x := .none) rfl (wpAny_bind (wpAny_field hos hds (x := .int (-1) u) rfl (wpAny_pure ?_)))))))
  refine wpAny_bind (slicePart_int ?_)
  show wpAny _ _ (if ((-1 : Int) == 0) = true then _ else _) _ _ s
  rw [if_neg (by decide)]
  refine wpAny_bind (slicePart_none (wpAny_bind (slicePart_none (wpAny_bind (wpAny_pure ?_)))))
  show wpAny _ _ (match Builtin.Slice.sliceAdjust none none (-1) (items.size : Int) with | (lo, hi) => pure (lo, (-1 : Int), Builtin.Slice.slicePlaces lo hi (-1))) _ _ s
  rw [adjust_back]
  show wpAny _ _ (pure ((items.size : Int) - 1, (-1 : Int), Builtin.Slice.slicePlaces ((items.size : Int) - 1) (-1) (-1))) _ _ s
  rw [places_back]
  refine wpAny_pure ?_
  have hno : ¬ ((((items.size : Int) - 1) == 0 && (-1 : Int) == 1 && items.size == items.size) = true) := by
    intro q
    rw [Bool.and_eq_true, Bool.and_eq_true] at q
    exact absurd (eq_of_beq q.1.2) (by decide)
  show wpAny _ _ (if (((items.size : Int) - 1) == 0 && (-1 : Int) == 1 && items.size == items.size) = true then _ else _) _ _ s
  rw [if_neg hno, pick_back]
  first
    | exact wpAny_bind (m := Builtin.Tuple.tupleExact _) (wpAny_newObj_type (wpAny_pure ⟨_, rfl, wpAny_pure h⟩) hok)
    | exact wpAny_bind (m := Builtin.Tuple.tupleExact _) (wpAny_newObj_type (wpAny_bind (wpAny_pure (wpAny_pure ⟨_, rfl, wpAny_pure h⟩))) hok)
    | exact wpAny_bind (wpAny_bind (m := Builtin.Tuple.tupleExact _) (wpAny_newObj_type (wpAny_pure (wpAny_pure ⟨_, rfl, wpAny_pure h⟩)) hok))
    | exact wpAny_bind (wpAny_bind (m := Builtin.Tuple.tupleExact _) (wpAny_newObj_type (wpAny_pure ⟨_, rfl, wpAny_pure h⟩) hok))
end
def tRevT (K : PySem.W.Frag) (te : TE) : TE := fun σ H Q => te σ H fun x H1 => ∃ a xs, x = .ref a ∧ SqT K H1 a xs ∧ ∀ p, H1 p = none → Q (.ref p) (upd H1 p (.tup xs.reverse))
theorem pe_revT {e : Expr} {te : TE} {k : Nat} {p1 p2 p3 pos : Pos} (he : PE X e te) : PE X (.Subscript e (.Slice none none (some (.UnaryOp .USub (.Constant (.int 1) k p1) p2)) p3) pos) (tRevT X.K te) := by
  refine ⟨fun pins s σ H Q I h => ?_⟩
  refine Subscript_ (thn (he.run pins s σ H _ I h) fun v s1 ⟨x, H1, I1, r1, q1⟩ => ?_)
  obtain ⟨a, xs, ex, hx, q⟩ := q1
  subst ex
  cases r1
  have hst : PO X (some (.UnaryOp .USub (.Constant (.int 1) k p1) p2)) (tPart (tUn (rU fun i => .int (-i)) (tC (.int 1)))) := po_some (pe_un un_neg pe_int)
  refine wpAny_Slice (thn (po_none.run pins s1 σ H1 (fun o H2 => o = none ∧ H2 = H1) I1 ⟨rfl, rfl⟩) fun vl s2 ⟨l, H2, I2, pl, el, e2⟩ => ?_)
  subst el e2
  refine thn (po_none.run pins s2 σ H2 (fun o H3 => o = none ∧ H3 = H2) I2 ⟨rfl, rfl⟩) fun vu s3 ⟨u, H3, I3, pu, eu, e3⟩ => ?_
  subst eu e3
  refine thn (hst.run pins s3 σ H3 (fun o H4 => o = some (-1) ∧ H4 = H3) I3 ⟨1, rfl, -1, rfl, rfl, rfl⟩) fun vs s4 ⟨o, H4, I4, ps, eo, e4⟩ => ?_
  subst eo e4
  cases pl
  cases pu
  generalize em : some (-1 : Int) = om at ps
  cases ps with
  | none => cases em
  | int i t =>
    have ei : i = -1 := (Option.some.inj em).symm
    subst ei
    have I5 : Inv X pins σ H4 { s4 with heap := s4.heap.push { cls := .type "slice", data := .fields #[.none, .none, .int (-1) t] } } := I4.kept (t' := s4.toks) fun b ob q => Heap.get?_push_of_some _ q
    obtain ⟨its, r, ht, hz⟩ := I5.tuple hx
    have hlen := r.length
    show wpAny (model X.prog X.w) X.A (subscriptTail e (.Slice none none (some (.UnaryOp .USub (.Constant (.int 1) k p1) p2)) p3) (.ref a) (.ref s4.heap.objs.size)) (EP X pins σ Q) X.xe { s4 with heap := s4.heap.push { cls := .type "slice", data := .fields #[.none, .none, .int (-1) t] } }
    refine tail_any (ops := [.ref a, .ref s4.heap.objs.size]) ht.typeIs (PyProof.Rows.slot_tuple_getitem.lookup) ?_ (by with_unfolding_all rfl)
    refine getItem_back ht (Heap.IsSliceOf.new _ .none .none (.int (-1) t)) ?_ (by rw [List.size_toArray]; omega)
    refine ⟨.ref _, _, I5.laid (t' := s4.toks) (o := .tup xs.reverse) (fun b ob q => Heap.get?_push_of_some _ q) (Nat.le_refl _) ?_, rfl, q _ (I5.hok.fresh (Nat.le_refl _))⟩
    refine ⟨by rw [List.length_reverse]; exact hz, _, r.reverse, _, Heap.get?_push_size _ rfl, rfl, 0, ?_⟩
    simp

/-! ### range(n) as a value, its length -/
theorem cr_range1 : CallR X (.type "range") (fun vs H Q => ∃ j, vs = [V.int j] ∧ ∀ p, H p = none → Q (.ref p) (upd H p (.rng 0 j))) := by
  intro pins s σ H vs us Q I r h
  obtain ⟨j, rfl, q⟩ := h
  obtain ⟨u, rfl, ru⟩ := vals1 r
  obtain ⟨t, rfl⟩ := ru
  refine call_range_1 ⟨.ref s.heap.objs.size, upd H s.heap.objs.size (.rng 0 j), I.laid (t' := s.toks + 1 + 1) (fun b o e => Heap.get?_push_of_some _ e) (Nat.le_refl _) ?_, rfl, q _ (I.hok.fresh (Nat.le_refl _))⟩
  exact ⟨s.toks, t, s.toks + 1, Heap.get?_push_size _ rfl⟩
theorem call_lenRg : CallR X (.builtin "len") (fun xs H Q => ∃ (a : Addr) (n : Nat), xs = [.ref a] ∧ H a = some (.rng 0 (n : Int)) ∧ (n : Int) < 2 ^ 62 ∧ Q (.int n) H) := by
  intro pins s σ H xs us Q I r h
  obtain ⟨a, n, rfl, ha, hn, q⟩ := h
  obtain ⟨u, rfl, ru⟩ := vals1 r
  obtain rfl : u = Value.ref a := ru
  obtain ⟨t, v, w', e⟩ := I.hok a _ ha
  refine call_len_range (n := n) (show IsRange s.heap a 0 n 1 t v w' from e) ?_ (by omega) ⟨.int n, H, I.tok _, ⟨_, rfl⟩, q⟩
  rw [rangeSize_one]
  split <;> omega

/-! ### a power of any size that fits -/
theorem op_powW : OpR X (binaryOp .Pow) (rI (fun i j => 0 ≤ j ∧ (Builtin.Int.intBits i : Int) * j ≤ 2 ^ 27) fun i j => .int (i ^ j.toNat)) := opI fun _ _ _ _ _ _ _ hc q => pow_int hc.1 hc.2 q
end
end Sps
set_option Elab.async false
set_option linter.all false
set_option maxRecDepth 100000
set_option maxHeartbeats 4000000
/-! The row's program: its defs by name. -/
namespace Sps
open PySem PySem.Spec PyProof.Rows L2
abbrev pw : Program := PySem.Challenge.pw_oneedition_k86_asks_and_time
def top (i : Nat) : Stmt := pw.main.body.getD i (.Pass ⟨0, 0, 0, 0⟩)
abbrev s__wall : Stmt := top 0
abbrev s_BadSpans___init__ : Stmt := inClass (top 3) 0
abbrev s_BadCopies___init__ : Stmt := inClass (top 4) 0
abbrev s_BadPiece___init__ : Stmt := inClass (top 5) 0
abbrev s_BadCount___init__ : Stmt := inClass (top 6) 0
abbrev s_BadWord___init__ : Stmt := inClass (top 7) 0
abbrev s_BadLength___init__ : Stmt := inClass (top 8) 0
abbrev s_BadTime___init__ : Stmt := inClass (top 9) 0
abbrev s_BadNames___init__ : Stmt := inClass (top 10) 0
abbrev s_BadStart___init__ : Stmt := inClass (top 11) 0
abbrev s_BadBytes___init__ : Stmt := inClass (top 12) 0
abbrev s_NoCopy___init__ : Stmt := inClass (top 13) 0
abbrev s_NoAsk___init__ : Stmt := inClass (top 14) 0
abbrev s_NoMark___init__ : Stmt := inClass (top 15) 0
abbrev s_NoAnswer___init__ : Stmt := inClass (top 16) 0
abbrev s_NoHead___init__ : Stmt := inClass (top 17) 0
abbrev s_NoWord___init__ : Stmt := inClass (top 18) 0
abbrev s_Ended___init__ : Stmt := inClass (top 19) 0
abbrev s_Contradiction___init__ : Stmt := inClass (top 20) 0
abbrev s_TooMany___init__ : Stmt := inClass (top 21) 0
abbrev s_is_whole_number : Stmt := top 25
abbrev s_is_within : Stmt := top 26
abbrev s_is_number_in : Stmt := top 27
abbrev s__is_made_of : Stmt := top 28
abbrev s_is_name : Stmt := top 29
abbrev s_is_word : Stmt := top 30
abbrev s_is_tuple_of : Stmt := top 31
abbrev s__is_pair : Stmt := top 34
abbrev s__merged : Stmt := top 35
abbrev s__gaps : Stmt := top 36
abbrev s_Spans___init__ : Stmt := inClass (top 37) 0
abbrev s_Spans___and__ : Stmt := inClass (top 37) 1
abbrev s_Spans___or__ : Stmt := inClass (top 37) 2
abbrev s_Spans___sub__ : Stmt := inClass (top 37) 3
abbrev s_Spans___contains__ : Stmt := inClass (top 37) 4
abbrev s_Spans___len__ : Stmt := inClass (top 37) 5
abbrev s_Spans___eq__ : Stmt := inClass (top 37) 6
abbrev s__leads_out : Stmt := top 40
abbrev s_is_copy : Stmt := top 41
abbrev s_are_copies : Stmt := top 42
abbrev s_check_copies : Stmt := top 43
abbrev s_check_copy : Stmt := top 44
abbrev s_check_spans : Stmt := top 45
abbrev s_check_answer : Stmt := top 46
abbrev s_check_answers : Stmt := top 47
abbrev s_check_word : Stmt := top 48
abbrev s_check_ask : Stmt := top 49
abbrev s_check_mark : Stmt := top 50
abbrev s_check_flowing : Stmt := top 51
abbrev s_check_length : Stmt := top 52
abbrev s_check_until : Stmt := top 53
abbrev s_are_names : Stmt := top 54
abbrev s_check_names : Stmt := top 55
abbrev s_are_bytes : Stmt := top 56
abbrev s_check_part : Stmt := top 57
abbrev s_joined : Stmt := top 59
abbrev s_cut : Stmt := top 60
abbrev s_spans_of : Stmt := top 61
abbrev s_byte_at : Stmt := top 62
abbrev s_members : Stmt := top 64
abbrev s_lowest : Stmt := top 65
abbrev s_mask_of : Stmt := top 66
abbrev s__sharing : Stmt := top 67
abbrev s__seen_at : Stmt := top 68
abbrev s__by_time : Stmt := top 69
abbrev s__reached : Stmt := top 70
abbrev s__turned : Stmt := top 71
abbrev s_Steps___init__ : Stmt := inClass (top 72) 0
abbrev s_Steps_are_two : Stmt := inClass (top 72) 1
abbrev s_Steps__older_than : Stmt := inClass (top 72) 2
abbrev s_Steps_tied_by_edition : Stmt := inClass (top 72) 3
abbrev s_Steps_tied_by_meaning : Stmt := inClass (top 72) 4
abbrev s_Steps_group : Stmt := inClass (top 72) 5
abbrev s_Content___init__ : Stmt := inClass (top 74) 0
abbrev s__told : Stmt := top 75
abbrev s_union : Stmt := top 76
abbrev s__pieces_fit : Stmt := top 77
abbrev s__named_runs : Stmt := top 78
abbrev s__with_named : Stmt := top 79
abbrev s_contents_of : Stmt := top 80
abbrev s_may_be_same : Stmt := top 82
abbrev s_is_not_newer : Stmt := top 83
abbrev s_is_same : Stmt := top 84
abbrev s_above_of : Stmt := top 86
abbrev s_Site___init__ : Stmt := inClass (top 87) 0
abbrev s_Ask___init__ : Stmt := inClass (top 88) 0
abbrev s_Answer___init__ : Stmt := inClass (top 89) 0
abbrev s_with_runs : Stmt := top 90
abbrev s_with_stage : Stmt := top 91
abbrev s_Picture___init__ : Stmt := inClass (top 94) 0
abbrev s_Picture_content : Stmt := inClass (top 94) 1
abbrev s_Picture_least_number : Stmt := inClass (top 94) 2
abbrev s_with_ghost : Stmt := top 95
abbrev s_without_world : Stmt := top 96
abbrev s__seen_now : Stmt := top 98
abbrev s_surely_has : Stmt := top 99
abbrev s__or_dash : Stmt := top 101
abbrev s__spans_word : Stmt := top 102
abbrev s__site_lines : Stmt := top 103
abbrev s__ask_line : Stmt := top 104
abbrev s__head_lines : Stmt := top 105
abbrev s__answer_lines : Stmt := top 106
abbrev s_text_of : Stmt := top 107
abbrev s_State___init__ : Stmt := inClass (top 109) 0
abbrev s_first_state : Stmt := top 110
abbrev s_picture_of : Stmt := top 111
abbrev s_later : Stmt := top 112
abbrev s__with_asks : Stmt := top 113
abbrev s__with_told : Stmt := top 114
abbrev s__checked : Stmt := top 115
abbrev s__put : Stmt := top 116
abbrev s__closed : Stmt := top 117
abbrev s_after_ask : Stmt := top 118
abbrev s_after_answer : Stmt := top 119
abbrev s_after_loss : Stmt := top 120
abbrev s_after_part : Stmt := top 121
abbrev s_after_end : Stmt := top 122
abbrev s_Trial___init__ : Stmt := inClass (top 125) 0
abbrev s_Trial___enter__ : Stmt := inClass (top 125) 1
abbrev s_Trial___exit__ : Stmt := inClass (top 125) 2
abbrev s_Trial_keep : Stmt := inClass (top 125) 3
abbrev s__ranks : Stmt := top 127
abbrev s__laid_out : Stmt := top 128
abbrev s_world_of : Stmt := top 129
abbrev s_Keeper___init__ : Stmt := inClass (top 131) 0
abbrev s_Keeper_become : Stmt := inClass (top 131) 1
abbrev s_Keeper___eq__ : Stmt := inClass (top 131) 2
abbrev s_Keeper_wait : Stmt := inClass (top 131) 3
abbrev s_Keeper_ask : Stmt := inClass (top 131) 4
abbrev s_Keeper_head : Stmt := inClass (top 131) 5
abbrev s_Keeper_changed : Stmt := inClass (top 131) 6
abbrev s_Keeper_lost : Stmt := inClass (top 131) 7
abbrev s_Keeper_part : Stmt := inClass (top 131) 8
abbrev s_Keeper_ended : Stmt := inClass (top 131) 9
abbrev s_Keeper_compared : Stmt := inClass (top 131) 10
abbrev s_Keeper_alike : Stmt := inClass (top 131) 11
abbrev s_Keeper_reason : Stmt := inClass (top 131) 12
abbrev s_Keeper_world : Stmt := inClass (top 131) 13
abbrev s_Keeper_groups : Stmt := inClass (top 131) 14
abbrev s_Keeper_length : Stmt := inClass (top 131) 15
abbrev s_Keeper_known : Stmt := inClass (top 131) 16
abbrev s_Keeper_byte : Stmt := inClass (top 131) 17
abbrev s_Keeper_is_whole : Stmt := inClass (top 131) 18
abbrev s_Keeper_stretches : Stmt := inClass (top 131) 19
abbrev s_Keeper_ground : Stmt := inClass (top 131) 20
abbrev s_Keeper_let_go : Stmt := inClass (top 131) 21
abbrev s_Keeper_fold : Stmt := inClass (top 131) 22
abbrev s_Keeper_sightings : Stmt := inClass (top 131) 23
abbrev s_Keeper_may_have : Stmt := inClass (top 131) 24
abbrev s_Keeper_has : Stmt := inClass (top 131) 25
abbrev s_Keeper_possible : Stmt := inClass (top 131) 26
abbrev s_Keeper_order : Stmt := inClass (top 131) 27
abbrev s_Keeper_ordered : Stmt := inClass (top 131) 28
abbrev s_Keeper_trial : Stmt := inClass (top 131) 29
abbrev s_Keeper_tried : Stmt := inClass (top 131) 30
abbrev s_Keeper__place : Stmt := inClass (top 131) 31
abbrev s_Keeper__two : Stmt := inClass (top 131) 32
abbrev s_Keeper__content : Stmt := inClass (top 131) 33
abbrev s__law_pot : Stmt := top 133
abbrev s__law_draw : Stmt := top 134
abbrev s__law_any : Stmt := top 135
abbrev s__law_words : Stmt := top 136
abbrev s__law_copies : Stmt := top 137
abbrev s__law_caught : Stmt := top 138
abbrev s__law_is_word : Stmt := top 139
abbrev s__law_is_number : Stmt := top 140
abbrev s__law_asked_right : Stmt := top 141
abbrev s__law_call_right : Stmt := top 142
abbrev s__law_right : Stmt := top 143
abbrev s_law : Stmt := top 144
/-- what the top leaves of names -/
structure Names (mg : Str → Option Value) : Prop where
  ValueError : mg "ValueError" = none
  abs : mg "abs" = none
  all : mg "all" = none
  any : mg "any" = none
  bool : mg "bool" = none
  dict : mg "dict" = none
  enumerate : mg "enumerate" = none
  int : mg "int" = none
  isinstance : mg "isinstance" = none
  len : mg "len" = none
  list : mg "list" = none
  max : mg "max" = none
  min : mg "min" = none
  range : mg "range" = none
  repr : mg "repr" = none
  set : mg "set" = none
  sorted : mg "sorted" = none
  str : mg "str" = none
  sum : mg "sum" = none
  tuple : mg "tuple" = none
  zip : mg "zip" = none
  LETTERS : ∃ t, mg "LETTERS" = some (.str "abcdefghijklmnopqrstuvwxyz" t)
  DIGITS : ∃ t, mg "DIGITS" = some (.str "0123456789" t)
  END : ∃ t, mg "END" = some (.int (1000000) t)
  LAST_TIME : ∃ t, mg "LAST_TIME" = some (.int (1000000000) t)
  GHOST : ∃ t, mg "GHOST" = some (.int (-1) t)
  LIMIT : ∃ t, mg "LIMIT" = some (.int (4) t)
end Sps
set_option Elab.async false
set_option linter.all false
set_option maxRecDepth 100000
set_option maxHeartbeats 0
/-! The head: what is told of the program's start. -/
namespace Sps
open PySem PySem.Spec PyProof.Rows L2
def dd (x : Str) (st : Stmt) : He.DefD := ⟨(x, none), x, x, defArgs st, defBody st, defScope st, [], []⟩
def dm (c m q : Str) (st : Stmt) (dfl : List He.Dv) (kwd : List (Str × He.Dv)) : He.DefD := ⟨(c, some m), m, q, defArgs st, defBody st, defScope st, dfl, kwd⟩
def fnF : List He.DefD := [
  dd "is_whole_number" s_is_whole_number,
  dd "is_within" s_is_within,
  dd "is_number_in" s_is_number_in,
  dd "_is_made_of" s__is_made_of,
  dd "is_name" s_is_name,
  dd "is_word" s_is_word,
  dd "is_tuple_of" s_is_tuple_of,
  dd "_is_pair" s__is_pair,
  dd "_merged" s__merged,
  dd "_leads_out" s__leads_out,
  dd "is_copy" s_is_copy,
  dd "are_copies" s_are_copies,
  dd "check_copies" s_check_copies,
  dd "check_copy" s_check_copy,
  dd "check_spans" s_check_spans,
  dd "check_word" s_check_word,
  dd "check_ask" s_check_ask,
  dd "mask_of" s_mask_of,
  dd "_sharing" s__sharing,
  dd "_seen_at" s__seen_at,
  dd "_by_time" s__by_time,
  dd "_reached" s__reached,
  dd "_turned" s__turned,
  dd "_named_runs" s__named_runs,
  dd "contents_of" s_contents_of,
  dd "above_of" s_above_of,
  dd "first_state" s_first_state,
  dd "later" s_later,
  dd "_with_asks" s__with_asks,
  dd "_closed" s__closed,
  dd "after_ask" s_after_ask,
  dd "after_loss" s_after_loss,
  dd "_law_pot" s__law_pot,
  dd "_law_draw" s__law_draw,
  dd "_law_any" s__law_any,
  dd "_law_words" s__law_words,
  dd "_law_copies" s__law_copies,
  dd "_law_caught" s__law_caught,
  dd "_law_is_word" s__law_is_word,
  dd "_law_is_number" s__law_is_number,
  dd "_law_asked_right" s__law_asked_right,
  dd "_law_call_right" s__law_call_right,
  dd "_law_right" s__law_right,
  dd "law" s_law]
def fnM : List He.DefD := [
  dm "NoCopy" "__init__" "NoCopy.__init__" s_NoCopy___init__ [] [],
  dm "BadSpans" "__init__" "BadSpans.__init__" s_BadSpans___init__ [] [],
  dm "BadWord" "__init__" "BadWord.__init__" s_BadWord___init__ [] [],
  dm "NoAsk" "__init__" "NoAsk.__init__" s_NoAsk___init__ [] [],
  dm "BadCount" "__init__" "BadCount.__init__" s_BadCount___init__ [] [],
  dm "Spans" "__init__" "Spans.__init__" s_Spans___init__ [] [],
  dm "Steps" "__init__" "Steps.__init__" s_Steps___init__ [.adr (He.dflAt ("Steps", some "__init__") 0)] [],
  dm "Site" "__init__" "Site.__init__" s_Site___init__ [] [],
  dm "Ask" "__init__" "Ask.__init__" s_Ask___init__ [] [],
  dm "Picture" "__init__" "Picture.__init__" s_Picture___init__ [] [],
  dm "State" "__init__" "State.__init__" s_State___init__ [] [],
  dm "Keeper" "__init__" "Keeper.__init__" s_Keeper___init__ [] [("piece", .int 4)],
  dm "Keeper" "become" "Keeper.become" s_Keeper_become [] [],
  dm "Keeper" "wait" "Keeper.wait" s_Keeper_wait [] [],
  dm "Keeper" "ask" "Keeper.ask" s_Keeper_ask [.non] [("only", .non)],
  dm "Keeper" "lost" "Keeper.lost" s_Keeper_lost [] []]
def fnA : List He.DefD := fnF ++ fnM
def faG : List He.Fa := [.glo "is_whole_number", .glo "is_within", .glo "is_number_in", .glo "_is_made_of", .glo "is_name", .glo "is_word", .glo "is_tuple_of", .glo "_is_pair", .glo "_merged", .glo "_leads_out", .glo "is_copy", .glo "are_copies", .glo "check_copies", .glo "check_copy", .glo "check_spans", .glo "check_word", .glo "check_ask", .glo "mask_of", .glo "_sharing", .glo "_seen_at", .glo "_by_time", .glo "_reached", .glo "_turned", .glo "_named_runs", .glo "contents_of", .glo "above_of", .glo "first_state", .glo "later", .glo "_with_asks", .glo "_closed", .glo "after_ask", .glo "after_loss", .glo "_law_pot", .glo "_law_draw", .glo "_law_any", .glo "_law_words", .glo "_law_copies", .glo "_law_caught", .glo "_law_is_word", .glo "_law_is_number", .glo "_law_asked_right", .glo "_law_call_right", .glo "_law_right", .glo "law", .glo "Spans", .glo "Keeper", .glo "State", .glo "Site", .glo "Picture", .glo "Steps", .glo "Ask", .glo "NoCopy", .glo "BadSpans", .glo "BadWord", .glo "NoAsk", .glo "BadCount", .glo "KeeperError"]
def faF : List He.Fa := [.free "ValueError", .free "abs", .free "all", .free "any", .free "bool", .free "dict", .free "enumerate", .free "int", .free "isinstance", .free "len", .free "list", .free "max", .free "min", .free "range", .free "repr", .free "set", .free "sorted", .free "str", .free "sum", .free "tuple", .free "zip"]
def faC : List He.Fa := [.str "LETTERS" "abcdefghijklmnopqrstuvwxyz", .str "DIGITS" "0123456789", .int "END" 1000000, .int "LAST_TIME" 1000000000, .int "GHOST" (-1), .int "LIMIT" 4]
def faO : List He.Fa := [.cls "Keeper", .mkr "Keeper", .cls "State", .mkr "State", .cls "Site", .mkr "Site", .cls "Picture", .mkr "Picture", .cls "Steps", .mkr "Steps", .cls "Ask", .mkr "Ask", .cls "Spans", .mkr "Spans"]
def faM : List He.Fa := [.meth "Keeper" "become", .meth "Keeper" "wait", .meth "Keeper" "ask", .meth "Keeper" "lost"]
def faA : List He.Fa := faG ++ (faF ++ (faC ++ (faO ++ faM)))
def tfA : List He.Defn := [("_law_asked_right", none), ("_law_call_right", none)]
def errs : List Str := ["NoCopy", "BadSpans", "BadWord", "NoAsk", "BadCount"]
def oB (a b : Option (Option Value)) : Bool := decide (a = b)
/-- the class at C as an error's class is laid: own texts in its order, then ValueError's -/
def exClsB (K : PySem.W.Frag) (C : Addr) : Bool := match K.lookup C with
  | some ⟨.type c, _, .cls cd, sl⟩ => decide (c = "type") && (match cd.mro, sl.toList with
    | .ref D :: bm, [_, _, _, _, some (.builtin n), _] => decide (D = C) && (decide (n = "ValueError.__new__") && (!cd.hasDel && (cd.hasDict && PySem.HandSPX.refsVE bm)))
    | _, _ => false)
  | _ => false
def errB (K : PySem.W.Frag) (e : Str) : Bool :=
  exClsB K (He.ga K e) && (xfB K (He.ga K e) && (oB (PySem.W.findIn K (.ref (He.ga K e)) "__setattr__") (some (some (.builtin "object.__setattr__"))) &&
  (decide (PySem.W.typeIn K (.ref (He.ga K e)) = some (.type "type")) && (PySem.W.keepIn K (.ref (He.ga K e)) && (oB (PySem.W.findIn K (.ref (He.ga K e)) "value") (some none) &&
  (oB (PySem.W.findIn K (.ref (He.ga K e)) "__init__") (some (some (.ref (He.ma K (He.ga K e) "__init__")))) && decide (PySem.W.typeIn K (.ref (He.ma K (He.ga K e) "__init__")) = some (.type "function"))))))))
def keB (K : PySem.W.Frag) : Bool := oB (PySem.W.specialIn K (.ref (He.ga K "KeeperError")) "__getattribute__") (some (some (.builtin "type.__getattribute__"))) && (decide (PySem.W.typeIn K (.ref (He.ga K "KeeperError")) = some (.type "type")) && (PySem.W.readsIn K (He.ga K "KeeperError") (.type "type") &&
  (match PySem.W.findCls K (.ref (He.ga K "KeeperError")) (.type "type") "__init__" with
    | some (.val v) => decide (v = .builtin "ValueError.__init__")
    | _ => false)))
def kB (K : PySem.W.Frag) (t : Value) (b : Bool) : Bool := decide (PySem.W.kitOne K t (.ref (He.ga K "Spans")) = some b)
def spB (K : PySem.W.Frag) : Bool := PySem.W.selfFirst K (He.ga K "Spans") && (PySem.W.notFirst K (He.ga K "Spans") (.ref (He.ga K "Spans")) && (PySem.W.notFirst K (He.ga K "Spans") (.type "tuple") && (PySem.W.notFirst K (He.ga K "Spans") (.type "int") &&
  (kB K (.ref (He.ga K "Spans")) true && (kB K (.type "tuple") false && (kB K (.type "int") false && (kB K (.type "NoneType") false && (kB K (.type "bool") false && (kB K (.type "str") false && (kB K (.type "list") false && (kB K (.type "dict") false &&
  (oB (PySem.W.findIn K (.ref (He.ga K "Spans")) "__class__") (some (some (.builtin "object.__class__"))) && (oB (PySem.W.specialIn K (.builtin "object.__class__") "__get__") (some (some (.builtin "getset_descriptor.__get__"))) &&
  (decide (PySem.W.takesIn K (.builtin "object.__class__") = some true) && decide (PySem.W.mroIn K (He.ga K "Spans") (.type "object") = some true)))))))))))))))
def empB (K : PySem.W.Frag) : Bool := match K.lookup (He.dflAt ("Steps", some "__init__") 0 K) with
  | some ⟨.type c, _, .seq its _, _⟩ => decide (c = "tuple") && its.isEmpty
  | _ => false
/-- no name of the class's own among these -/
def noB (K : PySem.W.Frag) (c : Str) (fs : List Str) : Bool := fs.all fun f => oB (PySem.W.findIn K (.ref (He.ga K c)) f) (some none)
theorem noB_ok {K : PySem.W.Frag} {c : Str} {fs : List Str} (h : noB K c fs = true) : ∀ x ∈ fs, NoAttr K (He.ga K c) x := fun x hx => of_decide_eq_true (p := PySem.W.findIn K (.ref (He.ga K c)) x = some none) (List.all_eq_true.mp h x hx)
def nosB (K : PySem.W.Frag) : Bool := noB K "Keeper" ["copies", "piece", "inside", "trials", "state", "now", "open_asks", "answers"] && (noB K "State" ["site", "time", "upcoming", "asks", "told", "gone", "picture"] &&
  (noB K "Site" ["copies", "piece", "above"] && (noB K "Picture" ["site", "rows", "ghosts", "place", "steps", "editions", "least", "contents", "fits"] &&
  (noB K "Steps" ["plain", "weak", "weaks", "ways", "meaning", "meaning_back", "older", "links", "edition", "edition_back"] && (noB K "Ask" ["source", "sent", "only", "spans"] && noB K "Spans" ["pairs"])))))
def exmB (K : PySem.W.Frag) : Bool := (List.range 5).all fun i => (List.range 5).all fun j => decide (PySem.W.exmOne K (.ref ((errs.map (He.ga K)).getD i 0)) (.ref ((errs.map (He.ga K)).getD j 0)) = some (decide (i = j)))
theorem exmB_ok {K : PySem.W.Frag} (h : exmB K = true) (i j : Nat) (C D : Addr) (hi : (errs.map (He.ga K))[i]? = some C) (hj : (errs.map (He.ga K))[j]? = some D) : PySem.W.exmOne K (.ref C) (.ref D) = some (decide (i = j)) := by
  have li : i < 5 := by
    have z := (List.getElem?_eq_some_iff.mp hi).1
    rwa [List.length_map] at z
  have lj : j < 5 := by
    have z := (List.getElem?_eq_some_iff.mp hj).1
    rwa [List.length_map] at z
  have q := of_decide_eq_true (List.all_eq_true.mp (List.all_eq_true.mp h i (List.mem_range.mpr li)) j (List.mem_range.mpr lj))
  rwa [List.getD_eq_getElem?_getD, hi, List.getD_eq_getElem?_getD, hj] at q
def difB (K : PySem.W.Frag) : Bool := decide (He.ga K "State" ≠ He.ga K "Keeper") && (decide (He.ga K "Site" ≠ He.ga K "Keeper") && decide ((He.cT K ("_law_asked_right", none)).2 ≠ (He.cT K ("_law_call_right", none)).2))
def exB (K : PySem.W.Frag) : Bool := (errs.all fun e => errB K e) && (keB K && (spB K && (empB K && (nosB K && (exmB K && difB K)))))
/-! ### the places that are looked at: by names, then what the defs, the classes, their own names and the defaults lead to -/
def refsN (o : Obj) : List Addr := match o.data with
  | .func fd => He.refV fd.code ++ (He.refV fd.defaults ++ He.refV fd.kwdefaults)
  | .cls cd => [cd.ns]
  | .seq its _ => its.toList.flatMap He.refV
  | .dict es _ => es.toList.flatMap fun e => He.refV e.val
  | _ => []
def stepN (g : Addr → Option Obj) (as : List Addr) : List Addr := as.flatMap fun a => match g a with
  | some o => refsN o
  | none => []
/-- a list told number by number -/
def frL {α : Type} : List Addr → (List Addr → α) → α
  | [], k => k []
  | a :: r, k => HandSHeadRun.frNat a fun a => frL r fun r => k (a :: r)
theorem frL_eq {α : Type} : ∀ (as : List Addr) (k : List Addr → α), frL as k = k as
  | [], _ => rfl
  | a :: r, k => by
    show HandSHeadRun.frNat a (fun a => frL r fun r => k (a :: r)) = _
    rw [HandSHeadRun.frNat_eq]
    exact frL_eq r _
def frP {α : Type} : PySem.W.Frag → (PySem.W.Frag → α) → α
  | [], k => k []
  | (a, o) :: r, k => HandSHeadRun.frNat a fun a => frP r fun r => k ((a, o) :: r)
theorem frP_eq {α : Type} : ∀ (K : PySem.W.Frag) (k : PySem.W.Frag → α), frP K k = k K
  | [], _ => rfl
  | (a, o) :: r, k => by
    show HandSHeadRun.frNat a (fun a => frP r fun r => k ((a, o) :: r)) = _
    rw [HandSHeadRun.frNat_eq]
    exact frP_eq r _
def needs0 : List Str := ["is_whole_number", "is_within", "is_number_in", "_is_made_of", "is_name", "is_word", "is_tuple_of", "_is_pair", "_merged", "_leads_out", "is_copy", "are_copies", "check_copies", "check_copy", "check_spans", "check_word", "check_ask", "mask_of", "_sharing", "_seen_at", "_by_time", "_reached", "_turned", "_named_runs", "contents_of", "above_of", "first_state", "later", "_with_asks"]
def needs1 : List Str := ["_closed", "after_ask", "after_loss", "_law_pot", "_law_draw", "_law_any", "_law_words", "_law_copies", "_law_caught", "_law_is_word", "_law_is_number", "_law_asked_right", "_law_call_right", "_law_right", "law", "Spans", "Keeper", "State", "Site", "Picture", "Steps", "Ask", "NoCopy", "BadSpans", "BadWord", "NoAsk", "BadCount", "KeeperError"]
def needs : List Str := needs0 ++ needs1
def asN (g : Addr → Option Obj) (xs : List Str) {α : Type} (k : List Addr → α) : α :=
  frL (xs.map fun x => He.ga (He.frG g [mainGlobals]) x) fun a1 => frL (stepN g a1) fun a2 => frL (stepN g a2) fun a3 => frL (stepN g a3) fun a4 => frL (stepN g a4) fun a5 => k (mainGlobals :: cStatics :: (a1 ++ (a2 ++ (a3 ++ (a4 ++ a5)))))
/-- what the names lead to -/
def kN (xs : List Str) (g : Addr → Option Obj) : PySem.W.Frag := asN g xs fun as => He.frT g as
theorem kN_is (xs : List Str) (g : Addr → Option Obj) : ∃ as, kN xs g = He.frT g as := by
  unfold kN asN
  simp only [frL_eq]
  exact ⟨_, rfl⟩
def fK (xs : List Str) (g : Addr → Option Obj) {α : Type} (k : PySem.W.Frag → α) : α := asN g xs fun as => frP (He.frT g as) k
theorem fK_eq (xs : List Str) (g : Addr → Option Obj) {α : Type} (k : PySem.W.Frag → α) : fK xs g k = k (kN xs g) := by
  unfold fK kN asN
  simp only [frL_eq, frP_eq]
def obsN (xs : List Str) (fa : List He.Fa) (fn : List He.DefD) (tf : List He.Defn) (ex : PySem.W.Frag → Bool) (g : Addr → Option Obj) : He.AlX := (He.obsT fa fn [] (kN xs g), ex (kN xs g) && He.tabsB g tf (kN xs g))
theorem says_of {xs : List Str} {fa : List He.Fa} {fn : List He.DefD} {tf : List He.Defn} {ex : PySem.W.Frag → Bool} {w : World} {h : Heap} (e : obsN xs fa fn tf ex h.get? = He.valX fn [] w) : He.SaysX fa fn [] tf ex w h (kN xs h.get?) := by
  obtain ⟨as, ek⟩ := kN_is xs h.get?
  have e1 : He.SaysT fa fn [] w (kN xs h.get?) := congrArg (fun z : He.AlX => z.1) e
  have e2 : (ex (kN xs h.get?) && He.tabsB h.get? tf (kN xs h.get?)) = true := congrArg (fun z : He.AlX => z.2) e
  obtain ⟨h1, h2⟩ := Bool.and_eq_true_iff.mp e2
  have none_ : ∀ {a : Addr} {o : Obj}, h.get? a = some o → He.emptyTab o = true → (kN xs h.get?).lookup a = none := fun q z => by
    rw [ek]
    exact He.frT_none q z
  generalize kN xs h.get? = K at e1 e2 h1 h2 none_ ⊢
  have all : ∀ p ∈ tf, PySem.W.codeHdIn K (He.cT K p).1 (He.cT K p).2 = true ∧ ∃ o, h.get? (He.cT K p).2 = some o ∧ He.emptyTab o = true := fun p hp => by
    obtain ⟨h4, h5⟩ := Bool.and_eq_true_iff.mp (List.all_eq_true.mp h2 p hp)
    refine ⟨h4, ?_⟩
    cases q : h.get? (He.cT K p).2 with
    | none =>
      rw [q] at h5
      cases h5
    | some o =>
      rw [q] at h5
      exact ⟨o, rfl, h5⟩
  refine ⟨e1, h1, fun p hp => (all p hp).1, fun p hp => ?_, fun p hp => ?_⟩
  · obtain ⟨_, o, q, z⟩ := all p hp
    exact none_ q z
  · obtain ⟨_, o, q, z⟩ := all p hp
    rw [q, He.emptyTab_eq z]
theorem kN_in {xs : List Str} {h : Heap} : (kN xs h.get?).In h := by
  obtain ⟨as, ek⟩ := kN_is xs h.get?
  rw [ek]
  exact He.frT_in
def hookN (xs : List Str) (fa : List He.Fa) (fn : List He.DefD) (tf : List He.Defn) (ex : PySem.W.Frag → Bool) : PySem.W.Hook where
  α := He.AlX
  obs := fun s => obsN xs fa fn tf ex s.heap.get?
  val := fun w => He.valX fn [] w
  says := fun w h => ∃ K : PySem.W.Frag, K.In h ∧ He.SaysX fa fn [] tf ex w h K
  of := fun _ _ e => ⟨_, kN_in, says_of e⟩
  keeps := fun _ _ _ ⟨K, hK, c⟩ k => ⟨K, PySem.W.Frag.In.keeps hK k, ⟨c.t, c.more, c.hd, c.out, fun p hp => k _ _ (c.empty p hp)⟩⟩
abbrev Rk86 : PySem.W.OpenRow := PySem.W.OpenLaw.row PySem.Challenge.rw_oneedition_k86_asks_and_time
abbrev qk86 : Program := PySem.W.view Rk86.prog [144]
abbrev hkA : PySem.W.Hook := hookN needs faA fnA tfA exB
/-- the same, told piece by piece -/
def ob (s : PySem.W.SharedT) : He.AlX := fK needs (HandSHeadRun.getT s) fun K => (He.obsT faA fnA [] K, exB K && He.tabsB (HandSHeadRun.getT s) tfA K)
theorem ob_eq (s : PySem.W.SharedT) : ob s = hkA.obs s.abs := by
  have e : HandSHeadRun.getT s = s.abs.heap.get? := funext (HandSHeadRun.getT_eq s)
  unfold ob
  rw [fK_eq, e]
  rfl
def names0 : List Str := ["_wall", "KeeperError", "BadSpans", "BadCopies", "BadPiece", "BadCount", "BadWord", "BadLength", "BadTime", "BadNames", "BadStart", "BadBytes", "NoCopy", "NoAsk", "NoMark", "NoAnswer", "NoHead", "NoWord", "Ended", "Contradiction", "TooMany", "LETTERS", "DIGITS", "is_whole_number", "is_within", "is_number_in", "_is_made_of", "is_name", "is_word", "is_tuple_of"]
def names1 : List Str := ["END", "_is_pair", "_merged", "_gaps", "Spans", "LAST_TIME", "_leads_out", "is_copy", "are_copies", "check_copies", "check_copy", "check_spans", "check_answer", "check_answers", "check_word", "check_ask", "check_mark", "check_flowing", "check_length", "check_until", "are_names", "check_names", "are_bytes", "check_part", "joined", "cut", "spans_of", "byte_at", "members", "lowest"]
def names2 : List Str := ["mask_of", "_sharing", "_seen_at", "_by_time", "_reached", "_turned", "Steps", "Content", "_told", "union", "_pieces_fit", "_named_runs", "_with_named", "contents_of", "may_be_same", "is_not_newer", "is_same", "above_of", "Site", "Ask", "Answer", "with_runs", "with_stage", "GHOST", "Picture", "with_ghost", "without_world", "_seen_now", "surely_has", "_or_dash"]
def names3 : List Str := ["_spans_word", "_site_lines", "_ask_line", "_head_lines", "_answer_lines", "text_of", "State", "first_state", "picture_of", "later", "_with_asks", "_with_told", "_checked", "_put", "_closed", "after_ask", "after_answer", "after_loss", "after_part", "after_end", "LIMIT", "Trial", "_ranks", "_laid_out", "world_of", "Keeper", "_law_pot", "_law_draw", "_law_any", "_law_words"]
def names4 : List Str := ["_law_copies", "_law_caught", "_law_is_word", "_law_is_number", "_law_asked_right", "_law_call_right", "_law_right"]
def names : List Str := names0 ++ names1 ++ names2 ++ names3 ++ names4
/-- the run's end: `kernel_rfl` of an equation that starts with this is the test of any one fact -/
noncomputable def theS (w : World) (os : OsState) := HandSHeadRun.endF (HandSHeadRun.stepQ (HandSHeadRun.denQ HandSHeadRun.tabQ) Rk86.prog w) 30000 Rk86.prog w os
end Sps
set_option Elab.async false
set_option linter.all false
set_option maxRecDepth 100000
set_option maxHeartbeats 0
/-! The head's run, told in four parts: one alone takes too much room. -/
namespace Sps
open PySem PySem.Spec PyProof.Rows L2
theorem r1 (w : World) (os : OsState) : (HandSHeadRun.endF (HandSHeadRun.stepQ (HandSHeadRun.denQ HandSHeadRun.tabQ) Rk86.prog w) 30000 Rk86.prog w os).map (fun s => (HandSHeadRun.looksF Rk86.prog (PySem.W.boot_heap w.params) s.abs, HandSHeadRun.seenQ qk86 names (importedModules Rk86.prog.main.body) (fun s => PySem.W.xlAt qk86 [] s && PySem.W.recOk Rk86.toRowW.records s) s.abs)) = some (true, PySem.W.openGood qk86 names) := by
  kernel_rfl
theorem r2 (w : World) (os : OsState) : (theS w os).map (fun s => fK needs (HandSHeadRun.getT s) fun K => (faA.all fun f => f.ok K) && (exB K && He.tabsB (HandSHeadRun.getT s) tfA K)) = some true := by
  kernel_rfl
theorem r3 (w : World) (os : OsState) : (theS w os).map (fun s => fK needs (HandSHeadRun.getT s) fun K => fnA.all fun d => d.ok K) = some true := by
  kernel_rfl
theorem r4 (w : World) (os : OsState) : (theS w os).map (fun s => fK needs (HandSHeadRun.getT s) fun K => fnA.map fun d => He.fnW K d.at_) = some (fnA.map He.DefD.val) := by
  kernel_rfl
theorem join2 {σ A B C : Type} {x : Option σ} {l : σ → A} {q : σ → B} {o : σ → C} {a : A} {b : B} {v : C} (h1 : x.map (fun s => (l s, q s)) = some (a, b)) (h2 : ∀ s, x = some s → o s = v) : x.map (fun s => (l s, q s, o s)) = some (a, b, v) := by
  obtain ⟨s, hs, h⟩ := Option.map_eq_some_iff.mp h1
  rw [hs]
  show some (l s, q s, o s) = _
  rw [h2 s hs]
  injection h with e1 e2
  rw [e1, e2]
theorem joinK {A : Type} {as : List He.Fa} {fs : List He.DefD} {b : Bool} {K : PySem.W.Frag} (e2 : ((as.all fun f => f.ok K) && b) = true) (e3 : (fs.all fun d => d.ok K) = true) (e4 : (fs.map fun d => He.fnW K d.at_) = fs.map He.DefD.val) (w : World) :
    ((He.obsT as fs [] K, b) : He.AlX) = He.valX fs [] w := by
  obtain ⟨e5, e6⟩ := Bool.and_eq_true_iff.mp e2
  unfold He.obsT He.obsD He.valX He.valT He.valD
  rw [e3, e4, e5, e6] <;> rfl
theorem some_of {σ C : Type} {x : Option σ} {f : σ → C} {v : C} (h : x.map f = some v) {s : σ} (e : x = some s) : f s = v := by
  rw [e] at h
  exact Option.some.inj h
theorem obA (w : World) (os : OsState) (s : PySem.W.SharedT) (e : theS w os = some s) : ob s = He.valX fnA [] w := by
  have e2 := some_of (r2 w os) e
  have e3 := some_of (r3 w os) e
  have e4 := some_of (r4 w os) e
  rw [fK_eq] at e2 e3 e4
  unfold ob
  rw [fK_eq]
  exact joinK (A := Nat) e2 e3 e4 w
theorem runA (w : World) : HandSHeadRun.RunEq Rk86 qk86 hkA ob 30000 names w := by
  unfold HandSHeadRun.RunEq
  intro os
  refine join2 (r1 w os) fun s e => ?_
  exact obA w os s e
end Sps
set_option Elab.async false
set_option linter.all false
set_option maxRecDepth 100000
set_option maxHeartbeats 4000000
/-! Sets of positions as lists of pairs: plain mathematics. -/
namespace Sps
abbrev Pr := Int × Int
def inP (x : Int) (p : Pr) : Prop := p.1 ≤ x ∧ x < p.2
def inS (x : Int) (ps : List Pr) : Prop := ∃ p, p ∈ ps ∧ inP x p
def okP (p : Pr) : Prop := 0 ≤ p.1 ∧ p.1 < p.2 ∧ p.2 ≤ 1000000
/-- each pair is one, they ascend and neither overlap nor touch -/
structure Norm (ps : List Pr) : Prop where
  ok : ∀ p ∈ ps, okP p
  asc : ps.Pairwise fun p q => p.2 < q.1
theorem inS_nil {x : Int} : ¬ inS x [] := fun ⟨_, h, _⟩ => by cases h
theorem inS_cons {x : Int} {p : Pr} {ps : List Pr} : inS x (p :: ps) ↔ inP x p ∨ inS x ps := by
  constructor
  · rintro ⟨q, hq, hx⟩
    rcases List.mem_cons.mp hq with e | h
    · exact .inl (e ▸ hx)
    · exact .inr ⟨q, h, hx⟩
  · rintro (h | ⟨q, hq, hx⟩)
    · exact ⟨p, List.mem_cons_self, h⟩
    · exact ⟨q, List.mem_cons_of_mem _ hq, hx⟩
theorem inS_append {x : Int} {ps qs : List Pr} : inS x (ps ++ qs) ↔ inS x ps ∨ inS x qs := by
  constructor
  · rintro ⟨q, hq, hx⟩
    rcases List.mem_append.mp hq with h | h
    · exact .inl ⟨q, h, hx⟩
    · exact .inr ⟨q, h, hx⟩
  · rintro (⟨q, hq, hx⟩ | ⟨q, hq, hx⟩)
    · exact ⟨q, List.mem_append.mpr (.inl hq), hx⟩
    · exact ⟨q, List.mem_append.mpr (.inr hq), hx⟩
theorem inS_one {x : Int} {p : Pr} : inS x [p] ↔ inP x p := by
  rw [inS_cons]
  exact ⟨fun h => h.elim id fun z => (inS_nil z).elim, .inl⟩
theorem Norm.nil : Norm [] := ⟨fun _ h => (by cases h), List.Pairwise.nil⟩
theorem Norm.tail {p : Pr} {ps : List Pr} (h : Norm (p :: ps)) : Norm ps := ⟨fun q m => h.ok q (List.mem_cons_of_mem _ m), (List.pairwise_cons.mp h.asc).2⟩
theorem Norm.head {p : Pr} {ps : List Pr} (h : Norm (p :: ps)) : ∀ q ∈ ps, p.2 < q.1 := (List.pairwise_cons.mp h.asc).1
theorem Norm.snoc {ps : List Pr} {p : Pr} (h : Norm ps) (hp : okP p) (hl : ∀ q ∈ ps, q.2 < p.1) : Norm (ps ++ [p]) := by
  refine ⟨fun q m => ?_, ?_⟩
  · rcases List.mem_append.mp m with m | m
    · exact h.ok q m
    · rw [List.mem_singleton.mp m]; exact hp
  · refine List.pairwise_append.mpr ⟨h.asc, List.pairwise_singleton _ _, fun a ha b hb => ?_⟩
    rw [List.mem_singleton.mp hb]
    exact hl a ha
/-- two such lists with the same positions are one -/
theorem Norm.uniq : ∀ {ps qs : List Pr}, Norm ps → Norm qs → (∀ x, inS x ps ↔ inS x qs) → ps = qs
  | [], [], _, _, _ => rfl
  | [], q :: qs, _, hq, h => by
    have k := hq.ok q List.mem_cons_self
    exact (inS_nil ((h q.1).mpr (inS_cons.mpr (.inl ⟨Int.le_refl _, k.2.1⟩)))).elim
  | p :: ps, [], hp, _, h => by
    have k := hp.ok p List.mem_cons_self
    exact (inS_nil ((h p.1).mp (inS_cons.mpr (.inl ⟨Int.le_refl _, k.2.1⟩)))).elim
  | p :: ps, q :: qs, hp, hq, h => by
    have kp := hp.ok p List.mem_cons_self
    have kq := hq.ok q List.mem_cons_self
    have lo : ∀ {r : Pr} {rs : List Pr} {x : Int}, Norm (r :: rs) → inS x rs → r.2 < x := fun {r rs x} hn ⟨t, mt, hx⟩ => by
      have a := hn.head t mt
      have b := hx.1
      omega
    have c1 := inS_cons.mp ((h p.1).mp (inS_cons.mpr (.inl ⟨Int.le_refl _, kp.2.1⟩)))
    have c2 := inS_cons.mp ((h q.1).mpr (inS_cons.mpr (.inl ⟨Int.le_refl _, kq.2.1⟩)))
    have e1 : p.1 = q.1 := by
      have a1 : q.1 ≤ p.1 := by
        rcases c1 with c | c
        · exact c.1
        · have := lo hq c; have := kq.2.1; omega
      have a2 : p.1 ≤ q.1 := by
        rcases c2 with c | c
        · exact c.1
        · have := lo hp c; have := kp.2.1; omega
      omega
    -- neither ends ahead of the other one
    have nolt : ∀ {r s : Pr} {rs ss : List Pr}, Norm (r :: rs) → Norm (s :: ss) → (∀ x, inS x (s :: ss) → inS x (r :: rs)) → r.1 = s.1 → ¬ r.2 < s.2 := fun {r s rs ss} hr hs hh e lt => by
      have kr := (hr.ok r List.mem_cons_self).2.1
      have a := hh r.2 (inS_cons.mpr (.inl ⟨by omega, lt⟩))
      rcases inS_cons.mp a with c | c
      · have := c.2; omega
      · have := lo hr c; omega
    have e2 : p.2 = q.2 := by
      have a := nolt hp hq (fun x => (h x).mpr) e1
      have b := nolt hq hp (fun x => (h x).mp) e1.symm
      omega
    have e : p = q := Prod.ext e1 e2
    subst e
    have t : ps = qs := Norm.uniq hp.tail hq.tail fun x => by
      constructor
      · intro hx
        rcases inS_cons.mp ((h x).mp (inS_cons.mpr (.inr hx))) with c | c
        · have := lo hp hx; have := c.2; omega
        · exact c
      · intro hx
        rcases inS_cons.mp ((h x).mpr (inS_cons.mpr (.inr hx))) with c | c
        · have := lo hq hx; have := c.2; omega
        · exact c
    rw [t]

/-! ### one turn of merging: the last one grows, or a new one follows -/
/-- what holds of what was found, when what is left to come begins at z or later -/
structure Mrg (fs pre : List Pr) (z : Int) : Prop where
  norm : Norm fs
  same : ∀ x, inS x fs ↔ inS x pre
  le : ∀ f ∈ fs, f.1 ≤ z
theorem Mrg.start {z : Int} : Mrg [] [] z := ⟨.nil, fun _ => Iff.rfl, fun _ h => by cases h⟩
theorem Mrg.later {fs pre : List Pr} {z z' : Int} (m : Mrg fs pre z) (h : z ≤ z') : Mrg fs pre z' := ⟨m.norm, m.same, fun f hf => Int.le_trans (m.le f hf) h⟩
theorem Mrg.add {fs pre : List Pr} {p : Pr} (m : Mrg fs pre p.1) (hp : okP p) (hl : ∀ f ∈ fs, f.2 < p.1) : Mrg (fs ++ [p]) (pre ++ [p]) p.1 := by
  refine ⟨m.norm.snoc hp hl, fun x => ?_, fun f hf => ?_⟩
  · rw [inS_append, inS_append, m.same x]
  · rcases List.mem_append.mp hf with h | h
    · exact m.le f h
    · rw [List.mem_singleton.mp h]; exact Int.le_refl _
theorem Norm.last_lt {gs : List Pr} {l : Pr} (h : Norm (gs ++ [l])) : ∀ g ∈ gs, g.2 < l.1 := fun g hg => (List.pairwise_append.mp h.asc).2.2 g hg l (List.mem_singleton.mpr rfl)
theorem Norm.init {gs : List Pr} {l : Pr} (h : Norm (gs ++ [l])) : Norm gs := ⟨fun p m => h.ok p (List.mem_append.mpr (.inl m)), (List.pairwise_append.mp h.asc).1⟩
theorem Mrg.grow {gs pre : List Pr} {l p : Pr} (m : Mrg (gs ++ [l]) pre p.1) (hp : okP p) (hl : p.1 ≤ l.2) : Mrg (gs ++ [(l.1, if p.2 > l.2 then p.2 else l.2)]) (pre ++ [p]) p.1 := by
  have kl := m.norm.ok l (List.mem_append.mpr (.inr (List.mem_singleton.mpr rfl)))
  have ll := m.le l (List.mem_append.mpr (.inr (List.mem_singleton.mpr rfl)))
  have e := hp.2.1
  have e3 := hp.2.2
  have k1 := kl.1
  have k2 := kl.2.1
  have k3 := kl.2.2
  have okn : okP (l.1, if p.2 > l.2 then p.2 else l.2) := by
    refine ⟨k1, ?_, ?_⟩
    · show l.1 < (if p.2 > l.2 then p.2 else l.2)
      split <;> omega
    · show (if p.2 > l.2 then p.2 else l.2) ≤ 1000000
      split <;> omega
  refine ⟨m.norm.init.snoc okn m.norm.last_lt, fun x => ?_, fun f hf => ?_⟩
  · rw [inS_append, inS_append, ← m.same x, inS_append, inS_one, inS_one, inS_one]
    unfold inP
    show _ ∨ (l.1 ≤ x ∧ x < (if p.2 > l.2 then p.2 else l.2)) ↔ _
    constructor
    · rintro (h | ⟨h1, h2⟩)
      · exact .inl (.inl h)
      · by_cases c : p.2 > l.2
        · rw [if_pos c] at h2
          by_cases d : x < l.2
          · exact .inl (.inr ⟨h1, d⟩)
          · exact .inr ⟨by omega, h2⟩
        · rw [if_neg c] at h2
          exact .inl (.inr ⟨h1, h2⟩)
    · rintro ((h | ⟨h1, h2⟩) | ⟨h1, h2⟩)
      · exact .inl h
      · exact .inr ⟨h1, by split <;> omega⟩
      · exact .inr ⟨by omega, by split <;> omega⟩
  · rcases List.mem_append.mp hf with h | h
    · exact m.le f (List.mem_append.mpr (.inl h))
    · rw [List.mem_singleton.mp h]; exact ll

/-! ### what is left out -/
structure Gap (gs pre : List Pr) (b : Int) : Prop where
  norm : Norm gs
  lo : 0 ≤ b
  hi : b ≤ 1000000
  same : ∀ x, inS x gs ↔ (0 ≤ x ∧ x < b) ∧ ¬ inS x pre
  lt : ∀ g ∈ gs, g.2 < b
  pre : ∀ x, inS x pre → x < b
theorem Gap.start : Gap [] [] 0 := by
  refine ⟨.nil, Int.le_refl _, by decide, fun x => ⟨fun h => (inS_nil h).elim, fun h => ?_⟩, fun _ h => (by cases h), fun _ h => (inS_nil h).elim⟩
  have := h.1.1
  have := h.1.2
  omega
theorem Gap.skip {gs pre : List Pr} {p : Pr} {b : Int} (g : Gap gs pre b) (hp : okP p) (he : ¬ b < p.1) (hb : b ≤ p.1) : Gap gs (pre ++ [p]) p.2 := by
  have h1 := hp.2.1
  have h2 := hp.2.2
  have h3 := hp.1
  refine ⟨g.norm, by omega, h2, fun x => ?_, fun f hf => by have := g.lt f hf; omega, fun x hx => ?_⟩
  · rw [inS_append, inS_one, g.same x]
    unfold inP
    constructor
    · rintro ⟨⟨a, c⟩, d⟩
      exact ⟨⟨a, by omega⟩, fun z => z.elim d fun z => by omega⟩
    · rintro ⟨⟨a, c⟩, d⟩
      refine ⟨⟨a, ?_⟩, fun z => d (.inl z)⟩
      by_cases q : x < b
      · exact q
      · exact (d (.inr ⟨by omega, c⟩)).elim
  · rcases inS_append.mp hx with h | h
    · have := g.pre x h; omega
    · exact (inS_one.mp h).2
theorem Gap.push {gs pre : List Pr} {p : Pr} {b : Int} (g : Gap gs pre b) (hp : okP p) (hb : b < p.1) : Gap (gs ++ [(b, p.1)]) (pre ++ [p]) p.2 := by
  have h1 := hp.2.1
  have h2 := hp.2.2
  have h3 := g.lo
  refine ⟨g.norm.snoc ⟨g.lo, hb, by show p.1 ≤ 1000000; omega⟩ g.lt, by omega, h2, fun x => ?_, fun f hf => ?_, fun x hx => ?_⟩
  · rw [inS_append, inS_one, inS_append, inS_one, g.same x]
    unfold inP
    show _ ∨ (b ≤ x ∧ x < p.1) ↔ _
    constructor
    · rintro (⟨⟨a, c⟩, d⟩ | ⟨a, c⟩)
      · exact ⟨⟨a, by omega⟩, fun z => z.elim d fun z => by omega⟩
      · refine ⟨⟨by omega, by omega⟩, fun z => z.elim (fun z => ?_) fun z => by omega⟩
        have := g.pre x z
        omega
    · rintro ⟨⟨a, c⟩, d⟩
      by_cases q : x < b
      · exact .inl ⟨⟨a, q⟩, fun z => d (.inl z)⟩
      · refine .inr ⟨by omega, ?_⟩
        by_cases q2 : x < p.1
        · exact q2
        · exact (d (.inr ⟨by omega, c⟩)).elim
  · rcases List.mem_append.mp hf with h | h
    · have := g.lt f h; omega
    · rw [List.mem_singleton.mp h]; exact h1
  · rcases inS_append.mp hx with h | h
    · have := g.pre x h; omega
    · exact (inS_one.mp h).2
theorem Gap.done {gs pre : List Pr} {b : Int} (g : Gap gs pre b) (hb : ¬ b < 1000000) : ∀ x, inS x gs ↔ (0 ≤ x ∧ x < 1000000) ∧ ¬ inS x pre := fun x => by
  have e : b = 1000000 := by have := g.hi; omega
  rw [g.same x, e]
theorem Gap.last {gs pre : List Pr} {b : Int} (g : Gap gs pre b) (hb : b < 1000000) : Norm (gs ++ [(b, 1000000)]) ∧ ∀ x, inS x (gs ++ [(b, 1000000)]) ↔ (0 ≤ x ∧ x < 1000000) ∧ ¬ inS x pre := by
  refine ⟨g.norm.snoc ⟨g.lo, hb, Int.le_refl _⟩ g.lt, fun x => ?_⟩
  rw [inS_append, inS_one, g.same x]
  unfold inP
  show _ ∨ (b ≤ x ∧ x < 1000000) ↔ _
  have h3 := g.lo
  constructor
  · rintro (⟨⟨a, c⟩, d⟩ | ⟨a, c⟩)
    · exact ⟨⟨a, by omega⟩, d⟩
    · refine ⟨⟨by omega, c⟩, fun z => ?_⟩
      have := g.pre x z
      omega
  · rintro ⟨⟨a, c⟩, d⟩
    by_cases q : x < b
    · exact .inl ⟨⟨a, q⟩, d⟩
    · exact .inr ⟨by omega, c⟩
theorem Norm.inR {ps : List Pr} (h : Norm ps) {x : Int} (hx : inS x ps) : 0 ≤ x ∧ x < 1000000 := by
  obtain ⟨p, hp, h1, h2⟩ := hx
  have := h.ok p hp
  unfold okP at this
  omega

/-! ### how many positions -/
/-- how many of the numbers below n have it -/
def cnt (P : Int → Prop) [DecidablePred P] : Nat → Int
  | 0 => 0
  | n + 1 => cnt P n + if P (n : Int) then 1 else 0
theorem cnt_congr {P R : Int → Prop} [DecidablePred P] [DecidablePred R] : ∀ {n : Nat}, (∀ x : Int, 0 ≤ x → x < n → (P x ↔ R x)) → cnt P n = cnt R n
  | 0, _ => rfl
  | n + 1, h => by
    have ih := cnt_congr (P := P) (R := R) (n := n) fun x h0 h1 => h x h0 (by omega)
    have e := h (n : Int) (by omega) (by omega)
    show cnt P n + _ = cnt R n + _
    rw [ih]
    by_cases c : P (n : Int)
    · rw [if_pos c, if_pos (e.mp c)]
    · rw [if_neg c, if_neg fun z => c (e.mpr z)]
theorem cnt_or_and {P R : Int → Prop} [DecidablePred P] [DecidablePred R] : ∀ n : Nat, cnt (fun x => P x ∨ R x) n + cnt (fun x => P x ∧ R x) n = cnt P n + cnt R n
  | 0 => rfl
  | n + 1 => by
    have ih := cnt_or_and (P := P) (R := R) n
    show (cnt _ n + _) + (cnt _ n + _) = (cnt P n + _) + (cnt R n + _)
    by_cases a : P (n : Int) <;> by_cases b : R (n : Int) <;> simp only [a, b, or_true, true_or, or_self, and_self, and_false, false_and, and_true, true_and, if_true, if_false, or_false, false_or] <;> omega
theorem cnt_sub {P R : Int → Prop} [DecidablePred P] [DecidablePred R] : ∀ n : Nat, cnt (fun x => P x ∧ ¬ R x) n = cnt P n - cnt (fun x => P x ∧ R x) n
  | 0 => rfl
  | n + 1 => by
    have ih := cnt_sub (P := P) (R := R) n
    show cnt _ n + _ = (cnt P n + _) - (cnt _ n + _)
    by_cases a : P (n : Int) <;> by_cases b : R (n : Int) <;> simp only [a, b, not_true, not_false_iff, and_self, and_false, false_and, and_true, true_and, if_true, if_false] <;> omega
theorem cnt_none {P : Int → Prop} [DecidablePred P] : ∀ n : Nat, (∀ x, ¬ P x) → cnt P n = 0
  | 0, _ => rfl
  | n + 1, h => by
    show cnt P n + _ = 0
    rw [cnt_none n h, if_neg (h _)]
    rfl
theorem cnt_iv {a b : Int} (h0 : 0 ≤ a) (h : a ≤ b) : ∀ n : Nat, cnt (fun x => a ≤ x ∧ x < b) n = if (n : Int) ≤ a then 0 else if (n : Int) ≤ b then (n : Int) - a else b - a
  | 0 => by
    show (0 : Int) = _
    rw [if_pos (by omega)]
  | n + 1 => by
    have ih := cnt_iv (a := a) (b := b) h0 h n
    show cnt _ n + _ = _
    rw [ih]
    by_cases c : a ≤ (n : Int) ∧ (n : Int) < b
    · rw [if_pos c]
      split <;> split <;> first | omega | (split <;> first | omega | (split <;> omega))
    · rw [if_neg c]
      split <;> split <;> first | omega | (split <;> first | omega | (split <;> omega))
instance (x : Int) (p : Pr) : Decidable (inP x p) := by unfold inP; infer_instance
instance decS (ps : List Pr) : DecidablePred fun x => inS x ps := fun x => by
  have e : inS x ps ↔ (ps.any fun p => decide (inP x p)) = true := by
    rw [List.any_eq_true]
    exact ⟨fun ⟨p, h1, h2⟩ => ⟨p, h1, decide_eq_true h2⟩, fun ⟨p, h1, h2⟩ => ⟨p, h1, of_decide_eq_true h2⟩⟩
  exact decidable_of_iff _ e.symm
/-- the sum that len takes -/
def size (ps : List Pr) : Int := (ps.map fun p => p.2 - p.1).sum
theorem Norm.size_cnt : ∀ {ps : List Pr}, Norm ps → size ps = cnt (fun x => inS x ps) 1000000
  | [], _ => (cnt_none 1000000 fun x => inS_nil).symm
  | p :: ps, h => by
    have ih := Norm.size_cnt h.tail
    have k := h.ok p List.mem_cons_self
    have k1 := k.1
    have k2 := k.2.1
    have k3 := k.2.2
    have e : cnt (fun x => inS x (p :: ps)) 1000000 = cnt (fun x => (p.1 ≤ x ∧ x < p.2) ∨ inS x ps) 1000000 := cnt_congr fun x _ _ => inS_cons
    have d := cnt_or_and (P := fun x => p.1 ≤ x ∧ x < p.2) (R := fun x => inS x ps) 1000000
    have z : cnt (fun x => (p.1 ≤ x ∧ x < p.2) ∧ inS x ps) 1000000 = 0 := cnt_none _ fun x ⟨hx, q, mq, hq⟩ => by
      have a := h.head q mq
      have b := hq.1
      omega
    have iv := cnt_iv (a := p.1) (b := p.2) k1 (by omega) 1000000
    rw [if_neg (by omega)] at iv
    have iv2 : cnt (fun x => p.1 ≤ x ∧ x < p.2) 1000000 = p.2 - p.1 := by
      rw [iv]
      split <;> omega
    rw [e]
    show (((p :: ps).map fun p => p.2 - p.1).sum) = _
    rw [List.map_cons, List.sum_cons]
    have ih' : (ps.map fun p => p.2 - p.1).sum = cnt (fun x => inS x ps) 1000000 := ih
    omega
theorem cnt_pos {P : Int → Prop} [DecidablePred P] : ∀ n : Nat, 0 ≤ cnt P n ∧ cnt P n ≤ n
  | 0 => ⟨Int.le_refl _, Int.le_refl _⟩
  | n + 1 => by
    have ih := cnt_pos (P := P) n
    show 0 ≤ cnt P n + _ ∧ cnt P n + _ ≤ ((n + 1 : Nat) : Int)
    split <;> omega
theorem Norm.size_ok {ps : List Pr} (h : Norm ps) : 0 ≤ size ps ∧ size ps ≤ 1000000 := by
  rw [h.size_cnt]
  exact cnt_pos 1000000

/-! ### keys without repeats -/
theorem sub_len : ∀ {l m : List Int}, l.Nodup → (∀ x ∈ l, x ∈ m) → l.length ≤ m.length
  | [], m, _, _ => Nat.zero_le _
  | x :: l, m, hn, hs => by
    obtain ⟨h1, h2⟩ := List.nodup_cons.mp hn
    have hx := hs x List.mem_cons_self
    have hl := List.length_erase_of_mem hx
    have hp := List.length_pos_of_mem hx
    have ih := sub_len (l := l) (m := m.erase x) h2 fun y hy => (List.mem_erase_of_ne (fun e => h1 (by rw [← e]; exact hy))).mpr (hs y (List.mem_cons_of_mem _ hy))
    show l.length + 1 ≤ m.length
    omega
/-- as many, and all of the one in the other: the same -/
theorem sub_eq {l m : List Int} (hl : l.Nodup) (hm : m.Nodup) (e : l.length = m.length) (h : ∀ x ∈ l, x ∈ m) : ∀ x ∈ m, x ∈ l := by
  intro x hx
  by_cases c : x ∈ l
  · exact c
  · have h2 := sub_len (l := l) (m := m.erase x) hl fun y hy => (List.mem_erase_of_ne (fun e => c (by rw [← e]; exact hy))).mpr (h y hy)
    have h3 := List.length_erase_of_mem hx
    have h4 := List.length_pos_of_mem hx
    omega
end Sps
set_option Elab.async false
set_option linter.all false
set_option maxRecDepth 100000
set_option maxHeartbeats 4000000
/-! Small words: heaps kept, a term whose reading never holds. -/
namespace Sps
open PySem PySem.Spec PyProof.Rows L2
theorem iteNS_not {c A B : Prop} [Decidable c] (hc : ¬ c) (h : A) : if (!decide c) = true then A else B := by
  rw [decide_eq_false hc]
  exact iteT h
theorem ite_t {c A B : Prop} [Decidable c] (hc : c) (h : A) : if decide c = true then A else B := by
  rw [decide_eq_true hc]
  exact iteT h
theorem ite_f {c A B : Prop} [Decidable c] (hc : ¬ c) (h : B) : if decide c = true then A else B := by
  rw [decide_eq_false hc]
  exact iteF h
theorem Same.upd {H : Hp} {p : Addr} {o : HO} (h : H p = none) : Same H (L2.upd H p o) := fun b u e => by rw [upd_ne (ne_of_none e h)]; exact e
theorem Same.upd' {H H1 : Hp} {p : Addr} {o : HO} (s : Same H H1) (h : H1 p = none) : Same H (L2.upd H1 p o) := s.trans (Same.upd h)
/-- a store at a place that is none of the old ones -/
theorem Same.put {H H1 : Hp} {p : Addr} {o : HO} (s : Same H H1) (h : H p = none) : Same H (L2.upd H1 p o) := fun b u e => by rw [upd_ne (ne_of_none e h)]; exact s b u e
def optV : Option Str → V
  | none => .non
  | some z => .str z
/-- all but what stands at l -/
def SameX (l : Addr) (H H' : Hp) : Prop := ∀ b o, b ≠ l → H b = some o → H' b = some o
theorem Same.x {H H' : Hp} (s : Same H H') (l : Addr) : SameX l H H' := fun b o _ e => s b o e
theorem SameX.trans {H H1 H2 : Hp} {l : Addr} (a : SameX l H H1) (b : SameX l H1 H2) : SameX l H H2 := fun c o n e => b c o n (a c o n e)
theorem SameX.refl (H : Hp) (l : Addr) : SameX l H H := fun _ _ _ e => e
theorem SameX.upd {H : Hp} {l : Addr} {o : HO} : SameX l H (L2.upd H l o) := fun b u n e => by rw [upd_ne n]; exact e
theorem SameX.same {H H1 H' : Hp} {l : Addr} (s : Same H H1) (x : SameX l H1 H') (n : H l = none) : Same H H' := fun b o e => x b o (ne_of_none e n) (s b o e)
theorem tupAt {K : PySem.W.Frag} {H : Hp} {a : Addr} {xs : List V} (h : H a = some (.tup xs)) : SqT K H a xs := SqT.of h
section
variable {X : Cx}
/-- an expression that is not reached -/
theorem pe_no {e : Expr} : PE X e (fun _ _ _ => False) := ⟨fun _ _ _ _ _ _ h => h.elim⟩
end
section
variable {J : It} {n : Nat} {G : Hp → Prop} {Y : Nat → Hp → V → Hp → Prop}
/-- a comprehension without a test that stores nothing: the values it makes -/
theorem lc_vals (w : Walk J n G Y) {g : TG} {te : TE} {vs : List Nat} {σ : L2.St} {H1 : Hp} {D : Addr} {Qd : Hp → Prop} (fs : Nat → V) (hn : n < sizeLine) (hD : H1 D = none) (hG : ∀ H, Same H1 H → G H)
    (hs : ∀ (i : Nat) (x : V) (H H' : Hp) (Nx : Hp → Prop), i < n → Same H1 H → Y i H x H' → (∀ y H4, y = fs i → Same H H4 → ∃ acc, H4 D = some (.lst acc) ∧ acc.length < sizeLine ∧ Nx (L2.upd H4 D (.lst (acc ++ [y])))) →
      g x (wipe σ vs) H' fun σ2 H2 => wipe σ2 vs = wipe σ vs ∧ te σ2 H2 fun y H4 => ∃ acc, H4 D = some (.lst acc) ∧ acc.length < sizeLine ∧ Nx (L2.upd H4 D (.lst (acc ++ [y]))))
    (hd : ∀ H, Same H1 H → H D = some (.lst ((List.range n).map fs)) → Qd H) :
    ∃ W : Nat → Nat → Hp → Prop, (∃ m, W 0 m (L2.upd H1 D (.lst []))) ∧ ∀ i m H, W i m H →
      (J.stop i H ∧ Qd H) ∨ (J.go i H ∧ ∃ Nx : Hp → Prop, (∀ H', Nx H' → ∃ m', m' < m ∧ W (i + 1) m' H') ∧ ∀ x H', J.yld i H x H' → g x (wipe σ vs) H' fun σ2 H2 => wipe σ2 vs = wipe σ vs ∧ tYes σ2 H2 fun b H3 =>
        if b = true then te σ2 H3 fun y H4 => ∃ acc, H4 D = some (.lst acc) ∧ acc.length < sizeLine ∧ Nx (L2.upd H4 D (.lst (acc ++ [y]))) else Nx H3) := by
  refine lc_it w (tt := tYes) (fun i H => Same H1 H ∧ H D = some (.lst ((List.range i).map fs))) ⟨Same.upd hD, upd_same⟩ (fun i H _ p => hG H p.1) (fun i x H H' hi p y => ?_) fun H p => hd H p.1 p.2
  obtain ⟨s, e⟩ := p
  exact hs i x H H' (fun H2 => Same H1 H2 ∧ H2 D = some (.lst ((List.range (i + 1)).map fs))) hi s y fun z H4 ez s4 => ⟨_, s4 _ _ e, by rw [List.length_map, List.length_range]; omega, Same.put (s.trans s4) hD, by rw [upd_same, List.range_succ, List.map_append, ez]; rfl⟩
end
end Sps
set_option Elab.async false
set_option linter.all false
set_option maxRecDepth 100000
set_option maxHeartbeats 4000000
/-! sorted of a list of pairs whose first items are texts, no two of them the same. -/
namespace Sps
open PySem PySem.Spec PyProof.Rows L2
/-- the text of a pair, read off the heap -/
def rowTx (h : Heap) (v : Value) : Str := DT.txOf (DT.seqAt0 h (DT.refOf (some v)))
/-- v is a pair of the text y and None, or the text m -/
def RowIn (h : Heap) (v : Value) (y : Str) (m : Option Str) : Prop :=
  ∃ (a : Addr) (t : Tok) (u : Value), v = .ref a ∧ IsTup h a #[.str y t, u] ∧ (match m with | none => u = .none | some z => ∃ t2, u = .str z t2)
theorem RowIn.tx {h : Heap} {v : Value} {y : Str} {m : Option Str} (x : RowIn h v y m) : rowTx h v = y := by
  obtain ⟨a, t, u, rfl, h1, _⟩ := x
  show DT.txOf (DT.seqAt0 h a) = y
  rw [DT.seqAt0_of h1]
  rfl
theorem RowIn.keeps {h h' : Heap} {v : Value} {y : Str} {m : Option Str} (x : RowIn h v y m) (k : ∀ b o, h.get? b = some o → o.cls = .type "tuple" → h'.get? b = some o) : RowIn h' v y m := by
  obtain ⟨a, t, u, e, ⟨o, ho, hc, r⟩, hm⟩ := x
  exact ⟨a, t, u, e, ⟨o, k _ _ ho hc, hc, r⟩, hm⟩
section
variable {prog : Program} {w : World} {A : Around} {E : Value → Shared → Prop} {s : Shared}
theorem firsts_rows {h : Heap} {M : Str → Option Str} : ∀ vs : List Value, (∀ v ∈ vs, ∃ y, RowIn h v y (M y)) → ∃ fs : List Value, PySem.W.KatTups h vs fs ∧ fs.length = vs.length ∧ ∀ f ∈ fs, ∃ (y : Str) (t : Tok), f = Value.str y t
  | [], _ => ⟨[], .nil, rfl, fun f hf => by simp at hf⟩
  | v :: vs, x => by
    obtain ⟨fs, k, hl, hi⟩ := firsts_rows vs fun u hu => x u (List.mem_cons_of_mem _ hu)
    obtain ⟨y, a, t, u, rfl, ⟨o, ho, hc, n, hd⟩, _⟩ := x v (List.mem_cons_self ..)
    refine ⟨.str y t :: fs, .cons ho hc hd rfl k, by rw [List.length_cons, List.length_cons, hl], fun f hf => ?_⟩
    rcases List.mem_cons.mp hf with rfl | hf
    · exact ⟨y, t, rfl⟩
    · exact hi f hf
theorem kind_rows {vs : List Value} {ρ : Str → Int} {M : Str → Option Str} (h2 : 2 ≤ vs.length) (x : ∀ v ∈ vs, ∃ y, RowIn s.heap v y (M y))
    (hρ : ∀ v ∈ vs, ∀ u ∈ vs, decide ((rowTx s.heap v).cps.toList < (rowTx s.heap u).cps.toList) = decide (ρ (rowTx s.heap v) < ρ (rowTx s.heap u))) (Q : SortKind → Shared → Prop)
    (h : ∀ κ, TS.Cmp prog w A s κ (pairsOf vs) (fun v => ρ (rowTx s.heap v)) → Q κ s) : wpAny (model prog w) A (keyKind' vs.toArray) Q E s := by
  obtain ⟨fs, k, hl, hi⟩ := firsts_rows vs x
  refine PySem.W.kat_kind (T := Value.type "str") k (by omega) (fun f hf => ?_) rfl (h _ ?_)
  · obtain ⟨y, t, rfl⟩ := hi f hf
    exact PySem.W.Looks.of_pure rfl
  · have hb : (Value.type "str" != Value.type "tuple") = true := by first | rfl | decide | simp
    rw [hb]
    intro p q hp hq Q' E' hQ
    rw [pairsOf_toList] at hp hq
    have mp := (mem_zip_self hp).2
    have mq := (mem_zip_self hq).2
    obtain ⟨y, py⟩ := x _ mp
    obtain ⟨z, pz⟩ := x _ mq
    have hr := hρ _ mp _ mq
    have hQ' : Q' (decide (y.cps.toList < z.cps.toList)) s := by
      rw [py.tx, pz.tx] at hr
      rw [hr]
      have hQ2 : Q' (decide (ρ (rowTx s.heap p.1) < ρ (rowTx s.heap q.1))) s := hQ
      rw [py.tx, pz.tx] at hQ2
      exact hQ2
    obtain ⟨a, t, u, e1, ⟨o, ho, hc, n, hd⟩, hu⟩ := py
    obtain ⟨a', t', u', e2, ⟨o', ho', hc', n', hd'⟩, hu'⟩ := pz
    rw [e1, e2]
    refine PySem.W.kat_lt ho hd ho' hd' ?_
    show PySem.W.KatLex prog w A true false Q' [(Value.str y t, Value.str z t'), (u, u')] 0 s
    by_cases e : y = z
    · subst e
      have irr : decide (y.cps.toList < y.cps.toList) = false := decide_eq_false (List.lt_irrefl _)
      rw [irr] at hQ'
      refine PySem.W.kat_cons (wpAny_eqBool_str ?_)
      rw [decide_eq_true rfl]
      refine PySem.W.kat_yes (PySem.W.kat_cons ?_)
      cases hm : M y with
      | none =>
        rw [hm] at hu hu'
        rw [hu, hu']
        exact SeqAt.EqAt.same Value.none prog w _ _ (PySem.W.kat_yes (PySem.W.kat_nil hQ'))
      | some m =>
        rw [hm] at hu hu'
        obtain ⟨t2, eu⟩ := hu
        obtain ⟨t3, eu'⟩ := hu'
        rw [eu, eu']
        refine wpAny_eqBool_str ?_
        rw [decide_eq_true rfl]
        exact PySem.W.kat_yes (PySem.W.kat_nil hQ')
    · refine PySem.W.kat_cons (wpAny_eqBool_str ?_)
      rw [decide_eq_false e]
      refine PySem.W.kat_no ?_
      show wpAny _ _ (oneLt' true _ _) _ _ _
      exact oneLt_str hQ'
/-- list.sort of such a list -/
theorem sort_rows {a : Addr} {vs : List Value} {n : Nat} {ρ : Str → Int} {M : Str → Option Str} {P : PySem.Fin → Shared → Prop} (ho : s.heap.get? a = some (seqObj "list" vs.toArray n)) (h64 : vs.length < 64) (x : ∀ v ∈ vs, ∃ y, RowIn s.heap v y (M y))
    (hρ : ∀ v ∈ vs, ∀ u ∈ vs, decide ((rowTx s.heap v).cps.toList < (rowTx s.heap u).cps.toList) = decide (ρ (rowTx s.heap v) < ρ (rowTx s.heap u)))
    (h : ∀ out : Array Value, out.toList.Perm vs → out.toList.Pairwise (fun u v => ρ (rowTx s.heap u) ≤ ρ (rowTx s.heap v)) → P (.done (.ret .none)) { s with heap := sortedHeap s.heap a vs out }) :
    wpAny (model prog w) A (Builtin.«list.sort» ⟨[.ref a], []⟩) P E s := by
  have keep : ∀ b o, s.heap.get? b = some o → o.cls = .type "tuple" → (TS.midHeap s.heap a vs).get? b = some o := fun b o e hc => by
    refine TS.midHeap_old ?_ e
    rintro rfl
    rw [ho] at e
    have e' : seqObj "list" vs.toArray n = o := Option.some.inj e
    rw [← e'] at hc
    have c' : Value.type "list" = Value.type "tuple" := hc
    injection c' with c''
    exact absurd c'' (by decide)
  have tx : ∀ v ∈ vs, rowTx (TS.midHeap s.heap a vs) v = rowTx s.heap v := fun v hv => by
    obtain ⟨y, r⟩ := x v hv
    rw [(r.keeps keep).tx, r.tx]
  refine SK.plain_sort (r := fun v => ρ (rowTx (TS.midHeap s.heap a vs) v)) ho h64 (fun h2 Q hQ => ?_) fun ps out h1 h2 h3 => ?_
  · refine kind_rows (s := { s with heap := TS.midHeap s.heap a vs }) (ρ := ρ) (M := M) h2 (fun v hv => ?_) (fun v hv u hu => ?_) Q hQ
    · obtain ⟨y, r⟩ := x v hv
      exact ⟨y, r.keeps keep⟩
    · show decide ((rowTx (TS.midHeap s.heap a vs) v).cps.toList < (rowTx (TS.midHeap s.heap a vs) u).cps.toList) = decide (ρ (rowTx (TS.midHeap s.heap a vs) v) < ρ (rowTx (TS.midHeap s.heap a vs) u))
      rw [tx v hv, tx u hu]
      exact hρ v hv u hu
  · obtain ⟨p, o⟩ := TS.out_rank (r := fun v => ρ (rowTx (TS.midHeap s.heap a vs) v)) h1 h2 h3
    refine h out p (List.Pairwise.imp_of_mem (fun {u v} hu hv q => ?_) o)
    have q' : ρ (rowTx (TS.midHeap s.heap a vs) u) ≤ ρ (rowTx (TS.midHeap s.heap a vs) v) := q
    rw [tx u (p.mem_iff.mp hu), tx v (p.mem_iff.mp hv)] at q'
    exact q'
/-- sorted(xs) -/
theorem sorted_rows {l : Addr} {vs : List Value} {ρ : Str → Int} {M : Str → Option Str} {Q : Value → Shared → Prop} (hl : s.heap.IsList l vs.toArray) (h64 : vs.length < 64) (x : ∀ v ∈ vs, ∃ y, RowIn s.heap v y (M y))
    (hρ : ∀ v ∈ vs, ∀ u ∈ vs, decide ((rowTx s.heap v).cps.toList < (rowTx s.heap u).cps.toList) = decide (ρ (rowTx s.heap v) < ρ (rowTx s.heap u)))
    (h : ∀ out : Array Value, out.toList.Perm vs → out.toList.Pairwise (fun u v => ρ (rowTx s.heap u) ≤ ρ (rowTx s.heap v)) → Q (.ref (s.heap.objs.size + 1)) { s with heap := sortedAll s.heap vs out }) :
    wpAny (model prog w) A (call (.builtin "sorted") [.ref l]) Q E s := by
  refine Calls.call_function_entry kind_sorted plain_sorted entry_sorted (args_sorted1 _) ?_
  unfold Builtin.«sorted»
  refine wpAny_bind (m := checkCount "sorted" 1 1 _) (wpAny_pure ?_)
  refine wpAny_bind (collect_list hl ?_ (by rw [sizeLine_eq]; omega))
  refine wpAny_bind (wpAny_newList ?_ (by rw [sizeLine_eq]; omega))
  have hsz : ((s.heap.push (seqObj "list" #[] 0)).update s.heap.objs.size (Obj.mapSeq (· ++ vs.toArray))).objs.size = s.heap.objs.size + 1 := by
    rw [Heap.size_update, size_push']
  have hoL : (((s.heap.push (seqObj "list" #[] 0)).update s.heap.objs.size (Obj.mapSeq (· ++ vs.toArray))).push (seqObj "list" vs.toArray 0)).get? (s.heap.objs.size + 1) = some (seqObj "list" vs.toArray 0) := by
    rw [← hsz]; exact Heap.get?_push_size _ rfl
  have keep : ∀ b o, s.heap.get? b = some o → o.cls = .type "tuple" → (((s.heap.push (seqObj "list" #[] 0)).update s.heap.objs.size (Obj.mapSeq (· ++ vs.toArray))).push (seqObj "list" vs.toArray 0)).get? b = some o := fun b o q _ => by
    have hlt : b < s.heap.objs.size := Heap.lt_size q
    rw [Heap.get?_push_ne _ _ _ (by rw [hsz]; exact Nat.ne_of_lt (Nat.lt_succ_of_lt hlt)), Heap.get?_update_ne _ _ _ _ (Nat.ne_of_lt hlt), Heap.get?_push_ne _ _ _ (Nat.ne_of_lt hlt)]
    exact q
  show wpAny _ _ _ _ _ { s with heap := ((s.heap.push (seqObj "list" #[] 0)).update s.heap.objs.size (Obj.mapSeq (· ++ vs.toArray))).push (seqObj "list" vs.toArray 0) }
  rw [hsz]
  have tx : ∀ v ∈ vs, rowTx (((s.heap.push (seqObj "list" #[] 0)).update s.heap.objs.size (Obj.mapSeq (· ++ vs.toArray))).push (seqObj "list" vs.toArray 0)) v = rowTx s.heap v := fun v hv => by
    obtain ⟨y, r⟩ := x v hv
    rw [(r.keeps keep).tx, r.tx]
  refine wpAny_bind (wpAny_holding (wpAny_call_entry slot_list_sort ⟨_, hoL, rfl⟩ entry_list_sort (sort_rows (ρ := ρ) (M := M) hoL h64 (fun v hv => ?_) (fun v hv u hu => ?_) fun out a1 a2 => ⟨_, rfl, ?_⟩) (args_list_sort _)))
  · obtain ⟨y, r⟩ := x v hv
    exact ⟨y, r.keeps keep⟩
  · show decide ((rowTx _ v).cps.toList < (rowTx _ u).cps.toList) = decide (ρ (rowTx _ v) < ρ (rowTx _ u))
    rw [tx v hv, tx u hu]
    exact hρ v hv u hu
  · refine wpAny_pure ⟨_, rfl, h out a1 (List.Pairwise.imp_of_mem (fun {u v} hu hv q => ?_) a2)⟩
    rw [← tx u (a1.mem_iff.mp hu), ← tx v (a1.mem_iff.mp hv)]
    exact q
end
/-! ### the rank of a text among some -/
def ltS (x y : Str) : Bool := decide (x.cps.toList < y.cps.toList)
theorem ltS_irr (x : Str) : ltS x x = false := decide_eq_false (List.lt_irrefl _)
theorem ltS_tr {x y z : Str} (h : ltS x y = true) (k : ltS y z = true) : ltS x z = true := decide_eq_true (List.lt_trans (of_decide_eq_true h) (of_decide_eq_true k))
theorem ltS_tot {x y : Str} (h : ltS x y = false) : x = y ∨ ltS y x = true := by
  cases k : ltS y x with
  | true => exact .inr rfl
  | false =>
    left
    have h1 : ¬ x.cps.toList < y.cps.toList := of_decide_eq_false h
    have h2 : ¬ y.cps.toList < x.cps.toList := of_decide_eq_false k
    have e := List.le_antisymm (List.not_lt.mp h2) (List.not_lt.mp h1)
    cases x
    cases y
    rw [Str.mk.injEq]
    exact Array.toList_inj.mp e
def rank (ws : List Str) (x : Str) : Int := ((ws.filter fun y => ltS y x).length : Nat)
theorem rank_lt {ws : List Str} {x y : Str} (hx : x ∈ ws) : decide (x.cps.toList < y.cps.toList) = decide (rank ws x < rank ws y) := by
  have mono : ∀ {u v : Str}, (∀ z, ltS z u = true → ltS z v = true) → ∀ l : List Str, (l.filter fun z => ltS z u).length ≤ (l.filter fun z => ltS z v).length := fun {u v} k l => by
    induction l with
    | nil => exact Nat.le_refl _
    | cons z l ih =>
      rw [List.filter_cons, List.filter_cons]
      cases e : ltS z u with
      | true => rw [k z e]; simp only [if_true, List.length_cons]; omega
      | false =>
        cases ltS z v
        · simpa using ih
        · simp only [if_true, Bool.false_eq_true, if_false, List.length_cons]; omega
  have strict : ∀ {u v : Str}, (∀ z, ltS z u = true → ltS z v = true) → ltS u v = true → ∀ l : List Str, u ∈ l → (l.filter fun z => ltS z u).length < (l.filter fun z => ltS z v).length := fun {u v} k huv l hu => by
    induction l with
    | nil => cases hu
    | cons z l ih =>
      have m := mono k l
      rw [List.filter_cons, List.filter_cons]
      by_cases ez : u = z
      · subst ez
        rw [ltS_irr, huv]
        simp only [if_true, Bool.false_eq_true, if_false, List.length_cons]
        omega
      · have hu' : u ∈ l := by
          rcases List.mem_cons.mp hu with q | q
          · exact absurd q ez
          · exact q
        have i := ih hu'
        cases e : ltS z u with
        | true => rw [k z e]; simp only [if_true, List.length_cons]; omega
        | false =>
          cases ltS z v
          · simpa using i
          · simp only [if_true, Bool.false_eq_true, if_false, List.length_cons]; omega
  unfold rank
  cases e : ltS x y with
  | true =>
    have h1 := strict (fun z hz => ltS_tr hz e) e ws hx
    have e' : decide (x.cps.toList < y.cps.toList) = true := e
    rw [e']
    exact (decide_eq_true (by omega)).symm
  | false =>
    have e' : decide (x.cps.toList < y.cps.toList) = false := e
    rw [e']
    refine (decide_eq_false ?_).symm
    rcases ltS_tot e with q | q
    · rw [q]; omega
    · have h1 := mono (fun z hz => ltS_tr hz q) ws
      omega
/-! ### the rule -/
abbrev Rw := Addr × Str × Option Str
def rwV (r : Rw) : V := .ref r.1
def RwAt (H : Hp) (r : Rw) : Prop := H r.1 = some (.tup [.str r.2.1, optV r.2.2])
def rSortRows : List V → Hp → VK → Prop := fun vs H Q => ∃ (a : Addr) (rs : List Rw), vs = [.ref a] ∧ H a = some (.lst (rs.map rwV)) ∧ rs.length < 64 ∧ (∀ r ∈ rs, RwAt H r) ∧ (rs.map (·.2.1)).Nodup ∧
  ∀ (ss : List Rw) (p : Addr), ss.Perm rs → ss.Pairwise (fun x y => ltS x.2.1 y.2.1 = true) → H p = none → Q (.ref p) (L2.upd H p (.lst (ss.map rwV)))
theorem cr_sortRows {X : Cx} : CallR X (.builtin "sorted") rSortRows := by
  intro pins s σ H vs us Q I r h
  obtain ⟨a, rs, rfl, hs, h64, hx, hnd, q⟩ := h
  obtain ⟨its, rv, hl, hz⟩ := I.list (SqL.of (K := X.K) hs)
  rw [Vals.ref1 r]
  -- the values that stand in the list
  have hits : its = rs.map fun r => Value.ref r.1 := by
    have aux : ∀ (rs : List Rw) (us : List Value), Vals (rs.map rwV) us → us = rs.map fun r => Value.ref r.1 := fun rs => by
      induction rs with
      | nil => intro us v; cases v; rfl
      | cons r rs ih =>
        intro us v
        cases v with
        | cons r1 r2 =>
          rw [List.map_cons, ← ih _ r2]
          rw [show _ = Value.ref r.1 from r1]
    exact aux rs its rv
  subst hits
  have back : ∀ v ∈ rs.map (fun r => Value.ref r.1), ∃ r ∈ rs, v = Value.ref r.1 := fun v hv => by
    obtain ⟨r, m, e⟩ := List.mem_map.mp hv
    exact ⟨r, m, e.symm⟩
  -- what follows a text is told by it
  let M : Str → Option Str := fun y => ((rs.find? fun r => decide (r.2.1 = y)).map (·.2.2)).getD none
  have hM : ∀ r ∈ rs, M r.2.1 = r.2.2 := by
    have aux : ∀ (l : List Rw), (l.map (·.2.1)).Nodup → ∀ r ∈ l, l.find? (fun r' => decide (r'.2.1 = r.2.1)) = some r := fun l => by
      induction l with
      | nil => intro _ r m; cases m
      | cons x l ih =>
        intro nd r m
        rw [List.map_cons, List.nodup_cons] at nd
        rw [List.find?_cons]
        rcases List.mem_cons.mp m with e | m
        · subst e
          rw [decide_eq_true rfl]
        · have ne : x.2.1 ≠ r.2.1 := fun e => nd.1 (by rw [e]; exact List.mem_map.mpr ⟨r, m, rfl⟩)
          rw [decide_eq_false ne]
          exact ih nd.2 r m
    intro r m
    show ((rs.find? fun r' => decide (r'.2.1 = r.2.1)).map (·.2.2)).getD none = r.2.2
    rw [aux rs hnd r m]
    rfl
  have row : ∀ r ∈ rs, RowIn s.heap (Value.ref r.1) r.2.1 (M r.2.1) := fun r m => by
    obtain ⟨_, its2, rv2, o, ho, hc, n, hd⟩ := (show ObjOk X.prog X.w H s.heap r.1 (.tup [.str r.2.1, optV r.2.2]) from I.hok r.1 _ (hx r m))
    rw [hM r m]
    cases rv2 with
    | @cons _ u1 _ _ r1 r2 =>
      cases r2 with
      | @cons _ u2 _ _ r2 r3 =>
        cases r3
        obtain ⟨t, rfl⟩ := (show ∃ t, u1 = Value.str r.2.1 t from r1)
        refine ⟨r.1, t, u2, rfl, ⟨o, ho, hc, n, hd⟩, ?_⟩
        cases e : r.2.2 with
        | none => rw [e] at r2; exact r2
        | some z => rw [e] at r2; exact r2
  have tx : ∀ r ∈ rs, rowTx s.heap (Value.ref r.1) = r.2.1 := fun r m => (row r m).tx
  refine sorted_rows (ρ := rank (rs.map (·.2.1))) (M := M) hl.isList (by rw [List.length_map]; exact h64) (fun v hv => ?_) (fun v hv u hu => ?_) fun out h1 h2 => ?_
  · obtain ⟨r, m, rfl⟩ := back v hv
    exact ⟨_, row r m⟩
  · obtain ⟨r, m, rfl⟩ := back v hv
    obtain ⟨r', m', rfl⟩ := back u hu
    rw [tx r m, tx r' m']
    exact rank_lt (List.mem_map.mpr ⟨r, m, rfl⟩)
  · obtain ⟨ep, he'⟩ := PyProof.Rows.sortedAll_at s.heap (rs.map fun r => Value.ref r.1) out
    -- the rows in their new sequence
    obtain ⟨ss, hp, es⟩ : ∃ ss : List Rw, ss.Perm rs ∧ ss.map (fun r => Value.ref r.1) = out.toList := perm_lift (fun r : Rw => Value.ref r.1) h1 rs rfl
    have hlen : (ss.map rwV).length ≤ sizeLine := by
      rw [List.length_map, hp.length_eq, sizeLine_eq]
      omega
    have rv3 : Vals (ss.map rwV) out.toList := by
      rw [← es]
      exact vals_maps rwV (fun r : Rw => Value.ref r.1) ss fun _ _ => rfl
    refine ⟨.ref _, L2.upd H (s.heap.objs.size + 1) (.lst (ss.map rwV)), I.laid (t' := s.toks) (fun _ _ => PyProof.Rows.sortedAll_old) (Nat.le_succ _) ⟨hlen, out.toList, ep, rv3, he'⟩, rfl, q ss _ hp ?_ (I.hok.fresh (Nat.le_succ _))⟩
    have h2' : ss.Pairwise fun x y => rank (rs.map (·.2.1)) x.2.1 ≤ rank (rs.map (·.2.1)) y.2.1 := by
      rw [← es, List.pairwise_map] at h2
      refine List.Pairwise.imp_of_mem (fun {x y} mx my k => ?_) h2
      rw [tx x (hp.mem_iff.mp mx), tx y (hp.mem_iff.mp my)] at k
      exact k
    have nd2 : (ss.map (·.2.1)).Nodup := (hp.map _).nodup_iff.mpr hnd
    have ne2 : ss.Pairwise fun x y => x.2.1 ≠ y.2.1 := List.pairwise_map.mp nd2
    refine List.Pairwise.imp_of_mem (fun {x y} mx my k => ?_) (h2'.and ne2)
    obtain ⟨k1, k2⟩ := k
    cases e : ltS x.2.1 y.2.1 with
    | true => rfl
    | false =>
      exfalso
      rcases ltS_tot e with z | z
      · exact k2 z
      · have z2 := rank_lt (ws := rs.map (·.2.1)) (x := y.2.1) (y := x.2.1) (List.mem_map.mpr ⟨y, hp.mem_iff.mp my, rfl⟩)
        rw [show decide (y.2.1.cps.toList < x.2.1.cps.toList) = true from z] at z2
        have := of_decide_eq_true z2.symm
        omega
end Sps
set_option Elab.async false
set_option linter.all false
set_option maxRecDepth 100000
set_option maxHeartbeats 4000000
/-! kinds: what each def promises. -/
namespace Sps
open PySem PySem.Spec PyProof.Rows L2
section
variable {P : Program} {w : World} {K : PySem.W.Frag} {mg : Str → Option Value} {base : Heap}
/-- no int, or a bool -/
def NoInt (K : PySem.W.Frag) (H : Hp) (x : V) : Prop := ∃ t, TyX K H x t ∧ (PySem.W.kitOne K t (.type "int") = some false ∨ (PySem.W.kitOne K t (.type "int") = some true ∧ PySem.W.kitOne K t (.type "bool") = some true))
def spWhole (K : PySem.W.Frag) : Sp := fun vs H Q _ => ∃ x : V, vs = [x] ∧ ((∃ v, x = .int v ∧ Q (.bl true) H) ∨ (NoInt K H x ∧ Q (.bl false) H))
theorem scWh : FnScope ["value"] ["value"] (defScope s_is_whole_number) := ⟨rfl, rfl, rfl, by decide +kernel, rfl, by decide +kernel, by decide +kernel⟩
theorem ok_whole {f : Addr} {fd : FuncData} (F : Fun K "is_whole_number" "is_whole_number" s_is_whole_number f fd) (T : Names mg) : FnOk P w K mg base CX0 1 f fd ["value"] (spWhole K) := by
  refine F.ok scWh (fun vs H Q E h => ?_) (fun cdv A outer s H vs Q E hr h => ?_)
  · obtain ⟨x, rfl, _⟩ := h
    rfl
  · obtain ⟨x, rfl, h⟩ := h
    refine ⟨_, pss_one (ps_ret (pe_and (pe_callB call_isi (by rfl) T.isinstance (by decide +kernel) (pa_cons (pv 0) (pa_cons (pe_bltn (v := .ty "int") (by rfl) T.int (by decide +kernel) rfl) pa_nil)))
      (pe_one (pe_not (pe_callB call_isi (by rfl) T.isinstance (by decide +kernel) (pa_cons (pv 0) (pa_cons (pe_bltn (v := .ty "bool") (by rfl) T.bool (by decide +kernel) rfl) pa_nil))))))), ?_⟩
    rcases h with ⟨v, rfl, h⟩ | ⟨⟨t, ty, hb⟩, h⟩
    · refine ⟨_, rfl, _, _, _, _, true, rfl, .ty "int", .base (.int v), kit_ty (by decide +kernel), true, rfl, ?_⟩
      refine iteT ?_
      refine ⟨_, rfl, _, _, _, _, false, rfl, .ty "bool", .base (.int v), kit_ty (by decide +kernel), false, rfl, ?_⟩
      exact h
    · rcases hb with hi | ⟨hi, hb⟩
      · refine ⟨_, rfl, _, _, _, _, false, rfl, .ty "int", ty, hi, false, rfl, ?_⟩
        exact iteF h
      · refine ⟨_, rfl, _, _, _, _, true, rfl, .ty "int", ty, hi, true, rfl, ?_⟩
        refine iteT ?_
        refine ⟨_, rfl, _, _, _, _, true, rfl, .ty "bool", ty, hb, true, rfl, ?_⟩
        exact h
def spWithin (K : PySem.W.Frag) : Sp := fun vs H Q _ => ∃ (x : V) (l m : Int), vs = [x, .int l, .int m] ∧ ((∃ v, x = .int v ∧ Q (.bl (decide (l ≤ v) && decide (v ≤ m))) H) ∨ (NoInt K H x ∧ Q (.bl false) H))
theorem scW : FnScope ["value", "least", "most"] ["value", "least", "most"] (defScope s_is_within) := ⟨rfl, rfl, rfl, by decide +kernel, rfl, by decide +kernel, by decide +kernel⟩
theorem ok_within {f g : Addr} {fd fdG : FuncData} (F : Fun K "is_within" "is_within" s_is_within f fd) (G : FnOk P w K mg base CX0 1 g fdG ["value"] (spWhole K)) (mgG : mg "is_whole_number" = some (.ref g)) (kG : PySem.W.keepIn K (.ref g) = true) (bG : Binds K fdG ["value"] []) : FnOk P w K mg base CX0 2 f fd ["value", "least", "most"] (spWithin K) := by
  refine F.ok scW (fun vs H Q E h => ?_) (fun cdv A outer s H vs Q E hr h => ?_)
  · obtain ⟨x, l, m, rfl, _⟩ := h
    rfl
  · obtain ⟨x, l, m, rfl, h⟩ := h
    refine ⟨_, pss_one (ps_ret (pe_and (pe_call G hr rfl mgG kG bG .nil pass0 (pa_cons (pv 0) pa_nil))
      (pe_one (pe_chain op_le op_le (pv 1) (pv 0) (pv 2))))), ?_⟩
    rcases h with ⟨v, rfl, h⟩ | ⟨n, h⟩
    · refine ⟨_, rfl, _, rfl, .inl ⟨v, rfl, _, rfl, ?_⟩⟩
      refine iteT ?_
      refine ⟨_, rfl, _, rfl, _, _, rfl, rfl, _, rfl, ?_⟩
      refine ite2 (fun c => ?_) (fun c => ?_)
      · refine ⟨_, rfl, _, _, rfl, rfl, ?_⟩
        rw [c] at h
        exact h
      · have c' : decide (l ≤ v) = false := by simpa using c
        rw [c'] at h
        exact h
    · refine ⟨_, rfl, _, rfl, .inr ⟨n, _, rfl, ?_⟩⟩
      exact iteF h
/-! ### is_number_in -/
def spNumIn (K : PySem.W.Frag) : Sp := fun vs H Q _ => ∃ (x : V) (d : Addr) (kvs : List (Key × V)), vs = [x, .ref d] ∧ H d = some (.dK kvs) ∧ ((∃ v, x = .int v ∧ Q (.bl (valV kvs (Sum.inl v)).isSome) H) ∨ (NoInt K H x ∧ Q (.bl false) H))
theorem scNI : FnScope ["value", "table"] ["value", "table"] (defScope s_is_number_in) := ⟨rfl, rfl, rfl, by decide +kernel, rfl, by decide +kernel, by decide +kernel⟩
theorem ok_numIn {f g : Addr} {fd fdG : FuncData} (F : Fun K "is_number_in" "is_number_in" s_is_number_in f fd) (G : FnOk P w K mg base CX0 1 g fdG ["value"] (spWhole K)) (mgG : mg "is_whole_number" = some (.ref g)) (kG : PySem.W.keepIn K (.ref g) = true) (bG : Binds K fdG ["value"] []) : FnOk P w K mg base CX0 2 f fd ["value", "table"] (spNumIn K) := by
  refine F.ok scNI (fun vs H Q E h => ?_) (fun cdv A outer s H vs Q E hr h => ?_)
  · obtain ⟨_, _, _, rfl, _⟩ := h
    rfl
  · obtain ⟨x, d, kvs, rfl, hd, h⟩ := h
    have hu := hu_of hr
    refine ⟨_, pss_one (ps_ret (pe_and (pe_call G hr rfl mgG kG bG .nil pass0 (pa_cons (pv 0) pa_nil))
      (pe_one (pe_cmp (pc_din hu (pv 0) (pv 1)))))), ?_⟩
    rcases h with ⟨v, rfl, h⟩ | ⟨n, h⟩
    · refine ⟨_, rfl, _, rfl, .inl ⟨v, rfl, _, rfl, ?_⟩⟩
      refine iteT ?_
      exact ⟨_, rfl, _, rfl, d, _, rfl, DGet.k (k := Sum.inl v) hd, h⟩
    · refine ⟨_, rfl, _, rfl, .inr ⟨n, _, rfl, ?_⟩⟩
      exact iteF h
/-! ### words -/
/-- a text, or none -/
inductive StrV (K : PySem.W.Frag) (H : Hp) : V → Option Str → Prop
  | yes (z : Str) (h : z.length ≤ sizeLine) : StrV K H (.str z) (some z)
  | no {x : V} {t : Value} (ty : TyX K H x t) (k : PySem.W.kitOne K t (.type "str") = some false) : StrV K H x none
theorem kit_ss (K : PySem.W.Frag) : PySem.W.kitOne K (.type "str") (.type "str") = some true := kit_ty (by decide +kernel)
def lettersOk (L z : Str) : Bool := (decide (1 ≤ z.length) && decide (z.length ≤ 8)) && z.cps.toList.all fun c => decide (c ∈ L.cps.toList)
def okS (L : Str) : Option Str → Bool
  | some z => lettersOk L z
  | none => false
def spLet (K : PySem.W.Frag) : Sp := fun vs H Q _ => ∃ (x : V) (L : Str) (o : Option Str), vs = [x, .str L] ∧ StrV K H x o ∧ ∀ H', Same H H' → Q (.bl (okS L o)) H'
theorem scMO : FnScope ["value", "letters", "letter"] ["value", "letters"] (defScope s__is_made_of) := ⟨rfl, rfl, rfl, by decide +kernel, rfl, by decide +kernel, by decide +kernel⟩
theorem all_range {n : Nat} {f : Nat → Bool} {l : List Nat} {g : Nat → Bool} (hl : l.length = n) (h : ∀ (i : Nat) c, l[i]? = some c → f i = g c) : ((List.range n).map f).all id = l.all g := by
  subst hl
  induction l generalizing f with
  | nil => rfl
  | cons c l ih =>
    rw [List.length_cons, List.range_succ_eq_map, List.map_cons, List.all_cons, List.all_cons, List.map_map, ih (f := f ∘ Nat.succ) fun i c' e => h (i + 1) c' e]
    rw [show id (f 0) = g c from h 0 c rfl]
def sgn (L z : Str) (i : Nat) : Bool := match z.cps[i]? with
  | some c => decide (c ∈ L.cps.toList)
  | none => false
theorem ok_madeOf {f : Addr} {fd : FuncData} (F : Fun K "_is_made_of" "_is_made_of" s__is_made_of f fd) (T : Names mg) : FnOk P w K mg base CX0 1 f fd ["value", "letters"] (spLet K) := by
  refine F.ok scMO (fun vs H Q E h => ?_) (fun cdv A outer s H vs Q E hr h => ?_)
  · obtain ⟨_, _, _, rfl, _⟩ := h
    rfl
  · obtain ⟨x, L, o, rfl, hx, h⟩ := h
    refine ⟨_, pss_cons (ps_if (PW.pt (pw_or (pt_not (pt_val (pe_callB call_isi (by rfl) T.isinstance (by decide +kernel) (pa_cons (pv 0) (pa_cons (pe_bltn (v := .ty "str") (by rfl) T.str (by decide +kernel) rfl) pa_nil)))))
      (pw_or1 (pt_not (pt_chain op_le op_le pe_int (pe_callB call_len_str (by rfl) T.len PySem.boot_len (pa_cons (pv 0) pa_nil)) pe_int))))) (pss_one (ps_ret pe_bl)) pss_nil)
      (pss_one (ps_ret (pe_callB (cr_all rfl) (by rfl) T.all (by decide +kernel) (pa_cons (pe_lc (own := [("letter", 2)]) (g := gName 2) (tt := tYes) rfl scMO.nd (pi_str (pv 0)) (blkOk_by (own := [("letter", 2)]) (N := ["value", "letters", "letter"]) (sc := defScope s__is_made_of) (by decide +kernel))
        (fun _ _ _ _ _ => pg_name (i := 2) scMO.nd rfl (Or.inl rfl)) (fun _ _ _ _ _ => pts_nil) (fun _ _ _ _ _ => pe_cmpR op_in_sign (pv 2) (pv 1) rfl)) pa_nil)))), ?_⟩
    cases hx with
    | no ty k =>
      refine ⟨_, rfl, _, _, _, _, false, rfl, .ty "str", ty, k, false, rfl, ?_⟩
      exact iteT (iteT (h H (Same.refl H)))
    | yes z hz =>
      refine ⟨_, rfl, _, _, _, _, true, rfl, .ty "str", .base (.str z), kit_ss K, true, rfl, ?_⟩
      refine iteF ?_
      have len : okS L (some z) = ((decide ((1 : Int) ≤ (z.length : Int)) && decide ((z.length : Int) ≤ 8)) && z.cps.toList.all fun c => decide (c ∈ L.cps.toList)) := by
        show lettersOk L z = _
        unfold lettersOk
        congr 2
        · exact decide_eq_decide.mpr (by omega)
        · exact decide_eq_decide.mpr (by omega)
      have no : (decide ((1 : Int) ≤ (z.length : Int)) && decide ((z.length : Int) ≤ 8)) = false → Q (.bl false) H := fun e => by
        have q := h H (Same.refl H)
        rw [len, e, Bool.false_and] at q
        exact q
      refine ⟨_, rfl, z, rfl, hz, _, _, rfl, rfl, _, rfl, ?_⟩
      refine ite2 (fun c1 => ?_) (fun c1 => ?_)
      · refine ⟨_, _, rfl, rfl, _, rfl, ?_⟩
        refine ite2 (fun c2 => ?_) (fun c2 => ?_)
        · refine no ?_
          have : decide ((z.length : Int) ≤ 8) = false := by simpa using c2
          rw [this, Bool.and_false]
        · have c2' : decide ((z.length : Int) ≤ 8) = true := by simpa using c2
          have h8 : z.length ≤ 8 := by have := of_decide_eq_true c2'; omega
          refine ⟨_, rfl, z, rfl, fun D hD => lc_vals walk_str (fun i => V.bl (sgn L z i)) ?_ hD (fun _ _ => trivial) (fun i x H1 H2 Nx hi sH y k => ?_) (fun H1 sH hL => ?_)⟩
          · exact Nat.lt_of_le_of_lt (Nat.le_trans (show z.cps.size ≤ 8 from h8) (by decide)) (by decide : 8 < sizeLine)
          · obtain ⟨rfl, c, hc, rfl⟩ := y
            refine ⟨rfl, ?_⟩
            refine ⟨_, rfl, _, rfl, c, L, rfl, rfl, ?_⟩
            refine k _ _ ?_ (Same.refl _)
            unfold sgn
            rw [hc]
          · have el : (List.range z.cps.size).map (fun i => V.bl (sgn L z i)) = ((List.range z.cps.size).map (sgn L z)).map V.bl := by rw [List.map_map]; rfl
            rw [el] at hL
            refine ⟨D, _, rfl, SqL.of hL, ?_⟩
            rw [all_range (l := z.cps.toList) (g := fun c => decide (c ∈ L.cps.toList)) (by simp) (fun i c e => by rw [Array.getElem?_toList] at e; unfold sgn; rw [e])]
            have q := h H1 sH
            rw [len, c1, c2', Bool.true_and] at q
            exact q
      · refine ⟨false, rfl, iteT (no ?_)⟩
        have : decide ((1 : Int) ≤ (z.length : Int)) = false := by simpa using c1
        rw [this, Bool.false_and]
/-! ### is_name, is_word -/
abbrev alphaL : Str := "abcdefghijklmnopqrstuvwxyz"
abbrev wordL : Str := "abcdefghijklmnopqrstuvwxyz0123456789"
def spName (K : PySem.W.Frag) : Sp := fun vs H Q _ => ∃ (x : V) (o : Option Str), vs = [x] ∧ StrV K H x o ∧ ∀ H', Same H H' → Q (.bl (okS alphaL o)) H'
theorem scNm : FnScope ["value"] ["value"] (defScope s_is_name) := ⟨rfl, rfl, rfl, by decide +kernel, rfl, by decide +kernel, by decide +kernel⟩
theorem ok_name {f g : Addr} {fd fdG : FuncData} (F : Fun K "is_name" "is_name" s_is_name f fd) (T : Names mg) (G : FnOk P w K mg base CX0 1 g fdG ["value", "letters"] (spLet K)) (mgG : mg "_is_made_of" = some (.ref g)) (kG : PySem.W.keepIn K (.ref g) = true) (bG : Binds K fdG ["value", "letters"] []) : FnOk P w K mg base CX0 2 f fd ["value"] (spName K) := by
  refine F.ok scNm (fun vs H Q E h => ?_) (fun cdv A outer s H vs Q E hr h => ?_)
  · obtain ⟨_, _, rfl, _⟩ := h
    rfl
  · obtain ⟨x, o, rfl, hx, h⟩ := h
    obtain ⟨tL, mL⟩ := T.LETTERS
    refine ⟨_, pss_one (ps_ret (pe_call G hr rfl mgG kG bG .nil pass0 (pa_cons (pv 0) (pa_cons (pe_glob (v := .str alphaL) rfl mL ⟨_, rfl⟩) pa_nil)))), ?_⟩
    exact ⟨_, rfl, _, alphaL, o, rfl, hx, h⟩
theorem wordL_eq : (alphaL ++ ("0123456789" : Str)) = wordL := by decide +kernel
def spWord (K : PySem.W.Frag) : Sp := fun vs H Q _ => ∃ (x : V) (o : Option Str), vs = [x] ∧ StrV K H x o ∧ ∀ H', Same H H' → Q (.bl (okS wordL o)) H'
theorem scWd : FnScope ["value"] ["value"] (defScope s_is_word) := ⟨rfl, rfl, rfl, by decide +kernel, rfl, by decide +kernel, by decide +kernel⟩
theorem ok_word {f g : Addr} {fd fdG : FuncData} (F : Fun K "is_word" "is_word" s_is_word f fd) (T : Names mg) (G : FnOk P w K mg base CX0 1 g fdG ["value", "letters"] (spLet K)) (mgG : mg "_is_made_of" = some (.ref g)) (kG : PySem.W.keepIn K (.ref g) = true) (bG : Binds K fdG ["value", "letters"] []) : FnOk P w K mg base CX0 2 f fd ["value"] (spWord K) := by
  refine F.ok scWd (fun vs H Q E h => ?_) (fun cdv A outer s H vs Q E hr h => ?_)
  · obtain ⟨_, _, rfl, _⟩ := h
    rfl
  · obtain ⟨x, o, rfl, hx, h⟩ := h
    obtain ⟨tL, mL⟩ := T.LETTERS
    obtain ⟨tD, mD⟩ := T.DIGITS
    refine ⟨_, pss_one (ps_ret (pe_call G hr rfl mgG kG bG .nil pass0 (pa_cons (pv 0) (pa_cons (pe_op op_add_str (pe_glob (v := .str alphaL) rfl mL ⟨_, rfl⟩) (pe_glob (v := .str "0123456789") rfl mD ⟨_, rfl⟩)) pa_nil)))), ?_⟩
    exact ⟨_, rfl, _, _, rfl, rfl, by decide +kernel, _, wordL, o, by rw [wordL_eq]; rfl, hx, h⟩
/-! ### is_tuple_of -/
inductive TupV (K : PySem.W.Frag) (H : Hp) : V → Option (List V) → Prop
  | yes {a : Addr} {xs : List V} (h : H a = some (.tup xs)) : TupV K H (.ref a) (some xs)
  | no {x : V} {t : Value} (ty : TyX K H x t) (k : PySem.W.kitOne K t (.type "tuple") = some false) : TupV K H x none
theorem kit_tt (K : PySem.W.Frag) : PySem.W.kitOne K (.type "tuple") (.type "tuple") = some true := kit_ty (by decide +kernel)
def isTup (n : Int) : Option (List V) → Bool
  | some xs => decide ((xs.length : Int) = n)
  | none => false
def spTupOf (K : PySem.W.Frag) : Sp := fun vs H Q _ => ∃ (x : V) (n : Int) (o : Option (List V)), vs = [x, .int n] ∧ TupV K H x o ∧ Q (.bl (isTup n o)) H
theorem scTO : FnScope ["value", "many"] ["value", "many"] (defScope s_is_tuple_of) := ⟨rfl, rfl, rfl, by decide +kernel, rfl, by decide +kernel, by decide +kernel⟩
theorem ok_tupOf {f : Addr} {fd : FuncData} (F : Fun K "is_tuple_of" "is_tuple_of" s_is_tuple_of f fd) (T : Names mg) : FnOk P w K mg base CX0 1 f fd ["value", "many"] (spTupOf K) := by
  refine F.ok scTO (fun vs H Q E h => ?_) (fun cdv A outer s H vs Q E hr h => ?_)
  · obtain ⟨_, _, _, rfl, _⟩ := h
    rfl
  · obtain ⟨x, n, o, rfl, hx, h⟩ := h
    refine ⟨_, pss_one (ps_ret (pe_and (pe_callB call_isi (by rfl) T.isinstance (by decide +kernel) (pa_cons (pv 0) (pa_cons (pe_bltn (v := .ty "tuple") (by rfl) T.tuple (by decide +kernel) rfl) pa_nil)))
      (pe_one (pe_cmpR op_eq (pe_callB call_len_seq (by rfl) T.len PySem.boot_len (pa_cons (pv 0) pa_nil)) (pv 1) (nomark _))))), ?_⟩
    cases hx with
    | no ty k =>
      refine ⟨_, rfl, _, _, _, _, false, rfl, .ty "tuple", ty, k, false, rfl, ?_⟩
      exact iteF h
    | yes hA =>
      rename_i a xs
      refine ⟨_, rfl, _, _, _, _, true, rfl, .ty "tuple", .base (.tup hA), kit_tt K, true, rfl, ?_⟩
      refine iteT ?_
      refine ⟨_, rfl, a, xs, rfl, .inr (tupAt hA), _, rfl, rfl, ?_⟩
      have e : decide (V.int (xs.length : Nat) = V.int n) = decide ((xs.length : Int) = n) := decide_eq_decide.mpr ⟨V.int.inj, fun z => by rw [z]⟩
      rw [e]
      exact h
end
end Sps
set_option Elab.async false
set_option linter.all false
set_option maxRecDepth 100000
set_option maxHeartbeats 4000000
/-! checks: copies. -/
namespace Sps
open PySem PySem.Spec PyProof.Rows L2
/-! ### rows of copies -/
abbrev Cp := Str × Option Str
def cpEnt (r : Cp) : Key × V := (Sum.inr r.1, optV r.2)
def look (rs : List Cp) (n : Str) : Option (Option Str) := (rs.find? fun r => decide (r.1 = n)).map (·.2)
theorem look_cons {r : Cp} {rs : List Cp} {n : Str} : look (r :: rs) n = if r.1 = n then some r.2 else look rs n := by
  unfold look
  rw [List.find?_cons]
  by_cases h : r.1 = n
  · rw [decide_eq_true h, if_pos h]; rfl
  · rw [decide_eq_false h, if_neg h]
theorem valV_look (rs : List Cp) (n : Str) : valV (rs.map cpEnt) (Sum.inr n) = (look rs n).map optV := by
  induction rs with
  | nil => rfl
  | cons r rs ih =>
    rw [look_cons]
    unfold valV at ih ⊢
    rw [List.map_cons, List.find?_cons]
    by_cases h : r.1 = n
    · have e : decide ((cpEnt r).1 = Sum.inr n) = true := decide_eq_true (by show (Sum.inr r.1 : Key) = Sum.inr n; rw [h])
      rw [e, if_pos h]; rfl
    · have e : decide ((cpEnt r).1 = Sum.inr n) = false := decide_eq_false (fun z => h (Sum.inr.inj z))
      rw [e, if_neg h]; exact ih
def lead (rs : List Cp) : Nat → Str → Bool
  | 0, _ => false
  | k + 1, n => match look rs n with
    | some none => true
    | some (some m) => lead rs k m
    | none => false
/-- each name that is followed is there -/
def Closed (rs : List Cp) : Prop := ∀ n m, look rs n = some (some m) → (look rs m).isSome = true
section
variable {P : Program} {w : World} {K : PySem.W.Frag} {mg : Str → Option Value} {base : Heap}
theorem call_lenRd {X : Cx} : CallR X (.builtin "len") (fun xs H Q => ∃ a kvs, xs = [.ref a] ∧ Rd H a (.dK kvs) ∧ Q (.int kvs.length) H) := by
  intro pins s σ H xs us Q I r h
  obtain ⟨a, kvs, rfl, ha, q⟩ := h
  obtain ⟨u, rfl, ru⟩ := vals1 r
  obtain rfl : u = Value.ref a := ru
  exact d_len I ha fun t s' I' => ⟨.int _, H, I', ⟨t, rfl⟩, q⟩
theorem DGet.rd {H : Hp} {a : Addr} {kvs : List (Key × V)} {k : Key} (e : Rd H a (.dK kvs)) : DGet H a (kV k) (valV kvs k) := .inl ⟨kvs, k, e, rfl, rfl⟩
def spLeads : Sp := fun vs H Q _ => ∃ (d : Addr) (n : Str) (rs : List Cp), vs = [.ref d, .str n] ∧ Rd H d (.dK (rs.map cpEnt)) ∧ rs.length ≤ 1000 ∧ Closed rs ∧ (look rs n).isSome = true ∧ Q (.bl (lead rs rs.length n)) H
theorem scLd : FnScope ["followed", "name", "_"] ["followed", "name"] (defScope s__leads_out) := ⟨rfl, rfl, rfl, by decide +kernel, rfl, by decide +kernel, by decide +kernel⟩
theorem ok_leads {f : Addr} {fd : FuncData} (F : Fun K "_leads_out" "_leads_out" s__leads_out f fd) (T : Names mg) : FnOk P w K mg base CX0 1 f fd ["followed", "name"] spLeads := by
  refine F.ok scLd (fun vs H Q E h => ?_) (fun cdv A outer s H vs Q E hr h => ?_)
  · obtain ⟨_, _, _, rfl, _⟩ := h
    rfl
  · obtain ⟨d, n, rs, rfl, hd, hlen, hcl, hn, h⟩ := h
    have hu := hu_of hr
    refine ⟨_, pss_cons (ps_for PassesOwn.never rfl (pi_range1 rfl T.range (pa_cons (pe_callB call_lenRd (by rfl) T.len PySem.boot_len (pa_cons (pv 0) pa_nil)) pa_nil)) (pg_name (i := 2) scLd.nd rfl (Or.inl rfl))
        (pss_cons (ps_set (i := 1) scLd.nd rfl (Or.inl rfl) (pe_dget hu (pv 0) (pv 1) (fun _ _ => rfl)))
        (pss_one (ps_if (pt_cmpR op_isN (pv 1) pe_non (nomark _)) (pss_one (ps_ret pe_bl)) pss_nil))))
      (pss_one (ps_ret pe_bl)), ?_⟩
    have el : (((rs.map cpEnt).length : Nat) : Int) = (rs.length : Nat) := by rw [List.length_map]
    refine ⟨_, rfl, d, _, rfl, hd, (rs.length : Nat), by rw [el], by omega, by omega, for_range (lo := 0) (n := rs.length) (fun i σ H' => ∃ (m : Str) (y : Option V), σ = [some (.ref d), some (.str m), y] ∧ H' = H ∧ lead rs rs.length n = lead rs (rs.length - i) m ∧ (look rs m).isSome = true) ⟨n, none, rfl, rfl, rfl, hn⟩ ?_ ?_⟩
    · rintro i σ H0 hi ⟨m, y, rfl, rfl, e, hm⟩
      obtain ⟨o, ho⟩ := Option.isSome_iff_exists.mp hm
      have hv : valV (rs.map cpEnt) (Sum.inr m) = some (optV o) := by rw [valV_look, ho]; rfl
      obtain ⟨k, hk⟩ : ∃ k, rs.length - i = k + 1 := ⟨rs.length - i - 1, by omega⟩
      rw [hk] at e
      refine ⟨_, rfl, _, rfl, d, optV o, rfl, by have g := DGet.rd (k := Sum.inr m) hd; rw [hv] at g; exact g, ?_⟩
      cases o with
      | none =>
        refine ⟨_, rfl, rfl, _, rfl, ite_t rfl ?_⟩
        have : lead rs (k + 1) m = true := by unfold lead; rw [ho]
        rw [e, this] at h
        exact h
      | some m2 =>
        refine ⟨_, rfl, rfl, _, rfl, ite_f (by intro z; cases z) ?_⟩
        have : lead rs (k + 1) m = lead rs k m2 := by rw [lead, ho]
        refine ⟨m2, _, rfl, rfl, ?_, hcl m m2 ho⟩
        rw [e, this, show rs.length - (i + 1) = k by omega]
    · rintro σ H' ⟨m, y, rfl, rfl, e, _⟩
      rw [Nat.sub_self] at e
      rw [e] at h
      exact h
end
end Sps
set_option Elab.async false
set_option linter.all false
set_option maxRecDepth 100000
set_option maxHeartbeats 4000000
/-! Rules of our own: dict(t) of a tuple of pairs. -/
namespace Sps
open PySem PySem.Spec PyProof.Rows L2
/-! ### dict(t) -/
def rDictT (K : PySem.W.Frag) : List V → Hp → VK → Prop := fun xs H Q => ∃ (a : Addr) (o : Obj) (ps : List Addr) (kvs : List (Key × V)), xs = [.ref a] ∧ H a = some (.frz o (.tup (ps.map V.ref))) ∧ o.dict = none ∧ Paired (fun p kv => SqT K H p [kV kv.1, kv.2]) ps kvs ∧
  ∀ p, H p = none → Q (.ref p) (L2.upd H p (.dK (mergeK [] kvs)))
theorem call_dictT {X : Cx} (hcalm : X.calm = true) : CallR X (.type "dict") (rDictT X.K) := by
  intro pins s σ H xs us Q I r q
  obtain ⟨a, o, ps, kvs, ex, hq, hdn, hp, q⟩ := q
  subst ex
  obtain ⟨u, eu, rx⟩ := vals1 r
  subst eu
  cases rx
  obtain ⟨ho, hz, its, rv, o', ho', hc, n, hd⟩ := (show ObjOk X.prog X.w H s.heap a (.frz o (.tup (ps.map V.ref))) from I.hok a _ hq)
  rw [ho] at ho'
  cases ho'
  have ei := refs_at rv
  subst ei
  rw [List.length_map] at hz
  obtain ⟨prs, rel, hl, hpr⟩ := pairs_of I hp
  -- the pairs, their keys as values
  obtain ⟨us, hus⟩ : ∃ us : List (Value × Value), us.length = ps.length ∧ ∀ (j : Nat) (k v : Value), us[j]? = some (k, v) → ∃ (b : Addr) (q : Key × Value), ps[j]? = some b ∧ prs[j]? = some q ∧ v = q.2 ∧ IsTup s.heap b #[k, q.2] ∧ keyIs q.1 k = true := by
    have aux : ∀ (prs : List (Key × Value)) (ps : List Addr), prs.length = ps.length → (∀ (j : Nat) (q : Key × Value), prs[j]? = some q → ∃ (b : Addr) (u : Value), ps[j]? = some b ∧ IsTup s.heap b #[u, q.2] ∧ keyIs q.1 u = true) →
        ∃ us : List (Value × Value), us.length = ps.length ∧ ∀ (j : Nat) (k v : Value), us[j]? = some (k, v) → ∃ (b : Addr) (q : Key × Value), ps[j]? = some b ∧ prs[j]? = some q ∧ v = q.2 ∧ IsTup s.heap b #[k, q.2] ∧ keyIs q.1 k = true := by
      intro prs
      induction prs with
      | nil =>
        intro ps hl _
        cases ps with
        | nil => exact ⟨[], rfl, fun j k v e => by simp at e⟩
        | cons _ _ => cases hl
      | cons p prs ih =>
        intro ps hl hp
        cases ps with
        | nil => cases hl
        | cons b ps =>
          obtain ⟨us, h1, h2⟩ := ih ps (by simpa using hl) fun j q e => by
            obtain ⟨b', u', e1, e2, e3⟩ := hp (j + 1) q (by simpa using e)
            exact ⟨b', u', by simpa using e1, e2, e3⟩
          obtain ⟨b', u, e1, e2, e3⟩ := hp 0 p rfl
          have eb : b = b' := by simpa using e1
          subst eb
          refine ⟨(u, p.2) :: us, by rw [List.length_cons, List.length_cons, h1], fun j k v e => ?_⟩
          cases j with
          | zero =>
            have e' : (u, p.2) = (k, v) := by simpa using e
            cases e'
            exact ⟨b, p, rfl, rfl, rfl, e2, e3⟩
          | succ j =>
            obtain ⟨b2, q, a1, a2, a3, a4, a5⟩ := h2 j k v (by simpa using e)
            exact ⟨b2, q, by simpa using a1, by simpa using a2, a3, a4, a5⟩
    exact aux prs ps hl hpr
  obtain ⟨hul, huk⟩ := hus
  have PA := PySem.PairArg.tuple (prog := X.prog) (w := X.w) a (ps.map Value.ref).toArray (fun j => ps.getD j 0) us
  refine PySem.call_dict_pairs (knd := mixKind X.prog X.w) (kvs := prs) PA (I.ok.hd hcalm) ⟨⟨o, n, ho, hc, hdn, hd⟩, by simp [hul], fun j k v e => ?_⟩ ⟨by rw [hl, hul], fun i k v e => ?_⟩ (by rw [hul]; exact hz) fun h' tk hd' k => ?_
  · obtain ⟨b, q, e1, e2, e3, e4, e5⟩ := huk j k v e
    refine ⟨?_, .inl ?_⟩
    · rw [List.getElem?_toArray, List.getElem?_map, e1]
      simp [List.getD, e1]
    · have eb : ps.getD j 0 = b := by simp [List.getD, e1]
      show s.heap.IsTuple (ps.getD j 0) #[k, v]
      rw [eb, e3]
      exact e4
  · obtain ⟨b, q, e1, e2, e3, e4, e5⟩ := huk i k v e
    exact ⟨q.1, by rw [e3]; exact e2, e5⟩
  · have hm : (s.heap.objs.size == sysModules) = false := beq_eq_false_iff_ne.mpr (Nat.ne_of_gt I.big)
    have hlen : (mergeK [] kvs).length ≤ sizeLine := by
      refine Nat.le_trans (length_mergeK kvs []) ?_
      rw [List.length_nil, Nat.zero_add, rel.length, hl]
      exact hz
    exact ⟨.ref s.heap.objs.size, L2.upd H s.heap.objs.size (.dK (mergeK [] kvs)), I.laid (t' := tk) (fun b ob e => k b ob (by simp) e) (Nat.le_refl _) (show ObjOk X.prog X.w _ _ _ (.dK (mergeK [] kvs)) from ⟨hlen, hm, merged [] prs, KV.merge rel .nil, hd'⟩), rfl, q _ (I.hok.fresh (Nat.le_refl _))⟩
/-! ### tuple(xs) of a list, locked at once -/
def rTupF (K : PySem.W.Frag) : List V → Hp → VK → Prop := fun xs H Q => ∃ (p : Addr) (ys : List V), xs = [.ref p] ∧ SqL K H p ys ∧ ∀ (l : Addr) (o : Obj), H l = none → o.dict = none → Q (.ref l) (L2.upd H l (.frz o (.tup ys)))
theorem call_tupF {X : Cx} : CallR X (.type "tuple") (rTupF X.K) := by
  intro pins s σ H xs us Q I r h
  obtain ⟨p, ys, rfl, hq, q⟩ := h
  obtain ⟨u, rfl, rx⟩ := vals1 r
  cases rx
  obtain ⟨its, r', pl, hz⟩ := I.list hq
  have hlen := r'.length
  refine call_tuple_list pl.isList (fun h' kp => ?_) (by simp only [List.size_toArray] <;> omega)
  have I1 : Inv X pins σ H { s with heap := h' } := I.kept (t' := s.toks) kp
  have I2 : Inv X pins σ (L2.upd H h'.objs.size (.frz { cls := .type "tuple", data := .seq its.toArray } (.tup ys))) { s with heap := h'.push { cls := .type "tuple", data := .seq its.toArray } } :=
    I1.laid (t' := s.toks) (fun b o e => Heap.get?_push_of_some _ e) (Nat.le_refl _) (show ObjOk X.prog X.w _ _ _ (.frz _ (.tup ys)) from ⟨Heap.get?_push_size _ rfl, hz, its, r', IsTup.new _ _⟩)
  exact ⟨.ref h'.objs.size, _, I2, rfl, q _ _ (I1.hok.fresh (Nat.le_refl _)) rfl⟩
/-! ### list(d.values()) -/
def tListVals (te : TE) : TE := fun σ H Q => te σ H fun x H1 => ∃ (d : Addr) (kvs : List (Key × V)), x = .ref d ∧ H1 d = some (.dK kvs) ∧ ∀ p, H1 p = none → Q (.ref p) (L2.upd H1 p (.lst (kvs.map (·.2))))
theorem pe_listVals {X : Cx} {e : Expr} {te : TE} {p apos cpos pos : Pos} (hc : X.calm = true) (he : PE X e te) (hg : Gl X "list") (hm : X.mg "list" = none) (hv : bootBuiltins "list" = some (.type "list") := by decide +kernel) (hbase : attributeBase e "values" X.env (eval e X.env) = eval e X.env := by rfl) (hline : (apos.endLine == cpos.line) = true := by rfl)
    (hs : starEach [.Call (.Attribute e "values" apos) [] [] cpos] X.env = (false, eval (.Call (.Attribute e "values" apos) [] [] cpos) X.env) :: starEach [] X.env := by rfl) :
    PE X (.Call (.Name "list" p) [.Call (.Attribute e "values" apos) [] [] cpos] [] pos) (tListVals te) := by
  refine ⟨fun pins s σ H Q I hq => ?_⟩
  refine wpAny_Call_Name_kw (ld_blt I hg hm hv ?_)
  refine PyProof.Rows.callWith_type1 ?_ hs rfl
  rw [hs]
  show wpAny _ _ (spliced ((false, eval (.Call (.Attribute e "values" apos) [] [] cpos) X.env) :: backTo pos (starEach [] X.env))) _ _ s
  refine Calls.spliced_cons ?_
  refine wpAny_Call_method (T := "dict") (id := "dict.values") hbase rfl hline F.plainAttrs_dict F.slot_dict_values F.type_dict_values (thn (he.run pins s σ H _ I hq) fun u s1 ⟨x, H1, I1, rx, d, kvs, ex, hd, q⟩ => ?_)
  subst ex
  obtain rfl : u = Value.ref d := rx
  obtain ⟨hz, hs0, vs, kv, hdo⟩ := I1.hok d _ hd
  obtain ⟨ep, hat⟩ := hdo.dictAt
  have lk : kvs.length = vs.length := Paired.length kv
  refine ⟨hdo.typeIs, hdo.mapOf.noDict, ?_⟩
  show wpAny _ _ (callWith cpos (.builtin "dict.values") [.ref d] [] []) _ X.xe s1
  refine method_meetsIn F.slot_dict_values F.entry_dict_values rfl (PySem.evalArgs_none ⟨rfl, hdo.typeIs, F.args_dict_values_1 _, _, meets_dict_values (mixKind X.prog X.w) d hs0, ⟨vs, hdo⟩, ?_⟩)
  refine Calls.spliced_nil ?_
  have I2 : Inv X pins σ H1 { s1 with heap := s1.heap.push { cls := .type "dict_values", data := .fields #[.ref d] } } := I1.kept (t' := s1.toks) fun b ob q => Heap.get?_push_of_some _ q
  refine PySem.W.kdl_call (PySem.W.kdl_values (knd := mixKind X.prog X.w) (kvs := vs) (ep := ep)) (I1.ok.hd hc) ⟨⟨_, Heap.get?_push_size _ rfl, rfl, rfl⟩, hat.push _⟩ (by omega) fun h' tk acc c hk hS hacc => ?_
  have ev : acc.toList = vs.map (·.2) := PySem.W.kdl_vals_eq acc.toList (by rw [Array.length_toList]; exact hacc.1) fun j v e => hacc.2 j v (by rw [← Array.getElem?_toList]; exact e)
  have rv : Vals (kvs.map (·.2)) acc.toList := by
    rw [ev]
    clear hS hacc ev hat hdo hd q lk hz
    induction kv with
    | nil => exact .nil
    | cons h t ih => exact .cons h.2 ih
  refine ⟨.ref _, L2.upd H1 (s1.heap.push { cls := .type "dict_values", data := .fields #[.ref d] }).objs.size (.lst (kvs.map (·.2))), I2.laid (t' := tk) (fun b ob e => hk b ob e) (Nat.le_refl _) (show ObjOk X.prog X.w _ _ _ (.lst (kvs.map (·.2))) from ⟨by rw [List.length_map]; omega, acc.toList, c, rv, ?_⟩), rfl, q _ (I2.hok.fresh (Nat.le_refl _))⟩
  rw [Array.toArray_toList]
  exact hS
/-! ### zip of two tuples, as a walk -/
theorem walk_zipT {K : PySem.W.Frag} {a b : Addr} {xs ys : List V} {n : Nat} (hn : n = min xs.length ys.length) : Walk (RZ.ItzT K a b) n (fun H => SqT K H a xs ∧ SqT K H b ys) (YPair (fun i => xs[i]?) (fun i => ys[i]?)) := by
  subst hn
  refine ⟨fun i _ hi q => ?_, fun _ q => ⟨xs, ys, q.1, q.2, by omega⟩, fun i H v H' _ q y => ?_⟩
  · have h1 : i < xs.length := by omega
    have h2 : i < ys.length := by omega
    exact ⟨xs, ys, xs[i], ys[i], q.1, q.2, by simp [h1], by simp [h2]⟩
  · obtain ⟨T, x, z, h1, h2, h3, h4, h5⟩ := y
    exact ⟨T, x, z, h1, h2, h3, h4 xs q.1, h5 ys q.2⟩
end Sps
set_option Elab.async false
set_option linter.all false
set_option maxRecDepth 100000
set_option maxHeartbeats 4000000
/-! checks: are_copies. -/
namespace Sps
open PySem PySem.Spec PyProof.Rows L2
/-! ### comprehensions of truth values -/
theorem all_rng {n : Nat} {b : Nat → Bool} : ((List.range n).map b).all id = (List.range n).all b := by rw [List.all_map]; rfl
section
variable {J : It} {n : Nat} {G : Hp → Prop} {Y : Nat → Hp → V → Hp → Prop}
theorem lc_bools (w : Walk J n G Y) {g : TG} {te : TE} {vs : List Nat} {σ : L2.St} {H1 : Hp} {D : Addr} {Qd : Hp → Prop} (b : Nat → Bool) (hn : n < sizeLine) (hD : H1 D = none) (hG : ∀ H, Same H1 H → G H)
    (hs : ∀ (i : Nat) (x : V) (H H' : Hp) (Nx : Hp → Prop), i < n → Same H1 H → Y i H x H' → (∀ y H4, y = V.bl (b i) → Same H H4 → ∃ acc, H4 D = some (.lst acc) ∧ acc.length < sizeLine ∧ Nx (L2.upd H4 D (.lst (acc ++ [y])))) →
      g x (wipe σ vs) H' fun σ2 H2 => wipe σ2 vs = wipe σ vs ∧ te σ2 H2 fun y H4 => ∃ acc, H4 D = some (.lst acc) ∧ acc.length < sizeLine ∧ Nx (L2.upd H4 D (.lst (acc ++ [y]))))
    (hd : ∀ H, Same H1 H → H D = some (.lst (((List.range n).map b).map V.bl)) → Qd H) :
    ∃ W : Nat → Nat → Hp → Prop, (∃ m, W 0 m (L2.upd H1 D (.lst []))) ∧ ∀ i m H, W i m H →
      (J.stop i H ∧ Qd H) ∨ (J.go i H ∧ ∃ Nx : Hp → Prop, (∀ H', Nx H' → ∃ m', m' < m ∧ W (i + 1) m' H') ∧ ∀ x H', J.yld i H x H' → g x (wipe σ vs) H' fun σ2 H2 => wipe σ2 vs = wipe σ vs ∧ tYes σ2 H2 fun b H3 =>
        if b = true then te σ2 H3 fun y H4 => ∃ acc, H4 D = some (.lst acc) ∧ acc.length < sizeLine ∧ Nx (L2.upd H4 D (.lst (acc ++ [y]))) else Nx H3) :=
  lc_vals w (fun i => V.bl (b i)) hn hD hG hs fun H s e => hd H s (by rw [e, List.map_map]; rfl)
end
/-! ### rows -/
def nm (rs : List Cp) (i : Nat) : Str := (rs[i]?.map (·.1)).getD ⟨#[]⟩
def ascB (rs : List Cp) : Bool := (List.range (rs.length - 1)).all fun i => ltS (nm rs i) (nm rs (i + 1))
def follB (rs : List Cp) (r : Cp) : Bool := match r.2 with
  | none => true
  | some f => (look rs f).isSome
def closedB (rs : List Cp) : Bool := rs.all (follB rs)
def leadsB (rs : List Cp) : Bool := rs.all fun r => lead rs rs.length r.1
def goodB (rs : List Cp) : Bool := ascB rs && (closedB rs && leadsB rs)
def okRow (r : Cp) : Prop := lettersOk alphaL r.1 = true ∧ ∀ f, r.2 = some f → lettersOk alphaL f = true
theorem nm_at {rs : List Cp} {i : Nat} {r : Cp} (h : rs[i]? = some r) : nm rs i = r.1 := by unfold nm; rw [h]; rfl
theorem asc_pair : ∀ {rs : List Cp}, ascB rs = true → rs.Pairwise fun a b => ltS a.1 b.1 = true
  | [], _ => .nil
  | [_], _ => List.pairwise_singleton _ _
  | a :: b :: rs, h => by
    have h1 := List.all_eq_true.mp h
    have h0 : ltS a.1 b.1 = true := h1 0 (List.mem_range.mpr (by simp only [List.length_cons]; omega))
    have ih : (b :: rs).Pairwise fun a b => ltS a.1 b.1 = true := asc_pair (by
      refine List.all_eq_true.mpr fun i hi => ?_
      have := h1 (i + 1) (List.mem_range.mpr (by have := List.mem_range.mp hi; simp only [List.length_cons] at this ⊢; omega))
      exact this)
    refine List.pairwise_cons.mpr ⟨fun c hc => ?_, ih⟩
    rcases List.mem_cons.mp hc with e | hc
    · rw [e]; exact h0
    · exact ltS_tr h0 ((List.pairwise_cons.mp ih).1 c hc)
theorem pair_nodup {rs : List Cp} (h : rs.Pairwise fun a b => ltS a.1 b.1 = true) : (rs.map (·.1)).Nodup := by
  refine List.pairwise_map.mpr (List.Pairwise.imp (fun {a b} q e => ?_) h)
  rw [e, ltS_irr] at q
  cases q
theorem merge_app : ∀ (more acc : List (Key × V)), ((acc ++ more).map (·.1)).Nodup → mergeK acc more = acc ++ more
  | [], acc, _ => by rw [List.append_nil]; rfl
  | p :: more, acc, h => by
    show mergeK (putK acc p.1 p.2) more = _
    have hp : p.1 ∉ acc.map (·.1) := by
      rw [List.map_append, List.nodup_append] at h
      intro m
      exact h.2.2 p.1 m p.1 (by simp) rfl
    have e : putK acc p.1 p.2 = acc ++ [p] := by
      unfold putK
      have hf : acc.any (fun kv => decide (kv.1 = p.1)) = false := List.any_eq_false.mpr fun kv m z => hp (by rw [← of_decide_eq_true z]; exact List.mem_map.mpr ⟨kv, m, rfl⟩)
      simp [hf]
    rw [e, merge_app more (acc ++ [p]) (by simpa using h)]
    simp
theorem merge_rows {rs : List Cp} (h : (rs.map (·.1)).Nodup) : mergeK [] (rs.map cpEnt) = rs.map cpEnt := by
  rw [merge_app _ [] ?_]
  · rfl
  · rw [List.nil_append, List.map_map]
    have e : (fun r : Cp => (cpEnt r).1) = (Sum.inr ∘ fun r : Cp => r.1) := rfl
    show (rs.map ((·.1) ∘ cpEnt)).Nodup
    rw [show ((fun x : Key × V => x.1) ∘ cpEnt) = (Sum.inr ∘ fun r : Cp => r.1) from rfl, ← List.map_map]
    exact List.Pairwise.map _ (fun a b q z => q (Sum.inr.inj z)) h
theorem closed_of {rs : List Cp} (h : closedB rs = true) : Closed rs := by
  intro n m e
  unfold look at e
  cases q : rs.find? fun r => decide (r.1 = n) with
  | none => rw [q] at e; cases e
  | some r =>
    rw [q] at e
    have e2 : r.2 = some m := Option.some.inj e
    have := List.all_eq_true.mp h r (List.mem_of_find?_eq_some q)
    unfold follB at this
    rw [e2] at this
    exact this
theorem look_mem {rs : List Cp} {r : Cp} (m : r ∈ rs) : (look rs r.1).isSome = true := by
  unfold look
  rw [Option.isSome_map, List.find?_isSome]
  exact ⟨r, m, decide_eq_true rfl⟩
/-- the rows as a tuple of pairs -/
def RowsAt (H : Hp) (a : Addr) (rs : List Cp) : Prop := ∃ (o : Obj) (ts : List Addr), H a = some (.frz o (.tup (ts.map V.ref))) ∧ o.dict = none ∧ Paired (fun (t : Addr) (r : Cp) => H t = some (.tup [.str r.1, optV r.2])) ts rs
theorem paired_imp {α β : Type} {F G : α → β → Prop} (k : ∀ a b, F a b → G a b) : ∀ {xs : List α} {ys : List β}, Paired F xs ys → Paired G xs ys
  | _, _, .nil => .nil
  | _, _, .cons h t => .cons (k _ _ h) (paired_imp k t)
theorem RowsAt.same {H H' : Hp} {a : Addr} {rs : List Cp} (h : RowsAt H a rs) (s : Same H H') : RowsAt H' a rs := let ⟨o, ts, h1, h2, h3⟩ := h; ⟨o, ts, s _ _ h1, h2, paired_imp (fun _ _ e => s _ _ e) h3⟩
theorem paired_at {α β : Type} {F : α → β → Prop} : ∀ {xs : List α} {ys : List β}, Paired F xs ys → ∀ {i : Nat} {x : α}, xs[i]? = some x → ∃ y, ys[i]? = some y ∧ F x y
  | _, _, .nil, i, x, h => by cases h
  | _, _, .cons r t, 0, x, h => by
    have e := Option.some.inj h
    subst e
    exact ⟨_, rfl, r⟩
  | _, _, .cons r t, i + 1, x, h => paired_at t h
section
variable {P : Program} {w : World} {K : PySem.W.Frag} {mg : Str → Option Value} {base : Heap}
/-! ### is_copy -/
theorem short {L z : Str} (h : lettersOk L z = true) : z.length ≤ sizeLine := by
  unfold lettersOk at h
  have h1 := (Bool.and_eq_true_iff.mp (Bool.and_eq_true_iff.mp h).1).2
  have h2 := of_decide_eq_true h1
  exact Nat.le_trans h2 (by decide)
def spIsCopy : Sp := fun vs H Q _ => ∃ (t : Addr) (r : Cp), vs = [.ref t] ∧ H t = some (.tup [.str r.1, optV r.2]) ∧ okRow r ∧ ∀ H', Same H H' → Q (.bl true) H'
theorem scIC : FnScope ["value"] ["value"] (defScope s_is_copy) := ⟨rfl, rfl, rfl, by decide +kernel, rfl, by decide +kernel, by decide +kernel⟩
theorem ok_isCopy {f g gN : Addr} {fd fdG fdN : FuncData} (F : Fun K "is_copy" "is_copy" s_is_copy f fd) (G : FnOk P w K mg base CX0 1 g fdG ["value", "many"] (spTupOf K)) (mgG : mg "is_tuple_of" = some (.ref g)) (kG : PySem.W.keepIn K (.ref g) = true) (bG : Binds K fdG ["value", "many"] [])
    (N : FnOk P w K mg base CX0 2 gN fdN ["value"] (spName K)) (mgN : mg "is_name" = some (.ref gN)) (kN : PySem.W.keepIn K (.ref gN) = true) (bN : Binds K fdN ["value"] []) : FnOk P w K mg base CX0 3 f fd ["value"] spIsCopy := by
  refine F.ok scIC (fun vs H Q E h => ?_) (fun cdv A outer s H vs Q E hr h => ?_)
  · obtain ⟨_, _, rfl, _⟩ := h
    rfl
  · obtain ⟨t, r, rfl, ht, ⟨ok1, ok2⟩, h⟩ := h
    have hr1 : Room 1 _ := hr.mono (by decide)
    refine ⟨_, pss_one (ps_ret (pe_and (pe_call G hr1 rfl mgG kG bG .nil pass0 (pa_cons (pv 0) (pa_cons pe_int pa_nil)))
      (pe_and (pe_call N hr rfl mgN kN bN .nil pass0 (pa_cons (pe_ix ix_tup (pv 0) pe_int (fun _ _ => rfl)) pa_nil))
        (pe_one (pe_or (pe_cmpR op_isN (pe_ix ix_tup (pv 0) pe_int (fun _ _ => rfl)) pe_non (nomark _))
          (pe_one (pe_call N hr rfl mgN kN bN .nil pass0 (pa_cons (pe_ix ix_tup (pv 0) pe_int (fun _ _ => rfl)) pa_nil)))))))), ?_⟩
    refine ⟨_, rfl, _, 2, _, rfl, .yes ht, _, rfl, iteT ?_⟩
    refine ⟨_, rfl, t, _, 0, _, rfl, rfl, tupAt ht, atI_nat (j := 0) rfl, _, _, rfl, .yes r.1 (short ok1), fun H1 s1 => ⟨_, rfl, ?_⟩⟩
    refine ite2 (fun _ => ?_) (fun c => absurd ok1 c)
    have ht1 := s1 _ _ ht
    refine ⟨_, rfl, t, _, 1, _, rfl, rfl, tupAt ht1, atI_nat (j := 1) rfl, rfl, ?_⟩
    cases e : r.2 with
    | none => exact ⟨_, rfl, iteT (h H1 s1)⟩
    | some z =>
      refine ⟨_, rfl, iteF ?_⟩
      rw [e] at ht1
      refine ⟨_, rfl, t, _, 1, _, rfl, rfl, tupAt ht1, atI_nat (j := 1) rfl, _, _, rfl, .yes z (short (ok2 z e)), fun H2 s2 => ?_⟩
      have q := h H2 (s1.trans s2)
      rw [← ok2 z e] at q
      exact q
end
end Sps
set_option Elab.async false
set_option linter.all false
set_option maxRecDepth 100000
set_option maxHeartbeats 4000000
/-! are_copies, check_copies. -/
namespace Sps
open PySem PySem.Spec PyProof.Rows L2
section
variable {P : Program} {w : World} {K : PySem.W.Frag} {mg : Str → Option Value} {base : Heap}
def spAre : Sp := fun vs H Q _ => ∃ (a : Addr) (rs : List Cp), vs = [.ref a] ∧ RowsAt H a rs ∧ 1 ≤ rs.length ∧ rs.length ≤ 6 ∧ (∀ r ∈ rs, okRow r) ∧ ∀ H', Same H H' → Q (.bl (goodB rs)) H'
abbrev nAre : List Str := ["value", "pair", "one", "other", "followed", "name"]
theorem scAre : FnScope nAre ["value"] (defScope s_are_copies) := ⟨rfl, rfl, rfl, by decide +kernel, rfl, by decide +kernel, by decide +kernel⟩
theorem small_n {n : Nat} (h : n ≤ 6) : n < sizeLine := Nat.lt_of_le_of_lt h (by decide)
theorem cut_tail {α : Type} (xs : List α) (h : 1 ≤ xs.length) : HT.sIx xs.length 0 (some 1) = 1 := by
  unfold HT.sIx
  simp
  omega
def ixB (f : Cp → Bool) : Option Cp → Bool
  | some r => f r
  | none => true
theorem all_ix {rs : List Cp} {f : Cp → Bool} : ((List.range rs.length).all fun i => ixB f rs[i]?) = rs.all f := by
  induction rs with
  | nil => rfl
  | cons r rs ih =>
    rw [List.length_cons, List.range_succ_eq_map, List.all_cons, List.all_cons, List.all_map]
    rw [← ih]
    rfl
theorem ok_are {f gC gL : Addr} {fd fdC fdL : FuncData} (F : Fun K "are_copies" "are_copies" s_are_copies f fd) (T : Names mg)
    (C : FnOk P w K mg base CX0 3 gC fdC ["value"] spIsCopy) (mgC : mg "is_copy" = some (.ref gC)) (kC : PySem.W.keepIn K (.ref gC) = true) (bC : Binds K fdC ["value"] [])
    (L : FnOk P w K mg base CX0 1 gL fdL ["followed", "name"] spLeads) (mgL : mg "_leads_out" = some (.ref gL)) (kL : PySem.W.keepIn K (.ref gL) = true) (bL : Binds K fdL ["followed", "name"] []) : FnOk P w K mg base CX0 4 f fd ["value"] spAre := by
  refine F.ok scAre (fun vs H Q E h => ?_) (fun cdv A outer s H vs Q E hr h => ?_)
  · obtain ⟨_, _, rfl, _⟩ := h
    rfl
  · obtain ⟨a, rs, rfl, hR, h1, h6, hok, h⟩ := h
    have hr1 : Room 1 _ := hr.mono (by decide)
    have hu : _ := hr.units
    have hu2 := hu_of hr
    refine ⟨_, pss_cons (ps_if (PW.pt (pw_or (pt_not (pt_val (pe_callB call_isi (by rfl) T.isinstance (by decide +kernel) (pa_cons (pv 0) (pa_cons (pe_bltn (v := .ty "tuple") (by rfl) T.tuple (by decide +kernel) rfl) pa_nil)))))
        (pw_or1 (pt_not (pt_chain op_le op_le pe_int (pe_callB call_len_seq (by rfl) T.len PySem.boot_len (pa_cons (pv 0) pa_nil)) pe_int))))) (pss_one (ps_ret pe_bl)) pss_nil)
      (pss_cons (ps_if (pt_not (pt_val (pe_callB (cr_all rfl) (by rfl) T.all (by decide +kernel) (pa_cons (pe_lc (own := [("pair", 1)]) (g := gName 1) (tt := tYes) rfl scAre.nd (pi_tup (pv 0)) (blkOk_by (own := [("pair", 1)]) (N := nAre) (sc := defScope s_are_copies) (by decide +kernel))
          (fun _ _ _ _ _ => pg_name (i := 1) scAre.nd rfl (Or.inl rfl)) (fun _ _ _ _ _ => pts_nil) (fun _ _ _ _ _ => pe_call C hr rfl mgC kC bC .nil pass0 (pa_cons (pv 1) pa_nil))) pa_nil)))) (pss_one (ps_ret pe_bl)) pss_nil)
      (pss_cons (ps_if (pt_not (pt_val (pe_callB (cr_all rfl) (by rfl) T.all (by decide +kernel) (pa_cons (pe_lc (own := [("one", 2), ("other", 3)]) (g := gTup K 2 (gCons (gName 2) (gCons (gName 3) gNil))) (tt := tYes) rfl scAre.nd (RZ.pi_zipA (by rfl) T.zip (pa_cons (pv 0) (pa_cons (pe_slice sl_tup (pv 0) (po_some pe_int) po_none) pa_nil))) (blkOk_by (own := [("one", 2), ("other", 3)]) (N := nAre) (sc := defScope s_are_copies) (by decide +kernel))
          (fun _ _ _ _ _ => pg_tup rfl (pgs_cons (pg_name (i := 2) scAre.nd rfl (Or.inl rfl)) (pgs_cons (pg_name (i := 3) scAre.nd rfl (Or.inl rfl)) pgs_nil))) (fun _ _ _ _ _ => pts_nil)
          (fun _ _ _ _ _ => pe_cmpR op_lt_str (pe_ix (r := rIxT K) ix_tup (pv 2) pe_int (fun _ _ => rfl)) (pe_ix (r := rIxT K) ix_tup (pv 3) pe_int (fun _ _ => rfl)) (nomark _))) pa_nil)))) (pss_one (ps_ret pe_bl)) pss_nil)
      (pss_cons (ps_set (i := 4) scAre.nd rfl (Or.inr rfl) (pe_callTy (call_dictT rfl) (by rfl) T.dict (by decide +kernel) (pa_cons (pv 0) pa_nil)))
      (pss_cons (ps_if (pt_not (pt_val (pe_callB (cr_all rfl) (by rfl) T.all (by decide +kernel) (pa_cons (pe_lc (own := [("name", 5)]) (g := gName 5) (tt := tYes) rfl scAre.nd (pi_list (pe_listVals rfl (pv 4) (by rfl) T.list)) (blkOk_by (own := [("name", 5)]) (N := nAre) (sc := defScope s_are_copies) (by decide +kernel))
          (fun _ _ _ _ _ => pg_name (i := 5) scAre.nd rfl (Or.inl rfl)) (fun _ _ _ _ _ => pts_nil)
          (fun _ _ _ _ _ => pe_or (pe_cmpR op_isN (pv 5) pe_non (nomark _)) (pe_one (pe_cmp (pc_din hu2 (pv 5) (pv 4)))))) pa_nil)))) (pss_one (ps_ret pe_bl)) pss_nil)
      (pss_one (ps_ret (pe_callB (cr_all rfl) (by rfl) T.all (by decide +kernel) (pa_cons (pe_lock (pe_lc (own := [("name", 5)]) (g := gName 5) (tt := tYes) rfl scAre.nd (pi_keys (pv 4)) (blkOk_by (own := [("name", 5)]) (N := nAre) (sc := defScope s_are_copies) (by decide +kernel))
          (fun _ _ _ _ _ => pg_name (i := 5) scAre.nd rfl (Or.inl rfl)) (fun _ _ _ _ _ => pts_nil)
          (fun _ _ _ _ _ => pe_call L hr1 rfl mgL kL bL .nil pass0 (pa_cons (pv 4) (pa_cons (pv 5) pa_nil))))) pa_nil)))))))), ?_⟩
    obtain ⟨o, ts, hA, hdn, hP⟩ := id hR
    have hl : ts.length = rs.length := hP.length
    have at_ : ∀ {H' : Hp}, Same H H' → SqT K H' a (ts.map V.ref) := fun s => .inl (.inr ⟨o, s _ _ hA⟩)
    have row : ∀ {i : Nat} {x : V}, (ts.map V.ref)[i]? = some x → ∃ (t : Addr) (r : Cp), x = .ref t ∧ rs[i]? = some r ∧ r ∈ rs ∧ H t = some (.tup [.str r.1, optV r.2]) := fun {i x} e => by
      rw [List.getElem?_map] at e
      cases q : ts[i]? with
      | none => rw [q] at e; cases e
      | some t =>
        rw [q] at e
        obtain ⟨r, hr2, ht⟩ := paired_at hP q
        exact ⟨t, r, (Option.some.inj e).symm, hr2, List.mem_of_getElem? hr2, ht⟩
    have len_ : (ts.map V.ref).length = rs.length := by rw [List.length_map, hl]
    have hz : rs.length < sizeLine := small_n h6
    refine ⟨_, rfl, _, _, _, _, true, rfl, .ty "tuple", .fTuple hA, kit_tt K, true, rfl, iteF ?_⟩
    refine ⟨_, rfl, a, _, rfl, .inr (at_ (Same.refl H)), _, _, rfl, rfl, _, rfl, ite_t (by rw [len_]; omega) ⟨_, _, rfl, rfl, _, rfl, iteNS (by rw [len_]; omega) ?_⟩⟩
    -- every pair
    refine ⟨_, rfl, a, rfl, ⟨_, at_ (Same.refl H)⟩, fun D1 hD1 => lc_bools (walk_tup (K := K) (a := a) (xs := ts.map V.ref)) (fun _ => true) (by rw [len_]; exact hz) hD1 (fun H' s => at_ s) (fun i x H1 H2 Nx hi s1 y k => ?_) (fun H1 s1 hL1 => ?_)⟩
    · obtain ⟨rfl, hx⟩ := y
      obtain ⟨t, r, rfl, _, m, ht⟩ := row hx
      refine ⟨rfl, ?_⟩
      exact ⟨_, rfl, t, r, rfl, s1 _ _ ht, hok r m, fun H3 s3 => k _ _ rfl s3⟩
    refine ⟨D1, _, rfl, SqL.of hL1, _, rfl, ?_⟩
    have e1 : (((List.range (ts.map V.ref).length).map fun _ => true).all id) = true := by simp
    rw [e1]
    refine iteF ?_
    -- ascending
    have nw : ¬ (HT.sIx (ts.map V.ref).length 0 (some 1) = 0 ∧ HT.sIx (ts.map V.ref).length (ts.map V.ref).length none = (ts.map V.ref).length) := fun z => by
      rw [cut_tail _ (by rw [len_]; exact h1)] at z
      exact absurd z.1 (by decide)
    have cutE : cutV (ts.map V.ref) (some 1) none = (ts.map V.ref).drop 1 := by
      unfold cutV
      rw [cut_tail _ (by rw [len_]; exact h1), HT.sIx_none, List.take_of_length_le]
      rw [List.length_drop]
      exact Nat.le_refl _
    refine ⟨_, rfl, _, rfl, 1, rfl, a, _, rfl, at_ s1, nw, fun p hp => ?_⟩
    rw [cutE]
    have s2 : Same H (L2.upd H1 p (.tup ((ts.map V.ref).drop 1))) := Same.upd' s1 hp
    have pA : ∀ {H' : Hp}, Same (L2.upd H1 p (.tup ((ts.map V.ref).drop 1))) H' → SqT K H' p ((ts.map V.ref).drop 1) := fun s => tupAt (s _ _ upd_same)
    refine ⟨a, p, _, _, rfl, .inr ⟨at_ s2, pA (Same.refl _), fun D2 hD2 => lc_bools (walk_zipT (K := K) (a := a) (b := p) (n := rs.length - 1) (by rw [List.length_drop, len_]; omega)) (fun i => ltS (nm rs i) (nm rs (i + 1))) (by omega) hD2 (fun H' s => ⟨at_ (s2.trans s), pA s⟩) (fun i x H3 H4 Nx hi s3 y k => ?_) (fun H3 s3 hL3 => ?_)⟩⟩
    · obtain ⟨T0, x1, x2, rfl, hT0, rfl, hx1, hx2⟩ := y
      have hx2 : ((ts.map V.ref).drop 1)[i]? = some x2 := hx2
      rw [List.getElem?_drop] at hx2
      obtain ⟨t1, r1, rfl, hr1', m1, ht1⟩ := row hx1
      obtain ⟨t2, r2, rfl, hr2', m2, ht2⟩ := row hx2
      have sT := Same.upd' (s2.trans s3) hT0 (o := .tup [V.ref t1, V.ref t2])
      refine ⟨T0, _, rfl, tupAt upd_same, rfl, _, _, rfl, _, _, rfl, rfl, rfl, ?_⟩
      refine ⟨_, rfl, t1, _, 0, _, rfl, rfl, tupAt (sT _ _ ht1), atI_nat (j := 0) rfl, _, rfl, t2, _, 0, _, rfl, rfl, tupAt (sT _ _ ht2), atI_nat (j := 0) rfl, _, _, rfl, rfl, k _ _ ?_ (Same.upd hT0)⟩
      rw [nm_at hr1', nm_at (i := i + 1) (by rw [Nat.add_comm]; exact hr2')]
      rfl
    refine ⟨D2, _, rfl, SqL.of hL3, _, rfl, ?_⟩
    rw [all_rng]
    have s13 := s2.trans s3
    cases ha : ascB rs with
    | false =>
      rw [show ((List.range (rs.length - 1)).all fun i => ltS (nm rs i) (nm rs (i + 1))) = false from ha]
      refine iteT ?_
      have q := h H3 s13
      unfold goodB at q
      rw [ha, Bool.false_and] at q
      exact q
    | true =>
      rw [show ((List.range (rs.length - 1)).all fun i => ltS (nm rs i) (nm rs (i + 1))) = true from ha]
      refine iteF ?_
      have nd := pair_nodup (asc_pair ha)
      have pr : Paired (fun p kv => SqT K H3 p [kV kv.1, kv.2]) ts (rs.map cpEnt) := by
        have aux : ∀ {ts : List Addr} {rs : List Cp}, Paired (fun (t : Addr) (r : Cp) => H t = some (.tup [.str r.1, optV r.2])) ts rs → Paired (fun p kv => SqT K H3 p [kV kv.1, kv.2]) ts (rs.map cpEnt) := fun {ts rs} hp => by
          induction hp with
          | nil => exact .nil
          | cons h t ih => exact .cons (tupAt (s13 _ _ h)) ih
        exact aux hP
      refine ⟨_, rfl, a, o, ts, rs.map cpEnt, rfl, s13 _ _ hA, hdn, pr, fun d hd => ?_⟩
      rw [merge_rows nd]
      have s4 : Same H (L2.upd H3 d (.dK (rs.map cpEnt))) := Same.upd' s13 hd
      have hd0 : H d = none := by
        cases q : H d with
        | none => rfl
        | some u => rw [s13 _ _ q] at hd; cases hd
      -- what is followed is there
      refine ⟨_, rfl, d, rs.map cpEnt, rfl, upd_same, fun q hq => ⟨q, rfl, ⟨_, SqL.of upd_same⟩, fun D3 hD3 => lc_bools (walk_list (K := K) (a := q) (xs := (rs.map cpEnt).map (·.2))) (fun i => ixB (follB rs) rs[i]?) (by rw [List.length_map, List.length_map]; exact hz) hD3 (fun H' s => SqL.of (s _ _ upd_same)) (fun i x H5 H6 Nx hi s5 y k => ?_) (fun H5 s5 hL5 => ?_)⟩⟩
      · obtain ⟨rfl, hx⟩ := y
        rw [List.getElem?_map, List.getElem?_map] at hx
        cases hr : rs[i]? with
        | none => rw [hr] at hx; cases hx
        | some r =>
          rw [hr] at hx
          have ex : x = optV r.2 := (Option.some.inj hx).symm
          subst ex
          have hdd : H6 d = some (.dK (rs.map cpEnt)) := s5 _ _ (Same.upd hq _ _ upd_same)
          refine ⟨rfl, ?_⟩
          rw [hr] at k
          refine ⟨_, rfl, rfl, ?_⟩
          cases e : r.2 with
          | none =>
            refine ⟨_, rfl, iteT (k _ _ ?_ (Same.refl _))⟩
            show _ = V.bl (follB rs r)
            unfold follB
            rw [e]
            try rfl
          | some z =>
            refine ⟨_, rfl, iteF ?_⟩
            refine ⟨_, rfl, _, rfl, d, _, rfl, DGet.k (k := Sum.inr z) hdd, k _ _ ?_ (Same.refl _)⟩
            show _ = V.bl (follB rs r)
            unfold follB
            rw [e, valV_look, Option.isSome_map]
      refine ⟨D3, _, rfl, SqL.of hL5, _, rfl, ?_⟩
      rw [all_rng, show ((rs.map cpEnt).map (·.2)).length = rs.length by rw [List.length_map, List.length_map], all_ix]
      have s5' := s4.trans ((Same.upd hq).trans s5)
      cases hc : closedB rs with
      | false =>
        rw [show rs.all (follB rs) = false from hc]
        refine iteT ?_
        have q := h H5 s5'
        unfold goodB at q
        rw [hc, Bool.false_and, Bool.and_false] at q
        exact q
      | true =>
        rw [show rs.all (follB rs) = true from hc]
        refine iteF ?_
        have hdd : H5 d = some (.dK (rs.map cpEnt)) := s5 _ _ (Same.upd hq _ _ upd_same)
        refine ⟨d, _, hdd, trivial, fun od => ⟨_, rfl, d, od, rfl, .inl ⟨_, upd_same, fun D4 hD4 => lc_bools (walk_keys (d := d) (o := od) (kvs := rs.map cpEnt)) (fun i => ixB (fun r => lead rs rs.length r.1) rs[i]?) (by rw [List.length_map]; exact hz) hD4 (fun H' s => s _ _ upd_same) (fun i x H7 H8 Nx hi s7 y k => ?_) (fun H7 s7 hL7 => ?_)⟩⟩⟩
        · obtain ⟨rfl, ky, vy, hx, rfl⟩ := y
          rw [List.getElem?_map] at hx
          cases hr : rs[i]? with
          | none => rw [hr] at hx; cases hx
          | some r =>
            rw [hr] at hx k
            have ex : cpEnt r = (ky, vy) := Option.some.inj hx
            cases ex
            refine ⟨rfl, ?_⟩
            exact ⟨_, rfl, _, rfl, d, r.1, rs, rfl, .inr ⟨od, s7 _ _ upd_same⟩, by omega, closed_of hc, look_mem (List.mem_of_getElem? hr), k _ _ rfl (Same.refl _)⟩
        · have h7d : H7 d = some (.frz od (.dK (rs.map cpEnt))) := s7 _ _ upd_same
          have nD : D4 ≠ d := fun z => by
            rw [z, upd_same] at hD4
            cases hD4
          refine ⟨h7d, D4, _, rfl, SqL.of (by rw [upd_ne nD]; exact hL7), ?_⟩
          rw [all_rng, List.length_map, all_ix]
          have sE : Same H (L2.upd H7 d (.dK (rs.map cpEnt))) := fun b u e => by
            have nb : b ≠ d := ne_of_none e hd0
            rw [upd_ne nb]
            exact s7 _ _ (by rw [upd_ne nb]; exact s5' _ _ e)
          have q := h _ sE
          unfold goodB at q
          rw [ha, hc, Bool.true_and, Bool.true_and] at q
          exact q
/-! ### check_copies -/
def spCheckC : Sp := fun vs H Q _ => ∃ (a : Addr) (rs : List Cp), vs = [.ref a] ∧ RowsAt H a rs ∧ 1 ≤ rs.length ∧ rs.length ≤ 6 ∧ (∀ r ∈ rs, okRow r) ∧ goodB rs = true ∧ ∀ H', Same H H' → Q .non H'
theorem scCk : FnScope ["value"] ["value"] (defScope s_check_copies) := ⟨rfl, rfl, rfl, by decide +kernel, rfl, by decide +kernel, by decide +kernel⟩
theorem ok_checkC {f g : Addr} {fd fdG : FuncData} (F : Fun K "check_copies" "check_copies" s_check_copies f fd) (G : FnOk P w K mg base CX0 4 g fdG ["value"] spAre) (mgG : mg "are_copies" = some (.ref g)) (kG : PySem.W.keepIn K (.ref g) = true) (bG : Binds K fdG ["value"] []) : FnOk P w K mg base CX0 5 f fd ["value"] spCheckC := by
  refine F.ok scCk (fun vs H Q E h => ?_) (fun cdv A outer s H vs Q E hr h => ?_)
  · obtain ⟨_, _, rfl, _⟩ := h
    rfl
  · obtain ⟨a, rs, rfl, hR, h1, h6, hok, hg, h⟩ := h
    refine ⟨_, pss_one (ps_if (pt_not (pt_val (pe_call G hr rfl mgG kG bG .nil pass0 (pa_cons (pv 0) pa_nil)))) (pss_one ps_never) pss_nil), ?_⟩
    refine ⟨_, rfl, a, rs, rfl, hR, h1, h6, hok, fun H' s => ⟨_, rfl, ?_⟩⟩
    rw [hg]
    exact iteF (h H' s)
end
end Sps
set_option Elab.async false
set_option linter.all false
set_option maxRecDepth 100000
set_option maxHeartbeats 4000000
/-! records: above_of, Site. -/
namespace Sps
open PySem PySem.Spec PyProof.Rows L2
/-- the copies that n is under, at most k steps up -/
def chain (rs : List Cp) : Nat → Str → List Str
  | 0, n => [n]
  | k + 1, n => n :: match look rs n with
    | some (some m) => chain rs k m
    | _ => []
def aboveL (rs : List Cp) (n : Str) : List Str := chain rs rs.length n
def abEnt (p : Cp × Addr) : Key × V := (Sum.inr p.1.1, .ref p.2)
/-- the table of what each copy is under -/
def AboveAt (H : Hp) (d : Addr) (rs : List Cp) : Prop := ∃ us : List Addr, us.length = rs.length ∧ H d = some (.dK ((rs.zip us).map abEnt)) ∧ Paired (fun (u : Addr) (r : Cp) => H u = some (.tup ((aboveL rs r.1).map V.str))) us rs
theorem AboveAt.same {H H' : Hp} {d : Addr} {rs : List Cp} (h : AboveAt H d rs) (s : Same H H') : AboveAt H' d rs := let ⟨us, h1, h2, h3⟩ := h; ⟨us, h1, s _ _ h2, paired_imp (fun _ _ e => s _ _ e) h3⟩
theorem chain_len (rs : List Cp) : ∀ (k : Nat) (n : Str), (chain rs k n).length ≤ k + 1
  | 0, _ => Nat.le_refl _
  | k + 1, n => by
    unfold chain
    rw [List.length_cons]
    cases look rs n with
    | none => simp
    | some o =>
      cases o with
      | none => simp
      | some m => have := chain_len rs k m; simpa using this
section
variable {P : Program} {w : World} {K : PySem.W.Frag} {mg : Str → Option Value} {base : Heap}
def spAbove : Sp := fun vs H Q _ => ∃ (a : Addr) (rs : List Cp), vs = [.ref a] ∧ RowsAt H a rs ∧ rs.length ≤ 6 ∧ goodB rs = true ∧ ∀ (H' : Hp) (d : Addr), Same H H' → H d = none → AboveAt H' d rs → Q (.ref d) H'
abbrev nAb : List Str := ["copies", "followed", "found", "name", "_", "above"]
theorem scAb : FnScope nAb ["copies"] (defScope s_above_of) := ⟨rfl, rfl, rfl, by decide +kernel, rfl, by decide +kernel, by decide +kernel⟩
theorem ok_above {f : Addr} {fd : FuncData} (F : Fun K "above_of" "above_of" s_above_of f fd) (T : Names mg) : FnOk P w K mg base CX0 1 f fd ["copies"] spAbove := by
  refine F.ok scAb (fun vs H Q E h => ?_) (fun cdv A outer s H vs Q E hr h => ?_)
  · obtain ⟨_, _, rfl, _⟩ := h
    rfl
  · obtain ⟨a, rs, rfl, hR, h6, hg, h⟩ := h
    have hu := hu_of hr
    refine ⟨_, pss_cons (ps_set (i := 1) scAb.nd rfl (Or.inl rfl) (pe_callTy (call_dictT rfl) (by rfl) T.dict (by decide +kernel) (pa_cons (pv 0) pa_nil)))
      (pss_cons (ps_set (i := 2) scAb.nd rfl (Or.inl rfl) pe_dnewK)
      (pss_cons (ps_for PassesOwn.never rfl (pi_tup (pv 0)) (pg_tup rfl (pgs_cons (pg_name (i := 3) scAb.nd rfl (Or.inl rfl)) (pgs_cons (pg_name (i := 4) scAb.nd rfl (Or.inl rfl)) pgs_nil)))
        (pss_cons (ps_set (i := 5) scAb.nd rfl (Or.inl rfl) (pe_lst (pa_cons (pv 3) pa_nil)))
        (pss_cons (ps_while PassesOwn.never (pt_cmpR op_notN (pe_dget hu (pv 1) (pe_ix ix_list (pv 5) (pe_un un_neg pe_int) (fun _ _ => rfl)) (fun _ _ => rfl)) pe_non (nomark _))
          (pss_one (ps_expr (pe_bm PySem.F.plainAttrs_list PySem.F.slot_list_append PySem.F.type_list_append mt_append (pv 5) (pa_cons (pe_dget hu (pv 1) (pe_ix ix_list (pv 5) (pe_un un_neg pe_int) (fun _ _ => rfl)) (fun _ _ => rfl)) pa_nil)))))
        (pss_one (ps_dput hu (pv 2) (pv 3) (pe_callTy call_tuple_of (by rfl) T.tuple (by decide +kernel) (pa_cons (pv 5) pa_nil)) rfl)))))
      (pss_one (ps_ret (pv 2))))), ?_⟩
    obtain ⟨o, ts, hA, hdn, hP⟩ := id hR
    have hl : ts.length = rs.length := hP.length
    obtain ⟨ha, hcl⟩ := Bool.and_eq_true_iff.mp hg
    obtain ⟨hc, hld⟩ := Bool.and_eq_true_iff.mp hcl
    have nd := pair_nodup (asc_pair ha)
    have hcl' := closed_of hc
    have pr : Paired (fun p kv => SqT K H p [kV kv.1, kv.2]) ts (rs.map cpEnt) := by
      have aux : ∀ {ts : List Addr} {rs : List Cp}, Paired (fun (t : Addr) (r : Cp) => H t = some (.tup [.str r.1, optV r.2])) ts rs → Paired (fun p kv => SqT K H p [kV kv.1, kv.2]) ts (rs.map cpEnt) := fun {ts rs} hp => by
        induction hp with
        | nil => exact .nil
        | cons h t ih => exact .cons (tupAt h) ih
      exact aux hP
    refine ⟨_, rfl, a, o, ts, rs.map cpEnt, rfl, hA, hdn, pr, fun d1 hd1 => ?_⟩
    rw [merge_rows nd]
    have s1 : Same H (L2.upd H d1 (.dK (rs.map cpEnt))) := Same.upd hd1
    intro d2 hd2
    have nd12 : d1 ≠ d2 := ne_of_none (show (L2.upd H d1 (.dK (rs.map cpEnt))) d1 = _ from upd_same) hd2
    have hd2H : H d2 = none := s1.free hd2
    have s2 : Same H (L2.upd (L2.upd H d1 (.dK (rs.map cpEnt))) d2 (.dK [])) := Same.upd' s1 hd2
    refine ⟨_, rfl, a, rfl, ⟨_, .inl (.inr ⟨o, s2 _ _ hA⟩)⟩, for_it (walk_tup (K := K) (a := a) (xs := ts.map V.ref)) (fun i σ H' => ∃ (us : List Addr) (y3 y4 y5 : Option V), σ = [some (.ref a), some (.ref d1), some (.ref d2), y3, y4, y5] ∧ Same H H' ∧ H' d1 = some (.dK (rs.map cpEnt)) ∧ us.length = i ∧
        H' d2 = some (.dK (((rs.take i).zip us).map abEnt)) ∧ Paired (fun (u : Addr) (r : Cp) => H' u = some (.tup ((aboveL rs r.1).map V.str))) us (rs.take i)) ⟨[], none, none, none, rfl, s2, by rw [upd_ne nd12]; exact upd_same, rfl, upd_same, .nil⟩ (fun i σ H' _ ⟨_, _, _, _, _, s, _⟩ => .inl (.inr ⟨o, s _ _ hA⟩)) ?_ ?_⟩
    · rintro i x σ H0 H0' hi ⟨us, y3, y4, y5, rfl, s0, h1, hul, h2, hU⟩ y
      obtain ⟨rfl, hx⟩ := y
      rw [List.getElem?_map] at hx
      obtain ⟨t, ht, e⟩ : ∃ t, ts[i]? = some t ∧ V.ref t = x := by
        cases q : ts[i]? with
        | none => rw [q] at hx; cases hx
        | some t => rw [q] at hx; exact ⟨t, rfl, Option.some.inj hx⟩
      subst e
      obtain ⟨r, hr, hTt⟩ := paired_at hP ht
      have mr : r ∈ rs := List.mem_of_getElem? hr
      have hlead : lead rs rs.length r.1 = true := List.all_eq_true.mp hld r mr
      refine ⟨t, _, rfl, tupAt (s0 _ _ hTt), rfl, _, _, rfl, _, _, rfl, rfl, ?_⟩
      refine ⟨_, rfl, (by show 1 ≤ sizeLine; decide), fun p hp => ?_⟩
      have np1 : d1 ≠ p := ne_of_none h1 hp
      have np2 : d2 ≠ p := ne_of_none h2 hp
      -- up along the copies that are followed
      refine ⟨fun m σ' H' => ∃ (xs : List Str) (n : Str), σ' = [some (.ref a), some (.ref d1), some (.ref d2), some (.str r.1), some (optV r.2), some (.ref p)] ∧ SameX p H0' H' ∧ H' p = some (.lst ((xs ++ [n]).map V.str)) ∧ xs ++ chain rs m n = aboveL rs r.1 ∧ lead rs m n = true ∧ (look rs n).isSome = true,
        ⟨rs.length, [], r.1, rfl, fun b u nb e => by rw [upd_ne nb]; exact e, upd_same, rfl, hlead, look_mem mr⟩, ?_⟩
      rintro m σ' H' ⟨xs, n, rfl, sx, hL, hch, hln, hlk⟩
      have h1' : H' d1 = some (.dK (rs.map cpEnt)) := sx _ _ np1 h1
      obtain ⟨o2, ho2⟩ := Option.isSome_iff_exists.mp hlk
      have hv : valV (rs.map cpEnt) (Sum.inr n) = some (optV o2) := by rw [valV_look, ho2]; rfl
      have hget : DGet H' d1 (.str n) (some (optV o2)) := by have g := DGet.k (k := Sum.inr n) h1'; rw [hv] at g; exact g
      have hlast : atI ((xs ++ [n]).map V.str) (-1) = some (V.str n) := by rw [List.map_append]; exact atI_last _ _
      have hxl : (xs ++ [n]).length ≤ rs.length + 1 := by
        have e := congrArg List.length hch
        rw [List.length_append] at e
        have c1 := chain_len rs rs.length r.1
        have c2 : 1 ≤ (chain rs m n).length := by cases m <;> simp [chain]
        unfold aboveL at e
        rw [List.length_append]
        simp
        omega
      obtain ⟨k, rfl⟩ : ∃ k, m = k + 1 := by
        cases m with
        | zero => cases hln
        | succ k => exact ⟨k, rfl⟩
      refine ⟨_, rfl, _, rfl, 1, rfl, p, _, -1, _, rfl, rfl, SqL.of hL, hlast, d1, _, rfl, hget, rfl, _, rfl, ?_⟩
      cases o2 with
      | some n2 =>
        refine iteNS_not (by intro z; cases z) ?_
        have ech : chain rs (k + 1) n = n :: chain rs k n2 := by rw [chain, ho2]
        have eld : lead rs (k + 1) n = lead rs k n2 := by rw [lead, ho2]
        refine ⟨fun σ'' H'' => ∃ (xs' : List Str) (n' : Str), σ'' = [some (.ref a), some (.ref d1), some (.ref d2), some (.str r.1), some (optV r.2), some (.ref p)] ∧ SameX p H0' H'' ∧ H'' p = some (.lst ((xs' ++ [n']).map V.str)) ∧ xs' ++ chain rs k n' = aboveL rs r.1 ∧ lead rs k n' = true ∧ (look rs n').isSome = true,
          fun σ'' H'' q => ⟨k, Nat.lt_succ_self _, q⟩, ?_⟩
        refine ⟨_, rfl, .inl ⟨rfl, _, SqL.of hL⟩, _, rfl, _, rfl, 1, rfl, p, _, -1, _, rfl, rfl, SqL.of hL, hlast, d1, _, rfl, hget, p, _, _, rfl, rfl, hL, ?_, ?_⟩
        · rw [List.length_map]
          exact Nat.lt_of_le_of_lt (Nat.le_trans hxl (by omega : rs.length + 1 ≤ 7)) (by decide)
        · refine ⟨xs ++ [n], n2, rfl, sx.trans SameX.upd, ?_, ?_, ?_, hcl' n n2 ho2⟩
          · rw [upd_same, List.map_append (l₁ := xs ++ [n])]
            rfl
          · rw [← hch, ech, List.append_assoc]
            rfl
          · rw [← eld]
            exact hln
      | none =>
        refine iteNS rfl ?_
        have ech : chain rs (k + 1) n = [n] := by rw [chain, ho2]
        rw [ech] at hch
        rw [hch] at hL
        have h2' : H' d2 = some (.dK (((rs.take i).zip us).map abEnt)) := sx _ _ np2 h2
        refine ⟨_, rfl, p, _, rfl, .inl ⟨SqL.of hL, fun t2 ht2 => ?_⟩⟩
        have n2t : d2 ≠ t2 := ne_of_none h2' ht2
        have n1t : d1 ≠ t2 := ne_of_none h1' ht2
        have hdd : (L2.upd H' t2 (.tup ((aboveL rs r.1).map V.str))) d2 = some (.dK (((rs.take i).zip us).map abEnt)) := by rw [upd_ne n2t]; exact h2'
        have hil : i < rs.length := (List.getElem?_eq_some_iff.mp hr).1
        have tk : rs.take (i + 1) = rs.take i ++ [r] := by rw [List.take_succ, hr]; rfl
        have zl : ((rs.take i).zip us).length ≤ 6 := by rw [List.length_zip, List.length_take]; omega
        have sP : ∀ b u, b ≠ p → H0' b = some u → L2.upd (L2.upd H' t2 (.tup ((aboveL rs r.1).map V.str))) d2 (.dK (putK (((rs.take i).zip us).map abEnt) (Sum.inr r.1) (.ref t2))) b = some u ∨ b = d2 := fun b u nb e => by
          by_cases q : b = d2
          · exact .inr q
          · left
            rw [upd_ne q, upd_ne (ne_of_none (sx b u nb e) ht2)]
            exact sx b u nb e
        refine ⟨_, rfl, _, rfl, d2, _, rfl, DPut.k (k := Sum.inr r.1) hdd (by rw [List.length_map]; exact Nat.lt_of_le_of_lt zl (by decide)), ?_⟩
        have hnew : valV (((rs.take i).zip us).map abEnt) (Sum.inr r.1) = none := by
          have nm1 : r.1 ∉ (rs.take i).map (·.1) := fun m => by
            have e2 : rs = rs.take i ++ r :: rs.drop (i + 1) := by
              have e3 := (List.take_append_drop (i + 1) rs).symm
              rw [tk, List.append_assoc] at e3
              exact e3
            rw [e2, List.map_append, List.nodup_append] at nd
            exact nd.2.2 _ m r.1 (by simp) rfl
          have aux : ∀ (l : List Cp) (us : List Addr), r.1 ∉ l.map (·.1) → valV ((l.zip us).map abEnt) (Sum.inr r.1) = none := fun l => by
            induction l with
            | nil => intro us _; rfl
            | cons x l ih =>
              intro us hn
              cases us with
              | nil => rfl
              | cons u us =>
                rw [List.zip_cons_cons, List.map_cons, valV_neg (show ¬ (abEnt (x, u)).1 = Sum.inr r.1 from fun z => hn (by rw [List.map_cons]; exact List.mem_cons.mpr (.inl (Sum.inr.inj z).symm)))]
                exact ih us fun m => hn (List.mem_cons_of_mem _ m)
          exact aux _ _ nm1
        refine ⟨us ++ [t2], _, _, _, rfl, fun b u e => ?_, ?_, ?_, ?_, ?_⟩
        · have nbp : b ≠ p := ne_of_none (s0 b u e) hp
          rcases sP b u nbp (s0 b u e) with q | q
          · exact q
          · rw [q, hd2H] at e
            cases e
        · rw [upd_ne nd12, upd_ne n1t]
          exact h1'
        · rw [List.length_append, hul]
          rfl
        · rw [upd_same, putK_new _ hnew, tk, List.zip_append (by rw [List.length_take, hul]; omega), List.map_append]
          rfl
        · rw [tk]
          have old : Paired (fun (u : Addr) (r' : Cp) => L2.upd (L2.upd H' t2 (.tup ((aboveL rs r.1).map V.str))) d2 (.dK (putK (((rs.take i).zip us).map abEnt) (Sum.inr r.1) (.ref t2))) u = some (.tup ((aboveL rs r'.1).map V.str))) us (rs.take i) := paired_imp (fun u r' e => by
            have nu : u ≠ p := ne_of_none e hp
            rcases sP u _ nu e with q | q
            · exact q
            · rw [q, h2] at e
              cases e) hU
          exact Paired.snoc old (by rw [upd_ne (fun z => n2t z.symm), upd_same])
    · rintro σ H' ⟨us, y3, y4, y5, rfl, s0, h1, hul, h2, hU⟩
      have el : (ts.map V.ref).length = rs.length := by rw [List.length_map, hl]
      rw [el, List.take_of_length_le (Nat.le_refl _)] at h2 hU
      rw [el] at hul
      exact ⟨_, rfl, h H' d2 s0 hd2H ⟨us, hul, h2, hU⟩⟩
end
end Sps
set_option Elab.async false
set_option linter.all false
set_option maxRecDepth 100000
set_option maxHeartbeats 4000000
/-! enumerate of what is empty: a tuple, a zip of two lists; loops that make no turn. -/
namespace Sps
open PySem PySem.Spec PyProof.Rows L2
open PySem.AutoSeq1 (wpAny_loadPart')
/-- an iterator that has nothing -/
def ItN (S : Hp → Prop) : It := ⟨fun _ _ => False, fun _ _ _ _ => False, fun _ H => S H⟩
theorem meets_enumT (l : Addr) (items : Array Value) (n : Nat) (dct : Option Addr) (sl : Array (Option Value)) :
    Meets (Builtin.«enumerate.__new__» ⟨[.type "enumerate", .ref l], []⟩) (fun _ R s => s.heap.get? l = some { cls := .type "tuple", dict := dct, data := .seq items n, slots := sl } ∧
      R (.ok (.ret (.ref (s.heap.push { cls := .type "tuple_iterator", data := .fields #[.ref l, .int 0 0] }).objs.size)))
        { s with heap := (s.heap.push { cls := .type "tuple_iterator", data := .fields #[.ref l, .int 0 0] }).push { cls := .type "enumerate", data := .fields #[.none, .bool false, .ref s.heap.objs.size, rawInt 0, .none, .none] } }) :=
  .of_wp fun prog w A R s h => by
    obtain ⟨hp, g, d, tk, os⟩ := s; obtain ⟨hl, h⟩ := h
    have hsub := sub_enumerate
    have hL : Heap.IsTuple (Shared.heap ⟨hp, g, d, tk, os⟩) l items := ⟨_, hl, rfl, n, rfl⟩
    wp_walk using wpAny_loadPart' hl
    refine wpAny_stack_any fun st => wpAny_pure ?_
    split
    · rename_i c _ _ _ _ _
      cases (c == Value.type "enumerate")
      · wp_walk using wpAny_loadPart' hl, wpAny_pyIter_tuple hL
        exact ⟨_, rfl, h⟩
      · wp_walk using wpAny_loadPart' hl, wpAny_pyIter_tuple hL
        exact ⟨_, rfl, h⟩
    · wp_walk using wpAny_loadPart' hl, wpAny_pyIter_tuple hL
      exact ⟨_, rfl, h⟩
theorem meets_enumZ (z TI TO : Addr) :
    Meets (Builtin.«enumerate.__new__» ⟨[.type "enumerate", .ref z], []⟩) (fun _ R s => IsZip s.heap z TI TO .none ∧
      R (.ok (.ret (.ref s.heap.objs.size)))
        { s with heap := s.heap.push { cls := .type "enumerate", data := .fields #[.none, .bool false, .ref z, rawInt 0, .none, .none] } }) :=
  .of_wp fun prog w A R s h => by
    obtain ⟨hp, g, d, tk, os⟩ := s; obtain ⟨hl, h⟩ := h
    have hsub := sub_enumerate
    wp_walk using wpAny_loadPart' hl
    refine wpAny_stack_any fun st => wpAny_pure ?_
    split
    · rename_i c _ _ _ _ _
      cases (c == Value.type "enumerate")
      · wp_walk using wpAny_loadPart' hl, wpAny_pyIter_zip hl
        exact ⟨_, rfl, h⟩
      · wp_walk using wpAny_loadPart' hl, wpAny_pyIter_zip hl
        exact ⟨_, rfl, h⟩
    · wp_walk using wpAny_loadPart' hl, wpAny_pyIter_zip hl
      exact ⟨_, rfl, h⟩
section
variable {prog : Program} {w : World} {A : Around} {E : Value → Shared → Prop} {s : Shared}
theorem call_enumT {l : Addr} {items : Array Value} {Q : Value → Shared → Prop} (hL : s.heap.IsTuple l items)
    (h : ∀ h', IsEnum h' (s.heap.objs.size + 1) s.heap.objs.size 0 .none → h'.IsTupleIter s.heap.objs.size l 0 → h'.objs.size = s.heap.objs.size + 2 →
      (∀ b o, s.heap.get? b = some o → h'.get? b = some o) → Q (.ref (s.heap.objs.size + 1)) { s with heap := h' }) :
    wpAny (model prog w) A (call (.type "enumerate") [.ref l]) Q E s := by
  obtain ⟨⟨c, dct, dat, sl⟩, hl, hc, n, hd⟩ := hL
  cases hc
  cases hd
  refine callType_new F.called_enumerate (by decide) (F.typeCall_enumerate_1 _) (F.newCall_enumerate_1 _) (fun obj => F.args_object_init_2 obj _) F.entry_enumerate_new
    (meets_enumT l items n dct sl) ⟨hl, ?_⟩
  have hz : (s.heap.push { cls := .type "tuple_iterator", data := .fields #[.ref l, .int 0 0] }).objs.size = s.heap.objs.size + 1 := Heap.size_push ..
  show _ ∧ _
  rw [hz]
  have he : IsEnum ((s.heap.push { cls := .type "tuple_iterator", data := .fields #[.ref l, .int 0 0] }).push
      { cls := .type "enumerate", data := .fields #[.none, .bool false, .ref s.heap.objs.size, rawInt 0, .none, .none] }) (s.heap.objs.size + 1) s.heap.objs.size 0 .none := by
    have := Heap.get?_push_size (s.heap.push { cls := .type "tuple_iterator", data := .fields #[.ref l, .int 0 0] })
      (o := { cls := .type "enumerate", data := .fields #[.none, .bool false, .ref s.heap.objs.size, rawInt 0, .none, .none] }) rfl
    rw [hz] at this; exact this
  refine ⟨⟨_, he, rfl⟩, h _ he ⟨_, Heap.get?_push_of_some _ (Heap.get?_push_size _ rfl), rfl, rfl⟩ (by rw [Heap.size_push, hz]) fun b o x => Heap.get?_push_of_some _ (Heap.get?_push_of_some _ x)⟩
theorem call_enumZ {z TI TO : Addr} {Q : Value → Shared → Prop} (hz : IsZip s.heap z TI TO .none)
    (h : ∀ h', IsEnum h' s.heap.objs.size z 0 .none → h'.objs.size = s.heap.objs.size + 1 →
      (∀ b o, s.heap.get? b = some o → h'.get? b = some o) → Q (.ref s.heap.objs.size) { s with heap := h' }) :
    wpAny (model prog w) A (call (.type "enumerate") [.ref z]) Q E s := by
  refine callType_new F.called_enumerate (by decide) (F.typeCall_enumerate_1 _) (F.newCall_enumerate_1 _) (fun obj => F.args_object_init_2 obj _) F.entry_enumerate_new
    (meets_enumZ z TI TO) ⟨hz, ?_⟩
  have he : IsEnum (s.heap.push { cls := .type "enumerate", data := .fields #[.none, .bool false, .ref z, rawInt 0, .none, .none] }) s.heap.objs.size z 0 .none := Heap.get?_push_size _ rfl
  exact ⟨⟨_, he, rfl⟩, h _ he (Heap.size_push ..) fun b o x => Heap.get?_push_of_some _ x⟩
theorem nextOf_zip_end {z TI TO i1 i2 : Addr} {fp1 fp2 : List Addr} {n1 n2 i : Nat} {P1 P2 : Nat → Value → Prop} {St1 St2 : Nat → Heap → Prop} {a1 a2 : Value} {Q : Value → Shared → Prop} (S : PySem.ZipSep2 z TI TO i1 i2 fp1 fp2) (D1 : Draws prog w A.in1 i1 fp1 n1 P1 St1) (D2 : Draws prog w A.in1 i2 fp2 n2 P2 St2)
    (hz : IsZip s.heap z TI TO .none) (hTI : PySem.IsTupOf2 s.heap TI (.ref i1) (.ref i2)) (hTO : PySem.IsTupOf2 s.heap TO a1 a2) (st1 : St1 i s.heap) (st2 : St2 i s.heap) (hle1 : i ≤ n1) (hle2 : i ≤ n2) (hend : i = n1 ∨ i = n2)
    (hE : ∀ h' tk e, (∀ c o, c ≠ z → c ≠ TO → c ≠ i1 → c ≠ i2 → s.heap.get? c = some o → h'.get? c = some o) → (∃ o, h'.get? e = some o ∧ o.cls = .type "StopIteration") → E (.ref e) { s with heap := h', toks := tk }) :
    wpAny (model prog w) A (Builtin.SmallTypes.nextOf (.ref z)) Q E s := by
  have hT : s.TypeIs (.ref z) "zip" := ⟨_, hz, rfl⟩
  unfold Builtin.SmallTypes.nextOf
  exact wpAny_bind (wpAny_callSpecial?_slot (name := Str.ofString "__next__") hT F.slot_zip_next
    (wpAny_call_entry F.slot_zip_next hT F.entry_zip_next (PySem.zipD2_next_end S D1 D2 hz hTI hTO st1 st2 hle1 hle2 hend hE) (F.args_zip_next_1 _)))
theorem enumZ_end {e z TI TO i1 i2 : Addr} {fp1 fp2 : List Addr} {n1 n2 i : Nat} {c : Int} {P1 P2 : Nat → Value → Prop} {St1 St2 : Nat → Heap → Prop} {a1 a2 old : Value} {Q : Option Value → Shared → Prop} (S : PySem.ZipSep2 z TI TO i1 i2 fp1 fp2) (D1 : Draws prog w A.in1.in1 i1 fp1 n1 P1 St1) (D2 : Draws prog w A.in1.in1 i2 fp2 n2 P2 St2)
    (he : IsEnum s.heap e z c old) (hz : IsZip s.heap z TI TO .none) (hTI : PySem.IsTupOf2 s.heap TI (.ref i1) (.ref i2)) (hTO : PySem.IsTupOf2 s.heap TO a1 a2) (st1 : St1 i s.heap) (st2 : St2 i s.heap) (hle1 : i ≤ n1) (hle2 : i ≤ n2) (hend : i = n1 ∨ i = n2)
    (hQ : ∀ h' tk, (∀ c o, c ≠ z → c ≠ TO → c ≠ i1 → c ≠ i2 → s.heap.get? c = some o → h'.get? c = some o) → Q none { s with heap := h', toks := tk }) : wpAny (model prog w) A (pyNext (.ref e)) Q E s := by
  have hT : s.TypeIs (.ref e) "enumerate" := ⟨_, he, rfl⟩
  unfold pyNext
  refine wpAny_bind (wpAny_attempt (wpAny_callSpecial?_slot (name := Str.ofString "__next__") hT F.slot_enumerate_next
    (wpAny_call_entry F.slot_enumerate_next hT F.entry_enumerate_next ?_ (F.args_enumerate_next_1 _))))
  show wpAny _ _ (field (.ref e) 2 >>= _) _ _ _
  refine wpAny_bind (wpAny_field he rfl (x := .ref z) rfl ?_)
  refine wpAny_bind (nextOf_zip_end S D1 D2 hz hTI hTO st1 st2 hle1 hle2 hend fun h' tk x hk hx' => ?_)
  obtain ⟨o, ho, hc⟩ := hx'
  refine wpAny_bind (wpAny_isInstance (T := "StopIteration") (b := true) ⟨o, ho, hc⟩ isSubtype_stop ?_)
  exact wpAny_pure (hQ _ _ hk)
end
theorem turn_enumT0 {P : Program} {w : World} {K : PySem.W.Frag} {tg : Expr} (a e it : Addr) :
    Turn P w K tg (ItN fun H => SqT K H a []) [e, it] e (fun _ h => (∃ old, IsEnum h e it 0 old) ∧ h.IsTupleIter it a 0 ∧ e ≠ it ∧ a ≠ it) where
  mem := by simp
  obj := fun i h st b hb => by
    obtain ⟨⟨old, he⟩, ⟨o, ho, hc, hd⟩, _⟩ := st
    have e' : b = e ∨ b = it := by simpa using hb
    rcases e' with z | z
    · rw [z]; exact ⟨_, he, fun v q => nomatch q⟩
    · rw [z]; exact ⟨o, ho, fun v q => by rw [hd] at q; cases q⟩
  keep := fun i h h' st k => let ⟨⟨old, he⟩, hi, hne⟩ := st; ⟨⟨old, k e (by simp) _ he⟩, hi.at fun o q => k it (by simp) o q, hne⟩
  item := by
    intro X hP hw hK hc i pins s σ H E I hf st hg
    exact hg.elim
  done := by
    intro X hP hw hK hc i pins s σ H E I hf st hq
    subst hP hw hK
    obtain ⟨⟨old, he⟩, hit, hne, hna⟩ := st
    obtain ⟨its, rv, p, hz⟩ := I.tuple (show SqT X.K H a [] from hq)
    cases rv
    obtain ⟨f0, f1, f2, f3, f4, f5⟩ := hf it (by simp)
    exact wpAny_pyNext_enum_endD (Draws.tuple (A := X.A.in1) (I.ok.hd hc) it a hna #[]) he ⟨hit, p⟩ fun h' eb => ⟨rfl, I.turned (t' := s.toks) (fun b o hb q => eb b o hb q) f0 f1 f3 f4 f5⟩
  self := fun A i s Q E st h => let ⟨⟨_, he⟩, _⟩ := st; wpAny_pyIter_enum he h
def iEnumT0 (K : PySem.W.Frag) (ta : TA) : TI := fun σ H R => ta σ H fun vs H1 => ∃ a, vs = [.ref a] ∧ SqT K H1 a [] ∧ R (ItN fun H => SqT K H a []) H1
theorem pi_enumT0 {X : Cx} {e : Expr} {ta : TA} {p pos : Pos} {tg : Expr} (hg : Gl X "enumerate") (hm : X.mg "enumerate" = none) (ha : PA X [e] ta) (hs : starEach [e] X.env = [(false, eval e X.env)] := by rfl) :
    PI X tg (.Call (.Name "enumerate" p) [e] [] pos) (iEnumT0 X.K ta) := by
  refine ⟨fun pins s σ H R I h => ?_⟩
  refine Call_ (ld_blt I hg hm boot_enumerate (PyProof.Rows.callWith_type1 (thn (ha.run pos pins s σ H _ I h) fun us s1 ⟨vs, H1, I1, r1, q1⟩ => ?_) hs rfl))
  obtain ⟨a, ex, hq, q⟩ := q1
  subst ex
  cases r1 with
  | cons r rr =>
    cases rr
    cases r
    obtain ⟨its, rv, p', hz⟩ := I1.tuple hq
    obtain ⟨oa, hoa, _⟩ := id p'
    have hla := Heap.lt_size hoa
    refine call_enumT (show s1.heap.IsTuple a its.toArray from p') fun h' he hit hsz hk => wpAny_pyIter_enum he ?_
    have I2 : Inv X pins σ H1 { s1 with heap := h' } := I1.kept (t' := s1.toks) hk
    refine ⟨s1.heap.objs.size + 1, [s1.heap.objs.size + 1, s1.heap.objs.size], _, _, H1, rfl, I2, turn_enumT0 a (s1.heap.objs.size + 1) s1.heap.objs.size, ⟨⟨.none, he⟩, hit, Nat.succ_ne_self _, Nat.ne_of_lt hla⟩, fun b hb => ?_, q⟩
    have e' : b = s1.heap.objs.size + 1 ∨ b = s1.heap.objs.size := by simpa using hb
    have hle : s1.heap.objs.size ≤ b := by
      rcases e' with z | z
      · rw [z]; exact Nat.le_add_right _ _
      · rw [z]; exact Nat.le_refl _
    exact I1.fpOk hle (I1.hok.fresh hle)
theorem turn_enumZ0 {P : Program} {w : World} {K : PySem.W.Frag} {tg : Expr} {a b e z TI TO i1 i2 : Addr} (D : ZipApart z TI TO i1 i2 a b) (De : e ≠ z ∧ e ≠ TI ∧ e ≠ TO ∧ e ≠ i1 ∧ e ≠ i2) :
    Turn P w K tg (ItN fun H => SqL K H a [] ∧ SqL K H b []) [e, z, TI, TO, i1, i2] e (fun _ h => (∃ old, IsEnum h e z 0 old) ∧ IsZip h z TI TO .none ∧ IsPair h TI (.ref i1) (.ref i2) ∧ (∃ x y, IsPair h TO x y) ∧ h.IsListIter i1 a 0 ∧ h.IsListIter i2 b 0) where
  mem := by simp
  obj := fun i h st c hc => by
    obtain ⟨⟨old, he⟩, hz, hTI, ⟨x, y, hTO⟩, ⟨o1, e1, _, d1⟩, ⟨o2, e2, _, d2⟩⟩ := st
    have e' : c = e ∨ c = z ∨ c = TI ∨ c = TO ∨ c = i1 ∨ c = i2 := by simpa using hc
    rcases e' with q | q | q | q | q | q
    · rw [q]; exact ⟨_, he, fun v q => nomatch q⟩
    · rw [q]; exact ⟨_, hz, fun v q => nomatch q⟩
    · rw [q]; exact ⟨_, hTI, fun v q => nomatch q⟩
    · rw [q]; exact ⟨_, hTO, fun v q => nomatch q⟩
    · rw [q]; exact ⟨o1, e1, fun v q => by rw [d1] at q; cases q⟩
    · rw [q]; exact ⟨o2, e2, fun v q => by rw [d2] at q; cases q⟩
  keep := fun i h h' st k => by
    obtain ⟨⟨old, he⟩, hz, hTI, ⟨x, y, hTO⟩, h1, h2⟩ := st
    exact ⟨⟨old, k e (by simp) _ he⟩, k z (by simp) _ hz, k TI (by simp) _ hTI, ⟨x, y, k TO (by simp) _ hTO⟩, h1.at fun o q => k i1 (by simp) o q, h2.at fun o q => k i2 (by simp) o q⟩
  item := by
    intro X hP hw hK hc i pins s σ H E I hf st hg
    exact hg.elim
  done := by
    intro X hP hw hK hc i pins s σ H E I hf st hg
    subst hP hw hK
    obtain ⟨⟨old, he⟩, hz, hTI, ⟨x0, y0, hTO⟩, h1, h2⟩ := st
    obtain ⟨hqx, hqy⟩ := (show SqL X.K H a [] ∧ SqL X.K H b [] from hg)
    obtain ⟨its, rv, p, _⟩ := I.list hqx
    obtain ⟨its2, rv2, p2, _⟩ := I.list hqy
    cases rv
    cases rv2
    have S : PySem.ZipSep2 z TI TO i1 i2 [i1, a] [i2, b] := by
      exact ⟨D.TIz, D.TOz, D.TITO, D.TIi1, by simp, by simp [Ne.symm D.i1z, Ne.symm D.l1z], by simp [D.TOi1, Ne.symm D.l1TO], D.TIi2, by simp, by simp [Ne.symm D.i2z, Ne.symm D.l2z], by simp [D.TOi2, Ne.symm D.l2TO], by simp [D.i12, Ne.symm D.l2i1], by simp [Ne.symm D.i12, Ne.symm D.l1i2]⟩
    refine enumZ_end (i := 0) S (Draws.list (A := X.A.in1.in1) (I.ok.hd hc) i1 a D.l1i1 #[]) (Draws.list (A := X.A.in1.in1) (I.ok.hd hc) i2 b D.l2i2 #[]) he hz hTI hTO ⟨h1, p.isList⟩ ⟨h2, p2.isList⟩ (Nat.le_refl _) (Nat.le_refl _) (.inl rfl) fun h' tk hk => ⟨rfl, I.turnedL (t' := tk) (ch := [e, z, TI, TO, i1, i2]) (fun c o hb q =>
      hk c o (fun q' => hb (by simp [q'])) (fun q' => hb (by simp [q'])) (fun q' => hb (by simp [q'])) (fun q' => hb (by simp [q'])) q) hf⟩
  self := fun A i s Q E st h => let ⟨⟨_, he⟩, _⟩ := st; wpAny_pyIter_enum he h
theorem ap5 (n : Nat) : n + 5 ≠ n + 4 ∧ n + 5 ≠ n + 2 ∧ n + 5 ≠ n + 3 ∧ n + 5 ≠ n ∧ n + 5 ≠ n + 1 := by omega
def iEnumZ0 (K : PySem.W.Frag) (ta : TA) : TI := fun σ H R => ta σ H fun vs H1 => ∃ a b, vs = [.ref a, .ref b] ∧ SqL K H1 a [] ∧ SqL K H1 b [] ∧ R (ItN fun H => SqL K H a [] ∧ SqL K H b []) H1
theorem pi_enumZ0 {X : Cx} {e e2 : Expr} {ta : TA} {p p2 pos cpos : Pos} {tg : Expr} (hg : Gl X "enumerate") (hm : X.mg "enumerate" = none) (hg2 : Gl X "zip") (hm2 : X.mg "zip" = none) (ha : PA X [e, e2] ta)
    (hs : starEach [e, e2] X.env = (false, eval e X.env) :: starEach [e2] X.env := by rfl) (hpl : (backTo cpos (starEach [e2] X.env)).any (·.1) = false := by rfl) (hs2 : starEach [.Call (.Name "zip" p2) [e, e2] [] cpos] X.env = (false, eval (.Call (.Name "zip" p2) [e, e2] [] cpos) X.env) :: starEach [] X.env := by rfl) :
    PI X tg (.Call (.Name "enumerate" p) [.Call (.Name "zip" p2) [e, e2] [] cpos] [] pos) (iEnumZ0 X.K ta) := by
  refine ⟨fun pins s σ H R I h => ?_⟩
  refine Call_ (ld_blt I hg hm boot_enumerate (PyProof.Rows.callWith_type1 (PyProof.Rows.args_cons ?_ hs2) hs2 rfl))
  refine Call_ (ld_blt I hg2 hm2 PyProof.Rows.boot_zip (PyProof.Rows.callWith_type1 (thn (ha.run cpos pins s σ H _ I h) fun us s1 ⟨vs, H1, I1, r1, q1⟩ => ?_) hs hpl))
  obtain ⟨a, b, ex, hqx, hqy, q⟩ := q1
  subst ex
  cases r1 with
  | cons r rr =>
    cases rr with
    | cons r' rr =>
      cases rr
      cases r
      cases r'
      obtain ⟨its, rv, p1, _⟩ := I1.list hqx
      obtain ⟨its2, rv2, p2, _⟩ := I1.list hqy
      refine call_zip_2 p1.isList p2.isList fun h' hz hTI hTO h1 h2 hsz hk => PyProof.Rows.args_nil ?_
      have I2 : Inv X pins σ H1 { s1 with heap := h' } := I1.kept (t' := s1.toks) hk
      refine call_enumZ (s := { s1 with heap := h' }) hz fun h'' he hsz2 hk2 => wpAny_pyIter_enum he ?_
      have I3 : Inv X pins σ H1 { s1 with heap := h'' } := I2.kept (t' := s1.toks) hk2
      have esz : h'.objs.size = s1.heap.objs.size + 5 := hsz
      have he' : IsEnum h'' (s1.heap.objs.size + 5) (s1.heap.objs.size + 4) 0 .none := by rw [← esz]; exact he
      show PIE X pins σ tg R (.ref h'.objs.size) { s1 with heap := h'' }
      rw [esz]
      refine ⟨s1.heap.objs.size + 5, [s1.heap.objs.size + 5, s1.heap.objs.size + 4, s1.heap.objs.size + 2, s1.heap.objs.size + 3, s1.heap.objs.size, s1.heap.objs.size + 1], _, _, H1, rfl, I3, turn_enumZ0 (PySem.W.ktu_apart s1.heap.objs.size a b p1.lt p2.lt) (ap5 _), ⟨⟨.none, he'⟩, hk2 _ _ hz, hk2 _ _ hTI, ⟨_, _, hk2 _ _ hTO⟩, h1.at fun o q => hk2 _ o q, h2.at fun o q => hk2 _ o q⟩, fun c hcm => ?_, q⟩
      have e' : c = s1.heap.objs.size + 5 ∨ c = s1.heap.objs.size + 4 ∨ c = s1.heap.objs.size + 2 ∨ c = s1.heap.objs.size + 3 ∨ c = s1.heap.objs.size ∨ c = s1.heap.objs.size + 1 := by simpa using hcm
      have hle : s1.heap.objs.size ≤ c := by
        rcases e' with q | q | q | q | q | q <;> rw [q] <;> first | exact Nat.le_add_right _ _ | exact Nat.le_refl _
      exact I1.fpOk hle (I1.hok.fresh hle)
/-! ### loops that make no turn -/
section
variable {X : Cx}
theorem for_stop {J : It} {g : TG} {tb : TS} {D : Ends} {σ : L2.St} {H : Hp} (hs : J.stop 0 H) (hd : D.nx σ H) :
    ∃ W : Nat → Nat → L2.St → Hp → Prop, (∃ m, W 0 m σ H) ∧ ∀ i m σ H, W i m σ H →
      (J.stop i H ∧ D.nx σ H) ∨ (J.go i H ∧ ∃ N : L2.St → Hp → Prop, (∀ σ' H', N σ' H' → ∃ m', m' < m ∧ W (i + 1) m' σ' H') ∧ ∀ v H', J.yld i H v H' → g v σ H' fun σ2 H2 => tb { D with nx := N, ct := N, bk := D.nx } σ2 H2) :=
  ⟨fun i _ σ' H' => i = 0 ∧ σ' = σ ∧ H' = H, ⟨0, rfl, rfl, rfl⟩, fun _ _ _ _ ⟨ei, es, eh⟩ => by subst ei es eh; exact .inl ⟨hs, hd⟩⟩
theorem lc_stop {J : It} {g : TG} {tt : TT} {te : TE} {vs : List Nat} {σ : L2.St} {H0 : Hp} {D : Addr} {Qd : Hp → Prop} (hs : J.stop 0 H0) (hd : Qd H0) :
    ∃ W : Nat → Nat → Hp → Prop, (∃ m, W 0 m H0) ∧ ∀ i m H, W i m H →
      (J.stop i H ∧ Qd H) ∨ (J.go i H ∧ ∃ Nx : Hp → Prop, (∀ H', Nx H' → ∃ m', m' < m ∧ W (i + 1) m' H') ∧ ∀ x H', J.yld i H x H' → g x (wipe σ vs) H' fun σ2 H2 => wipe σ2 vs = wipe σ vs ∧ tt σ2 H2 fun b H3 =>
        if b = true then te σ2 H3 fun y H4 => ∃ acc, H4 D = some (.lst acc) ∧ acc.length < sizeLine ∧ Nx (L2.upd H4 D (.lst (acc ++ [y]))) else Nx H3) :=
  ⟨fun i _ H' => i = 0 ∧ H' = H0, ⟨0, rfl, rfl⟩, fun _ _ _ ⟨ei, eh⟩ => by subst ei eh; exact .inl ⟨hs, hd⟩⟩
end
end Sps
set_option Elab.async false
set_option linter.all false
set_option maxRecDepth 100000
set_option maxHeartbeats 4000000
/-! What is made of no answers: steps, contents. -/
namespace Sps
open PySem PySem.Spec PyProof.Rows L2
/-! ### comprehensions that make no turn -/
section
variable {X : Cx}
def gNo : TG := fun _ _ _ _ => False
def ttNo : TT := fun _ _ _ => False
def teNo : TE := fun _ _ _ => False
theorem pg_no {tg : Expr} : PG X tg gNo := ⟨fun _ _ _ _ _ _ _ _ _ h => h.elim⟩
theorem pts_no {es : List Expr} : PTs X es ttNo := ⟨fun _ _ _ _ _ _ h => h.elim⟩
theorem pe_no' {e : Expr} : PE X e teNo := ⟨fun _ _ _ _ _ _ h => h.elim⟩
theorem pe_lc0 {elt tg iter : Expr} {ifs : List Expr} {scope : Scope} {own : List (Str × Nat)} {pos : Pos} {wi : TI} (hc : X.calm = true) (hN : X.N.Nodup) (hi : PI X tg iter wi) (ok : BlkOk X.N X.env.scope scope own) (hs : ∀ x, foldedSetIterable iter X.env x = pure x := by intro _; rfl) :
    PE X (.ListComp elt [⟨tg, iter, ifs, 0⟩] scope pos) (tLc wi gNo ttNo teNo (own.map (·.2))) := pe_lc hc hN hi ok (fun _ _ _ _ _ => pg_no) (fun _ _ _ _ _ => pts_no) (fun _ _ _ _ _ => pe_no') hs
theorem ps_setLc0 {i : Nat} {y : Str} {py : Pos} {elt tg iter : Expr} {ifs : List Expr} {scope : Scope} {own : List (Str × Nat)} {pos spos : Pos} {wi : TI} (hc : X.calm = true) (hN : X.N.Nodup) (hy : X.N[i]? = some y) (hyl : X.env.scope.names.lookup y = some .local)
    (hsw : swapsWith (.ListComp elt [⟨tg, iter, ifs, 0⟩] scope pos) (some (.Name y py)) spos.line X.env = pure true) (hi : PI X tg iter wi) (ok : BlkOk X.N X.env.scope scope own) (hs : ∀ x, foldedSetIterable iter X.env x = pure x := by intro _; rfl) :
    PS X (.Assign [.Name y py] (.ListComp elt [⟨tg, iter, ifs, 0⟩] scope pos) spos) (tAsg (tLc wi gNo ttNo teNo (own.map (·.2))) (gName i)) :=
  ps_setLc hc hN hy hyl hsw hi ok (fun _ _ _ _ _ => pg_no) (fun _ _ _ _ _ => pts_no) (fun _ _ _ _ _ => pe_no') hs
theorem pe_dc0 {kx vx tg iter : Expr} {ifs : List Expr} {scope : Scope} {own : List (Str × Nat)} {pos : Pos} {wi : TI} (hc : X.calm = true) (hN : X.N.Nodup) (hi : PI X tg iter wi) (ok : BlkOk X.N X.env.scope scope own) (hs : ∀ x, foldedSetIterable iter X.env x = pure x := by intro _; rfl) :
    PE X (.DictComp kx vx [⟨tg, iter, ifs, 0⟩] scope pos) (tDc wi gNo ttNo teNo teNo (own.map (·.2))) := pe_dc hc hN hi ok (fun _ _ _ _ _ => pg_no) (fun _ _ _ _ _ => pts_no) (fun _ _ _ _ _ => pe_no') (fun _ _ _ _ _ => pe_no') hs
theorem dc_stop {J : It} {g : TG} {tt : TT} {tk tv : TE} {vs : List Nat} {σ : L2.St} {H0 : Hp} {D : Addr} {Qd : Hp → Prop} (hs : J.stop 0 H0) (hd : Qd H0) :
    ∃ W : Nat → Nat → Hp → Prop, (∃ m, W 0 m H0) ∧ ∀ i m H, W i m H →
      (J.stop i H ∧ Qd H) ∨ (J.go i H ∧ ∃ Nx : Hp → Prop, (∀ H', Nx H' → ∃ m', m' < m ∧ W (i + 1) m' H') ∧ ∀ x H', J.yld i H x H' → g x (wipe σ vs) H' fun σ2 H2 => wipe σ2 vs = wipe σ vs ∧ tt σ2 H2 fun b H3 =>
        if b = true then tk σ2 H3 fun y H4 => tv σ2 H4 fun z H5 => ∃ kvs k, y = kV k ∧ H5 D = some (.dK kvs) ∧ kvs.length < sizeLine ∧ Nx (L2.upd H5 D (.dK (putK kvs k z))) else Nx H3) :=
  ⟨fun i _ H' => i = 0 ∧ H' = H0, ⟨0, rfl, rfl⟩, fun _ _ _ ⟨ei, eh⟩ => by subst ei eh; exact .inl ⟨hs, hd⟩⟩
end
def lN (H : Hp) (a : Addr) : Prop := H a = some (.lst [])
/-- Q holds of a new empty list -/
def newL (H : Hp) (Q : VK) : Prop := ∀ (H' : Hp) (p : Addr), Same H H' → H p = none → H' p = some (.lst []) → Q (.ref p) H'
def newD (H : Hp) (Q : VK) : Prop := ∀ (H' : Hp) (p : Addr), Same H H' → H p = none → H' p = some (.dK []) → Q (.ref p) H'
theorem lstAt {K : PySem.W.Frag} {H : Hp} {a : Addr} {xs : List V} (h : H a = some (.lst xs)) : SqL K H a xs := SqL.of h
section
variable {P : Program} {w : World} {K : PySem.W.Frag} {mg : Str → Option Value} {base : Heap}
def spMask : Sp := fun vs H Q _ => ∃ a, vs = [.ref a] ∧ H a = some (.lst []) ∧ ∀ H', Same H H' → Q (.int 0) H'
theorem scMask : FnScope ["places", "place"] ["places"] (defScope s_mask_of) := ⟨rfl, rfl, rfl, by decide +kernel, rfl, by decide +kernel, by decide +kernel⟩
theorem ok_mask {f : Addr} {fd : FuncData} (F : Fun K "mask_of" "mask_of" s_mask_of f fd) (T : Names mg) : FnOk P w K mg base CX0 1 f fd ["places"] spMask := by
  refine F.ok scMask (fun vs H Q E h => ?_) (fun cdv A outer s H vs Q E hr h => ?_)
  · obtain ⟨_, rfl, _⟩ := h
    rfl
  · obtain ⟨a, rfl, ha, h⟩ := h
    refine ⟨_, pss_one (ps_ret (pe_callB (cr_sum rfl) (by rfl) T.sum (by decide +kernel) (pa_cons (pe_lc0 (own := [("place", 1)]) rfl scMask.nd (pi_list (pv 0)) (blkOk_by (own := [("place", 1)]) (N := ["places", "place"]) (sc := defScope s_mask_of) (by decide +kernel))) pa_nil))), ?_⟩
    refine ⟨_, rfl, a, rfl, ⟨_, lstAt ha⟩, fun D hD => lc_stop ⟨_, lstAt (Same.upd hD _ _ ha), Nat.le_refl _⟩ ⟨D, [], rfl, lstAt upd_same, h _ (Same.upd hD)⟩⟩
abbrev nSh : List Str := ["words", "found", "place", "word", "told"]
def spSharing : Sp := fun vs H Q _ => ∃ a, vs = [.ref a] ∧ H a = some (.lst []) ∧ newL H Q
theorem scSh : FnScope nSh ["words"] (defScope s__sharing) := ⟨rfl, rfl, rfl, by decide +kernel, rfl, by decide +kernel, by decide +kernel⟩
theorem ok_sharing {f : Addr} {fd : FuncData} (F : Fun K "_sharing" "_sharing" s__sharing f fd) (T : Names mg) : FnOk P w K mg base CX0 1 f fd ["words"] spSharing := by
  refine F.ok scSh (fun vs H Q E h => ?_) (fun cdv A outer s H vs Q E hr h => ?_)
  · obtain ⟨_, rfl, _⟩ := h
    rfl
  · obtain ⟨a, rfl, ha, h⟩ := h
    refine ⟨_, pss_cons (ps_set (i := 1) scSh.nd rfl (Or.inr rfl) pe_dnewK)
      (pss_cons (ps_for PassesOwn.never rfl (pi_enum (by rfl) T.enumerate (pa_cons (pv 0) pa_nil)) pg_no pss_never)
      (pss_one (ps_ret (pe_lc0 (own := [("told", 4)]) rfl scSh.nd (pi_list (pv 0)) (blkOk_by (own := [("told", 4)]) (N := nSh) (sc := defScope s__sharing) (by decide +kernel)))))), ?_⟩
    refine fun d hd => ?_
    have s1 := Same.upd (o := .dK []) hd
    refine ⟨_, rfl, a, _, rfl, lstAt (s1 _ _ ha), for_stop ⟨_, lstAt (s1 _ _ ha), Nat.le_refl _⟩ ?_⟩
    refine ⟨_, rfl, a, rfl, ⟨_, lstAt (s1 _ _ ha)⟩, fun D hD => lc_stop ⟨_, lstAt (Same.upd hD _ _ (s1 _ _ ha)), Nat.le_refl _⟩ (h _ D (Same.upd' s1 hD) (s1.free hD) upd_same)⟩
abbrev nSe : List Str := ["rows", "found", "place", "row", "copy", "_", "last"]
def spSeen (K : PySem.W.Frag) : Sp := fun vs H Q _ => ∃ a, vs = [.ref a] ∧ H a = some (.tup []) ∧ newD H Q
theorem scSe : FnScope nSe ["rows"] (defScope s__seen_at) := ⟨rfl, rfl, rfl, by decide +kernel, rfl, by decide +kernel, by decide +kernel⟩
theorem ok_seen {f : Addr} {fd : FuncData} (F : Fun K "_seen_at" "_seen_at" s__seen_at f fd) (T : Names mg) : FnOk P w K mg base CX0 1 f fd ["rows"] (spSeen K) := by
  refine F.ok scSe (fun vs H Q E h => ?_) (fun cdv A outer s H vs Q E hr h => ?_)
  · obtain ⟨_, rfl, _⟩ := h
    rfl
  · obtain ⟨a, rfl, ha, h⟩ := h
    refine ⟨_, pss_cons (ps_set (i := 1) scSe.nd rfl (Or.inl rfl) pe_dnewK)
      (pss_cons (ps_for PassesOwn.never rfl (pi_enumT0 (by rfl) T.enumerate (pa_cons (pv 0) pa_nil)) pg_no pss_never)
      (pss_one (ps_ret (pv 1)))), ?_⟩
    refine fun d hd => ?_
    have s1 := Same.upd (o := .dK []) hd
    refine ⟨_, rfl, a, rfl, tupAt (s1 _ _ ha), for_stop (tupAt (s1 _ _ ha)) ?_⟩
    exact ⟨_, rfl, h _ d s1 hd upd_same⟩
abbrev nBy : List Str := ["site", "rows", "seen", "found", "row", "mask", "copy", "first", "_", "upper", "last", "bit"]
def spBy (K : PySem.W.Frag) : Sp := fun vs H Q _ => ∃ st a, vs = [st, .ref a] ∧ H a = some (.tup []) ∧ newL H Q
theorem scBy : FnScope nBy ["site", "rows"] (defScope s__by_time) := ⟨rfl, rfl, rfl, by decide +kernel, rfl, by decide +kernel, by decide +kernel⟩
theorem ok_by {f g : Addr} {fd fdG : FuncData} (F : Fun K "_by_time" "_by_time" s__by_time f fd) (T : Names mg) (G : FnOk P w K mg base CX0 1 g fdG ["rows"] (spSeen K)) (mgG : mg "_seen_at" = some (.ref g)) (kG : PySem.W.keepIn K (.ref g) = true) (bG : Binds K fdG ["rows"] []) : FnOk P w K mg base CX0 2 f fd ["site", "rows"] (spBy K) := by
  refine F.ok scBy (fun vs H Q E h => ?_) (fun cdv A outer s H vs Q E hr h => ?_)
  · obtain ⟨_, _, rfl, _⟩ := h
    rfl
  · obtain ⟨st, a, rfl, ha, h⟩ := h
    refine ⟨_, pss_cons (ps_set (i := 2) scBy.nd rfl (Or.inl rfl) (pe_call G hr rfl mgG kG bG .nil pass0 (pa_cons (pv 1) pa_nil)))
      (pss_cons (ps_set (i := 3) scBy.nd rfl (Or.inl rfl) (pe_lst pa_nil))
      (pss_cons (ps_for PassesOwn.never rfl (pi_tup (pv 1)) pg_no pss_never)
      (pss_one (ps_ret (pv 3))))), ?_⟩
    refine ⟨_, rfl, a, rfl, ha, fun H1 d s1 _ _ => ?_⟩
    refine ⟨(by show 0 ≤ sizeLine; decide), fun l hl => ?_⟩
    have s2 := Same.upd' (o := .lst []) s1 hl
    refine ⟨_, rfl, a, rfl, ⟨_, tupAt (s2 _ _ ha)⟩, for_stop ⟨_, tupAt (s2 _ _ ha), Nat.le_refl _⟩ ?_⟩
    exact ⟨_, rfl, h _ l s2 (s1.free hl) upd_same⟩
abbrev nRe : List Str := ["steps", "reach", "place", "mask", "middle", "through"]
theorem scRe : FnScope nRe ["steps"] (defScope s__reached) := ⟨rfl, rfl, rfl, by decide +kernel, rfl, by decide +kernel, by decide +kernel⟩
theorem ok_reached {f : Addr} {fd : FuncData} (F : Fun K "_reached" "_reached" s__reached f fd) (T : Names mg) : FnOk P w K mg base CX0 1 f fd ["steps"] spSharing := by
  refine F.ok scRe (fun vs H Q E h => ?_) (fun cdv A outer s H vs Q E hr h => ?_)
  · obtain ⟨_, rfl, _⟩ := h
    rfl
  · obtain ⟨a, rfl, ha, h⟩ := h
    refine ⟨_, pss_cons (ps_setLc0 (i := 1) (own := [("place", 2), ("mask", 3)]) rfl scRe.nd rfl rfl (sw_true rfl rfl rfl (by decide +kernel)) (pi_enum (by rfl) T.enumerate (pa_cons (pv 0) pa_nil)) (blkOk_by (own := [("place", 2), ("mask", 3)]) (N := nRe) (sc := defScope s__reached) (by decide +kernel)))
      (pss_cons (ps_for PassesOwn.never rfl (pi_range1 rfl T.range (pa_cons (pe_callB call_len_seq (by rfl) T.len PySem.boot_len (pa_cons (pv 0) pa_nil)) pa_nil)) pg_no pss_never)
      (pss_one (ps_ret (pv 1)))), ?_⟩
    refine ⟨_, rfl, a, _, rfl, lstAt ha, fun D hD => lc_stop ⟨_, lstAt (Same.upd hD _ _ ha), Nat.le_refl _⟩ ?_⟩
    have s1 := Same.upd (o := .lst []) hD
    refine ⟨_, rfl, a, _, rfl, .inl (lstAt (s1 _ _ ha)), 0, rfl, by omega, by omega, for_stop (Nat.le_refl _) ?_⟩
    exact ⟨_, rfl, h _ D s1 hD upd_same⟩
theorem scTu : FnScope ["reach", "start", "mask", "place"] ["reach"] (defScope s__turned) := ⟨rfl, rfl, rfl, by decide +kernel, rfl, by decide +kernel, by decide +kernel⟩
theorem ok_turned {f : Addr} {fd : FuncData} (F : Fun K "_turned" "_turned" s__turned f fd) (T : Names mg) : FnOk P w K mg base CX0 1 f fd ["reach"] spSharing := by
  refine F.ok scTu (fun vs H Q E h => ?_) (fun cdv A outer s H vs Q E hr h => ?_)
  · obtain ⟨_, rfl, _⟩ := h
    rfl
  · obtain ⟨a, rfl, ha, h⟩ := h
    refine ⟨_, pss_one (ps_ret (pe_lc0 (own := [("place", 3)]) rfl scTu.nd (pi_range1 rfl T.range (pa_cons (pe_callB call_len_seq (by rfl) T.len PySem.boot_len (pa_cons (pv 0) pa_nil)) pa_nil)) (blkOk_by (own := [("place", 3)]) (N := ["reach", "start", "mask", "place"]) (sc := defScope s__turned) (by decide +kernel)))), ?_⟩
    refine ⟨_, rfl, a, _, rfl, .inl (lstAt ha), 0, rfl, by omega, by omega, fun D hD => lc_stop (Nat.le_refl _) (h _ D (Same.upd hD) hD upd_same)⟩
end
end Sps
set_option Elab.async false
set_option linter.all false
set_option maxRecDepth 100000
set_option maxHeartbeats 4000000
/-! Steps of no answers. -/
namespace Sps
open PySem PySem.Spec PyProof.Rows L2
/-- an own class that is made by its __init__ -/
structure OC (K : PySem.W.Frag) (mg : Str → Option Value) (nm : Str) (C f : Addr) (fs : List Str) : Prop where
  cl : Cls K C
  make : Mk K C f
  mgC : mg nm = some (.ref C)
  no : ∀ x ∈ fs, NoAttr K C x
def EmpK (K : PySem.W.Frag) (ea : Addr) : Prop := ∀ H, SqT K H ea []
/-- a new instance at x as its fields come, what was tracked stands; rows: an empty tuple; ps: empty lists -/
structure Sg (H0 H : Hp) (x C dx r : Addr) (fs : List (Str × V)) (n : Nat) (ps : List Addr) : Prop where
  sx : SameX x H0 H
  at_ : H x = some (.ins C dx fs)
  rw_ : H r = some (.tup [])
  len : fs.length ≤ n
  ls : ∀ p ∈ ps, H p = some (.lst [])
theorem Sg.new {H0 H H' : Hp} {x C dx r : Addr} {fs : List (Str × V)} {n : Nat} {ps : List Addr} (g : Sg H0 H x C dx r fs n ps) (s : Same H H') : Sg H0 H' x C dx r fs n ps := ⟨g.sx.trans (Same.x s x), s _ _ g.at_, s _ _ g.rw_, g.len, fun p m => s _ _ (g.ls p m)⟩
theorem Sg.add {H0 H : Hp} {x C dx r : Addr} {fs : List (Str × V)} {n : Nat} {ps : List Addr} {p : Addr} (g : Sg H0 H x C dx r fs n ps) (h : H p = some (.lst [])) : Sg H0 H x C dx r fs n (ps ++ [p]) := ⟨g.sx, g.at_, g.rw_, g.len, fun q m => by
  rcases List.mem_append.mp m with e | m
  · exact g.ls q e
  · rw [List.mem_singleton.mp m]; exact h⟩
theorem Sg.put {H0 H : Hp} {x C dx r : Addr} {fs : List (Str × V)} {n : Nat} {ps : List Addr} (g : Sg H0 H x C dx r fs n ps) (f : Str) (y : V) : Sg H0 (L2.upd H x (.ins C dx (putF f y fs))) x C dx r (putF f y fs) (n + 1) ps := ⟨g.sx.trans SameX.upd, upd_same, by
    rw [upd_ne (ne_of g.rw_ g.at_ (by intro z; cases z))]; exact g.rw_, Nat.le_trans (length_putF _ _ _) (Nat.succ_le_succ g.len), fun p m => by
    rw [upd_ne (ne_of (g.ls p m) g.at_ (by intro z; cases z))]; exact g.ls p m⟩
theorem Sg.l {H0 H : Hp} {x C dx r : Addr} {fs : List (Str × V)} {n : Nat} {ps : List Addr} (g : Sg H0 H x C dx r fs n ps) (i : Nat) {p : Addr} (h : ps[i]? = some p) : H p = some (.lst []) := g.ls p (List.mem_of_getElem? h)
theorem Sg.lt {H0 H : Hp} {x C dx r : Addr} {fs : List (Str × V)} {n : Nat} {ps : List Addr} (g : Sg H0 H x C dx r fs n ps) (hn : n < 1000 := by decide) : fs.length < 1000 := Nat.lt_of_le_of_lt g.len hn
section
variable {P : Program} {w : World} {K : PySem.W.Frag} {mg : Str → Option Value} {base : Heap}
abbrev nSt : List Str := ["self", "site", "rows", "extra", "plain", "one", "other", "row", "start", "stop", "place", "mask", "weak"]
abbrev fSt : List Str := ["plain", "weak", "weaks", "ways", "meaning", "meaning_back", "older", "links", "edition", "edition_back"]
def spSteps (C ea : Addr) : Sp := fun vs H Q _ => ∃ (x dx r : Addr) (st : V), vs = [.ref x, st, .ref r, .ref ea] ∧ H x = some (.ins C dx []) ∧ H r = some (.tup []) ∧ ∀ H', SameX x H H' → Q .non H'
theorem scSt : FnScope nSt ["self", "site", "rows", "extra"] (defScope s_Steps___init__) := ⟨rfl, rfl, rfl, by decide +kernel, rfl, by decide +kernel, by decide +kernel⟩
theorem ok_steps {f C ea gB gS gM gR gT : Addr} {fd fdB fdS fdM fdR fdT : FuncData} {dv : List V} (F : FunD K "__init__" "Steps.__init__" (defArgs s_Steps___init__) (defBody s_Steps___init__) (defScope s_Steps___init__) dv [] f fd) (T : Names mg) (O : OC K mg "Steps" C f fSt) (ex : EmpK K ea)
    (GB : FnOk P w K mg base CX0 2 gB fdB ["site", "rows"] (spBy K)) (mgB : mg "_by_time" = some (.ref gB)) (kB : PySem.W.keepIn K (.ref gB) = true) (bB : Binds K fdB ["site", "rows"] [])
    (GS : FnOk P w K mg base CX0 1 gS fdS ["words"] spSharing) (mgS : mg "_sharing" = some (.ref gS)) (kS : PySem.W.keepIn K (.ref gS) = true) (bS : Binds K fdS ["words"] [])
    (GM : FnOk P w K mg base CX0 1 gM fdM ["places"] spMask) (mgM : mg "mask_of" = some (.ref gM)) (kM : PySem.W.keepIn K (.ref gM) = true) (bM : Binds K fdM ["places"] [])
    (GR : FnOk P w K mg base CX0 1 gR fdR ["steps"] spSharing) (mgR : mg "_reached" = some (.ref gR)) (kR : PySem.W.keepIn K (.ref gR) = true) (bR : Binds K fdR ["steps"] [])
    (GT : FnOk P w K mg base CX0 1 gT fdT ["reach"] spSharing) (mgT : mg "_turned" = some (.ref gT)) (kT : PySem.W.keepIn K (.ref gT) = true) (bT : Binds K fdT ["reach"] []) :
    FnOk P w K mg base CX0 3 f fd ["self", "site", "rows", "extra"] (spSteps C ea) := by
  refine F.ok scSt (fun vs H Q E h => ?_) (fun cdv A outer s H vs Q E hr h => ?_)
  · obtain ⟨_, _, _, _, rfl, _⟩ := h
    rfl
  · obtain ⟨x, dx, r, st, rfl, hx, hrw, h⟩ := h
    have hr1 : Room 1 _ := hr.mono (by decide)
    refine ⟨_, PSs.nox (pss_cons (ps_setLc0 (i := 4) (own := [("one", 5), ("other", 6)]) rfl scSt.nd rfl rfl (sw_true rfl rfl rfl (by decide +kernel)) (RZ.pi_zipA (by rfl) T.zip (pa_cons (pe_call GB hr rfl mgB kB bB .nil pass0 (pa_cons (pv 1) (pa_cons (pv 2) pa_nil)))
          (pa_cons (pe_call GS hr1 rfl mgS kS bS .nil pass0 (pa_cons (pe_lc0 (own := [("row", 7)]) rfl scSt.nd (pi_tup (pv 2)) (blkOk_by (own := [("row", 7)]) (N := nSt) (sc := defScope s_Steps___init__) (by decide +kernel))) pa_nil)) pa_nil))) (blkOk_by (own := [("one", 5), ("other", 6)]) (N := nSt) (sc := defScope s_Steps___init__) (by decide +kernel)))
      (pss_cons (ps_for PassesOwn.never rfl (pi_tup (pv 3)) pg_no pss_never)
      (pss_cons (ps_fld (pv 0) (pe_lc0 (own := [("place", 10), ("mask", 11)]) rfl scSt.nd (pi_enum (by rfl) T.enumerate (pa_cons (pv 4) pa_nil)) (blkOk_by (own := [("place", 10), ("mask", 11)]) (N := nSt) (sc := defScope s_Steps___init__) (by decide +kernel))) rfl)
      (pss_cons (ps_fld (pv 0) (pe_call GS hr1 rfl mgS kS bS .nil pass0 (pa_cons (pe_lc0 (own := [("row", 7)]) rfl scSt.nd (pi_tup (pv 2)) (blkOk_by (own := [("row", 7)]) (N := nSt) (sc := defScope s_Steps___init__) (by decide +kernel))) pa_nil)) rfl)
      (pss_cons (ps_fld (pv 0) (pe_call GM hr1 rfl mgM kM bM .nil pass0 (pa_cons (pe_lc0 (own := [("place", 10), ("row", 7)]) rfl scSt.nd (pi_enumT0 (by rfl) T.enumerate (pa_cons (pv 2) pa_nil)) (blkOk_by (own := [("place", 10), ("row", 7)]) (N := nSt) (sc := defScope s_Steps___init__) (by decide +kernel))) pa_nil)) rfl)
      (pss_cons (ps_fld (pv 0) (pe_lc0 (own := [("place", 10), ("mask", 11), ("weak", 12)]) rfl scSt.nd (pi_enumZ0 (by rfl) T.enumerate (by rfl) T.zip (pa_cons (pe_fld (pv 0) rfl) (pa_cons (pe_fld (pv 0) rfl) pa_nil))) (blkOk_by (own := [("place", 10), ("mask", 11), ("weak", 12)]) (N := nSt) (sc := defScope s_Steps___init__) (by decide +kernel))) rfl)
      (pss_cons (ps_fld (pv 0) (pe_call GR hr1 rfl mgR kR bR .nil pass0 (pa_cons (pe_fld (pv 0) rfl) pa_nil)) rfl)
      (pss_cons (ps_fld (pv 0) (pe_call GT hr1 rfl mgT kT bT .nil pass0 (pa_cons (pe_fld (pv 0) rfl) pa_nil)) rfl)
      (pss_cons (ps_fld (pv 0) (pe_lc0 (own := [("place", 10)]) rfl scSt.nd (pi_range1 rfl T.range (pa_cons (pe_callB call_len_seq (by rfl) T.len PySem.boot_len (pa_cons (pv 2) pa_nil)) pa_nil)) (blkOk_by (own := [("place", 10)]) (N := nSt) (sc := defScope s_Steps___init__) (by decide +kernel))) rfl)
      (pss_cons (ps_fld (pv 0) (pe_lc0 (own := [("one", 5), ("other", 6)]) rfl scSt.nd (RZ.pi_zipA (by rfl) T.zip (pa_cons (pe_fld (pv 0) rfl) (pa_cons (pe_fld (pv 0) rfl) pa_nil))) (blkOk_by (own := [("one", 5), ("other", 6)]) (N := nSt) (sc := defScope s_Steps___init__) (by decide +kernel))) rfl)
      (pss_cons (ps_fld (pv 0) (pe_call GR hr1 rfl mgR kR bR .nil pass0 (pa_cons (pe_fld (pv 0) rfl) pa_nil)) rfl)
      (pss_one (ps_fld (pv 0) (pe_call GT hr1 rfl mgT kT bT .nil pass0 (pa_cons (pe_fld (pv 0) rfl) pa_nil)) rfl))))))))))))), ?_⟩
    have g0 : Sg H H x C dx r [] 0 [] := ⟨SameX.refl H x, hx, hrw, Nat.le_refl _, fun _ m => nomatch m⟩
    have no : ∀ {k : Str}, k ∈ fSt → NoAttr K C k := fun {k} m => O.no k m
    -- plain
    refine ⟨_, rfl, _, rfl, st, r, rfl, hrw, fun H1 b s1 _ hb => ?_⟩
    have g1 := (g0.new s1).add hb
    refine ⟨_, rfl, r, rfl, ⟨_, tupAt g1.rw_⟩, fun D1 hD1 => lc_stop ⟨_, tupAt ((g1.new (Same.upd hD1)).rw_), Nat.le_refl _⟩ ?_⟩
    have g2 := (g1.new (Same.upd hD1)).add (p := D1) upd_same
    refine ⟨D1, rfl, upd_same, fun H2 c s2 _ hc => ?_⟩
    have g3 := (g2.new s2).add hc
    refine ⟨b, c, _, _, rfl, .inl ⟨lstAt (g3.l 0 rfl), lstAt (g3.l 2 rfl), fun D2 hD2 => lc_stop ⟨_, _, lstAt ((g3.new (Same.upd hD2)).l 0 rfl), lstAt ((g3.new (Same.upd hD2)).l 2 rfl), .inl (Nat.le_refl _)⟩ ?_⟩⟩
    have g4 := (g3.new (Same.upd hD2)).add (p := D2) upd_same
    -- extra
    refine ⟨_, rfl, ea, rfl, ⟨_, ex _⟩, for_stop ⟨_, ex _, Nat.le_refl _⟩ ?_⟩
    -- self.plain
    refine ⟨_, rfl, D2, _, rfl, lstAt (g4.l 3 rfl), fun D3 hD3 => lc_stop ⟨_, lstAt ((g4.new (Same.upd hD3)).l 3 rfl), Nat.le_refl _⟩ ?_⟩
    have g5 := (g4.new (Same.upd hD3)).add (p := D3) upd_same
    refine ⟨_, rfl, x, C, dx, _, rfl, g5.at_, O.cl, no (by decide), g5.lt, ?_⟩
    have g6 := g5.put "plain" (.ref D3)
    -- self.weak
    refine ⟨_, rfl, r, rfl, ⟨_, tupAt g6.rw_⟩, fun D4 hD4 => lc_stop ⟨_, tupAt ((g6.new (Same.upd hD4)).rw_), Nat.le_refl _⟩ ?_⟩
    have g7 := (g6.new (Same.upd hD4)).add (p := D4) upd_same
    refine ⟨D4, rfl, upd_same, fun H3 d s3 _ hd => ?_⟩
    have g8 := (g7.new s3).add hd
    refine ⟨_, rfl, x, C, dx, _, rfl, g8.at_, O.cl, no (by decide), g8.lt, ?_⟩
    have g9 := g8.put "weak" (.ref d)
    -- self.weaks
    refine ⟨_, rfl, r, rfl, tupAt g9.rw_, fun D5 hD5 => lc_stop (tupAt ((g9.new (Same.upd hD5)).rw_)) ?_⟩
    have g10 := (g9.new (Same.upd hD5)).add (p := D5) upd_same
    refine ⟨D5, rfl, upd_same, fun H4 s4 => ?_⟩
    have g11 := g10.new s4
    refine ⟨_, rfl, x, C, dx, _, rfl, g11.at_, O.cl, no (by decide), g11.lt, ?_⟩
    have g12 := g11.put "weaks" (.int 0)
    -- self.ways
    refine ⟨_, rfl, x, C, dx, _, _, rfl, g12.at_, O.cl, no (by decide), (by repeat (first | (rw [lookup_putF, if_pos rfl]; done) | rw [lookup_putF, if_neg (by decide)])), _, rfl, x, C, dx, _, _, rfl, g12.at_, O.cl, no (by decide), (by repeat (first | (rw [lookup_putF, if_pos rfl]; done) | rw [lookup_putF, if_neg (by decide)])), D3, d, rfl, lstAt (g12.l 4 rfl), lstAt (g12.l 6 rfl), fun D6 hD6 => lc_stop ⟨lstAt ((g12.new (Same.upd hD6)).l 4 rfl), lstAt ((g12.new (Same.upd hD6)).l 6 rfl)⟩ ?_⟩
    have g13 := (g12.new (Same.upd hD6)).add (p := D6) upd_same
    refine ⟨_, rfl, x, C, dx, _, rfl, g13.at_, O.cl, no (by decide), g13.lt, ?_⟩
    have g14 := g13.put "ways" (.ref D6)
    -- self.meaning, self.meaning_back
    refine ⟨_, rfl, x, C, dx, _, _, rfl, g14.at_, O.cl, no (by decide), (by repeat (first | (rw [lookup_putF, if_pos rfl]; done) | rw [lookup_putF, if_neg (by decide)])), D6, rfl, g14.l 8 rfl, fun H5 e s5 _ he => ?_⟩
    have g15 := (g14.new s5).add he
    refine ⟨_, rfl, x, C, dx, _, rfl, g15.at_, O.cl, no (by decide), g15.lt, ?_⟩
    have g16 := g15.put "meaning" (.ref e)
    refine ⟨_, rfl, x, C, dx, _, _, rfl, g16.at_, O.cl, no (by decide), (by repeat (first | (rw [lookup_putF, if_pos rfl]; done) | rw [lookup_putF, if_neg (by decide)])), e, rfl, g16.l 9 rfl, fun H6 e2 s6 _ he2 => ?_⟩
    have g17 := (g16.new s6).add he2
    refine ⟨_, rfl, x, C, dx, _, rfl, g17.at_, O.cl, no (by decide), g17.lt, ?_⟩
    have g18 := g17.put "meaning_back" (.ref e2)
    -- self.older
    refine ⟨_, rfl, r, _, rfl, .inr (tupAt g18.rw_), 0, rfl, by omega, by omega, fun D7 hD7 => lc_stop (Nat.le_refl _) ?_⟩
    have g19 := (g18.new (Same.upd hD7)).add (p := D7) upd_same
    refine ⟨_, rfl, x, C, dx, _, rfl, g19.at_, O.cl, no (by decide), g19.lt, ?_⟩
    have g20 := g19.put "older" (.ref D7)
    -- self.links
    refine ⟨_, rfl, x, C, dx, _, _, rfl, g20.at_, O.cl, no (by decide), (by repeat (first | (rw [lookup_putF, if_pos rfl]; done) | rw [lookup_putF, if_neg (by decide)])), _, rfl, x, C, dx, _, _, rfl, g20.at_, O.cl, no (by decide), (by repeat (first | (rw [lookup_putF, if_pos rfl]; done) | rw [lookup_putF, if_neg (by decide)])), D3, D7, _, _, rfl, .inl ⟨lstAt (g20.l 4 rfl), lstAt (g20.l 11 rfl), fun D8 hD8 => lc_stop ⟨_, _, lstAt ((g20.new (Same.upd hD8)).l 4 rfl), lstAt ((g20.new (Same.upd hD8)).l 11 rfl), .inl (Nat.le_refl _)⟩ ?_⟩⟩
    have g21 := (g20.new (Same.upd hD8)).add (p := D8) upd_same
    refine ⟨_, rfl, x, C, dx, _, rfl, g21.at_, O.cl, no (by decide), g21.lt, ?_⟩
    have g22 := g21.put "links" (.ref D8)
    refine ⟨_, rfl, x, C, dx, _, _, rfl, g22.at_, O.cl, no (by decide), (by repeat (first | (rw [lookup_putF, if_pos rfl]; done) | rw [lookup_putF, if_neg (by decide)])), D8, rfl, g22.l 12 rfl, fun H7 e3 s7 _ he3 => ?_⟩
    have g23 := (g22.new s7).add he3
    refine ⟨_, rfl, x, C, dx, _, rfl, g23.at_, O.cl, no (by decide), g23.lt, ?_⟩
    have g24 := g23.put "edition" (.ref e3)
    refine ⟨_, rfl, x, C, dx, _, _, rfl, g24.at_, O.cl, no (by decide), (by repeat (first | (rw [lookup_putF, if_pos rfl]; done) | rw [lookup_putF, if_neg (by decide)])), e3, rfl, g24.l 13 rfl, fun H8 e4 s8 _ he4 => ?_⟩
    have g25 := (g24.new s8).add he4
    refine ⟨_, rfl, x, C, dx, _, rfl, g25.at_, O.cl, no (by decide), g25.lt, ?_⟩
    exact h _ (g25.put "edition_back" (.ref e4)).sx
end
end Sps
set_option Elab.async false
set_option linter.all false
set_option maxRecDepth 100000
set_option maxHeartbeats 4000000
/-! Contents and pictures of no answers. -/
namespace Sps
open PySem PySem.Spec PyProof.Rows L2
theorem relock {H1 H7 : Hp} {d : Addr} {u : HO} {od : Obj} (h : H1 d = some u) (s : Same (L2.upd H1 d (.frz od u)) H7) : Same H1 (L2.upd H7 d u) := fun b o e => by
  by_cases q : b = d
  · rw [q, upd_same, ← e, q, h]
  · rw [upd_ne q]
    exact s b o (by rw [upd_ne q]; exact e)
theorem madeSame {H1 H2 : Hp} {y dy : Addr} {o o2 : HO} (h1 : H1 y = none) (h2 : H1 dy = none) (s : SameX y (L2.upd (L2.upd H1 dy o) y o2) H2) : Same H1 H2 := fun b u e => by
  have n1 := ne_of_none e h1
  have n2 := ne_of_none e h2
  exact s b u n1 (by rw [upd_ne n1, upd_ne n2]; exact e)
section
variable {P : Program} {w : World} {K : PySem.W.Frag} {mg : Str → Option Value} {base : Heap}
abbrev nNr : List Str := ["contents", "piece", "found", "content", "start", "values", "place", "part", "key"]
def spNamed : Sp := fun vs H Q _ => ∃ (a : Addr) (v : V), vs = [.ref a, v] ∧ H a = some (.lst []) ∧ newD H Q
theorem scNr : FnScope nNr ["contents", "piece"] (defScope s__named_runs) := ⟨rfl, rfl, rfl, by decide +kernel, rfl, by decide +kernel, by decide +kernel⟩
theorem ok_named {f : Addr} {fd : FuncData} (F : Fun K "_named_runs" "_named_runs" s__named_runs f fd) (T : Names mg) : FnOk P w K mg base CX0 1 f fd ["contents", "piece"] spNamed := by
  refine F.ok scNr (fun vs H Q E h => ?_) (fun cdv A outer s H vs Q E hr h => ?_)
  · obtain ⟨_, _, rfl, _⟩ := h
    rfl
  · obtain ⟨a, v, rfl, ha, h⟩ := h
    refine ⟨_, pss_cons (ps_set (i := 2) scNr.nd rfl (Or.inr rfl) pe_dnewK)
      (pss_cons (ps_for PassesOwn.never rfl (pi_list (pv 0)) pg_no pss_never)
      (pss_one (ps_ret (pe_lock (pe_dc0 (own := [("key", 8)]) rfl scNr.nd (pi_keys (pv 2)) (blkOk_by (own := [("key", 8)]) (N := nNr) (sc := defScope s__named_runs) (by decide +kernel))))))), ?_⟩
    refine fun d hd => ?_
    have s1 := Same.upd (o := .dK []) hd
    refine ⟨_, rfl, a, rfl, ⟨_, lstAt (s1 _ _ ha)⟩, for_stop ⟨_, lstAt (s1 _ _ ha), Nat.le_refl _⟩ ?_⟩
    refine ⟨d, _, upd_same, trivial, fun od => ⟨_, rfl, d, od, rfl, .inl ⟨[], upd_same, fun D hD => dc_stop ⟨Same.upd hD _ _ upd_same, Nat.le_refl _⟩ ⟨Same.upd hD _ _ upd_same, ?_⟩⟩⟩⟩
    have sR := relock (od := od) (show (L2.upd H d (.dK [])) d = some (.dK []) from upd_same) (Same.upd (o := .dK []) hD)
    have nD : D ≠ d := fun z => by
      rw [z, upd_same] at hD
      cases hD
    refine h _ D (s1.trans sR) ?_ (by rw [upd_ne nD]; exact upd_same)
    rw [upd_ne nD] at hD
    exact s1.free hD
abbrev nCt : List Str := ["editions", "piece", "told", "rows", "content", "place", "one", "other", "table", "key"]
def spContents : Sp := fun vs H Q _ => ∃ (a : Addr) (v : V), vs = [.ref a, v] ∧ H a = some (.lst []) ∧ newL H Q
theorem scCt : FnScope nCt ["editions", "piece"] (defScope s_contents_of) := ⟨rfl, rfl, rfl, by decide +kernel, rfl, by decide +kernel, by decide +kernel⟩
theorem ok_contents {f g : Addr} {fd fdG : FuncData} (F : Fun K "contents_of" "contents_of" s_contents_of f fd) (T : Names mg) (G : FnOk P w K mg base CX0 1 g fdG ["contents", "piece"] spNamed) (mgG : mg "_named_runs" = some (.ref g)) (kG : PySem.W.keepIn K (.ref g) = true) (bG : Binds K fdG ["contents", "piece"] []) : FnOk P w K mg base CX0 2 f fd ["editions", "piece"] spContents := by
  refine F.ok scCt (fun vs H Q E h => ?_) (fun cdv A outer s H vs Q E hr h => ?_)
  · obtain ⟨_, _, rfl, _⟩ := h
    rfl
  · obtain ⟨a, v, rfl, ha, h⟩ := h
    refine ⟨_, pss_cons (ps_setLc0 (i := 2) (own := [("rows", 3)]) rfl scCt.nd rfl rfl (sw_true rfl rfl rfl (by decide +kernel)) (pi_list (pv 0)) (blkOk_by (own := [("rows", 3)]) (N := nCt) (sc := defScope s_contents_of) (by decide +kernel)))
      (pss_cons (ps_if (pt_val (pe_callB (cr_any rfl) (by rfl) T.any (by decide +kernel) (pa_cons (pe_lc0 (own := [("content", 4)]) rfl scCt.nd (pi_list (pv 2)) (blkOk_by (own := [("content", 4)]) (N := nCt) (sc := defScope s_contents_of) (by decide +kernel))) pa_nil))) pss_never pss_nil)
      (pss_cons (ps_for PassesOwn.never rfl (pi_enum (by rfl) T.enumerate (pa_cons (pv 2) pa_nil)) pg_no pss_never)
      (pss_cons (ps_set (i := 8) scCt.nd rfl (Or.inr rfl) (pe_call G hr rfl mgG kG bG .nil pass0 (pa_cons (pv 2) (pa_cons (pv 1) pa_nil))))
      (pss_cons (ps_if (pt_val (pe_callB (cr_any rfl) (by rfl) T.any (by decide +kernel) (pa_cons (pe_lock (pe_lc0 (own := [("key", 9)]) rfl scCt.nd (pi_keys (pv 8)) (blkOk_by (own := [("key", 9)]) (N := nCt) (sc := defScope s_contents_of) (by decide +kernel)))) pa_nil))) pss_never pss_nil)
      (pss_one (ps_ret (pe_lc0 (own := [("content", 4)]) rfl scCt.nd (pi_list (pv 2)) (blkOk_by (own := [("content", 4)]) (N := nCt) (sc := defScope s_contents_of) (by decide +kernel))))))))), ?_⟩
    refine ⟨_, rfl, a, rfl, ⟨_, lstAt ha⟩, fun D1 hD1 => lc_stop ⟨_, lstAt (Same.upd hD1 _ _ ha), Nat.le_refl _⟩ ?_⟩
    have s1 := Same.upd (o := .lst []) hD1
    generalize hH1 : L2.upd H D1 (.lst []) = H1 at s1
    have l1 : H1 D1 = some (.lst []) := by rw [← hH1]; exact upd_same
    refine ⟨_, rfl, D1, rfl, ⟨_, lstAt l1⟩, fun D2 hD2 => lc_stop ⟨_, lstAt (Same.upd hD2 _ _ l1), Nat.le_refl _⟩ ⟨D2, [], rfl, lstAt upd_same, _, rfl, iteF ?_⟩⟩
    have s2 := s1.trans (Same.upd (o := .lst []) hD2)
    have l2 := Same.upd (o := .lst []) hD2 _ _ l1
    generalize hH2 : L2.upd H1 D2 (.lst []) = H2 at s2 l2
    refine ⟨_, rfl, D1, _, rfl, lstAt l2, for_stop ⟨_, lstAt l2, Nat.le_refl _⟩ ?_⟩
    refine ⟨_, rfl, _, rfl, D1, v, rfl, l2, fun H3 d s3 _ hd => ?_⟩
    have s13 := s2.trans s3
    have l3 := s3 _ _ l2
    refine ⟨d, _, hd, trivial, fun od => ⟨_, rfl, d, od, rfl, .inl ⟨[], upd_same, fun D4 hD4 => lc_stop ⟨Same.upd hD4 _ _ upd_same, Nat.le_refl _⟩ ⟨Same.upd hD4 _ _ upd_same, ?_⟩⟩⟩⟩
    have sR := relock (od := od) hd (Same.upd (o := .lst []) hD4)
    have nD : D4 ≠ d := fun z => by
      rw [z, upd_same] at hD4
      cases hD4
    refine ⟨D4, [], rfl, lstAt (by rw [upd_ne nD]; exact upd_same), _, rfl, iteF ?_⟩
    have l4 := sR _ _ l3
    have s14 := s13.trans sR
    exact ⟨_, rfl, D1, rfl, ⟨_, lstAt l4⟩, fun D5 hD5 => lc_stop ⟨_, lstAt (Same.upd hD5 _ _ l4), Nat.le_refl _⟩ (h _ D5 (Same.upd' s14 hD5) (s14.free hD5) upd_same)⟩
abbrev nPi : List Str := ["self", "site", "rows", "place", "row", "masks", "mask", "told", "places", "found", "content"]
abbrev fPi : List Str := ["site", "rows", "ghosts", "place", "steps", "editions", "least", "contents", "fits"]
abbrev fSi : List Str := ["copies", "piece", "above"]
def spPic (C CSi fSi_ : Addr) : Sp := fun vs H Q _ => ∃ (x dx st dS r : Addr) (fs : List (Str × V)) (pc : V), vs = [.ref x, .ref st, .ref r] ∧ H x = some (.ins C dx []) ∧ H st = some (.ins CSi dS fs) ∧ st ≠ x ∧ fs.lookup ("piece" : Str) = some pc ∧ H r = some (.tup []) ∧ ∀ H', SameX x H H' → Q .non H'
theorem scPi : FnScope nPi ["self", "site", "rows"] (defScope s_Picture___init__) := ⟨rfl, rfl, rfl, by decide +kernel, rfl, by decide +kernel, by decide +kernel⟩
theorem ok_pic {f C CSi fS CS fSt_ ea gC : Addr} {fd fdS fdC : FuncData} {ds : List Value} (F : Fun K "__init__" "Picture.__init__" s_Picture___init__ f fd) (T : Names mg) (O : OC K mg "Picture" C f fPi) (OS : OC K mg "Site" CSi fS fSi)
    (OT : OC K mg "Steps" CS fSt_ fSt) (GS : FnOk P w K mg base CX0 3 fSt_ fdS ["self", "site", "rows", "extra"] (spSteps CS ea)) (bS : Binds K fdS ["self", "site", "rows", "extra"] ds) (rS : Vals [V.ref ea] ds)
    (GC : FnOk P w K mg base CX0 2 gC fdC ["editions", "piece"] spContents) (mgC : mg "contents_of" = some (.ref gC)) (kC : PySem.W.keepIn K (.ref gC) = true) (bC : Binds K fdC ["editions", "piece"] []) :
    FnOk P w K mg base CX0 5 f fd ["self", "site", "rows"] (spPic C CSi fS) := by
  refine F.ok scPi (fun vs H Q E h => ?_) (fun cdv A outer s H vs Q E hr h => ?_)
  · obtain ⟨_, _, _, _, _, _, _, rfl, _⟩ := h
    rfl
  · obtain ⟨x, dx, st, dS, r, fs, pc, rfl, hx, hst, hne, hpc, hrw, h⟩ := h
    have hr2 : Room 2 _ := hr.mono (by decide)
    refine ⟨_, pss_cons (ps_fld (pv 0) (pv 1) rfl)
      (pss_cons (ps_fld (pv 0) (pv 2) rfl)
      (pss_cons (ps_fld (pv 0) pe_dnewK rfl)
      (pss_cons (ps_fld (pv 0) (pe_dc0 (own := [("place", 3), ("row", 4)]) rfl scPi.nd (pi_enumT0 (by rfl) T.enumerate (pa_cons (pv 2) pa_nil)) (blkOk_by (own := [("place", 3), ("row", 4)]) (N := nPi) (sc := defScope s_Picture___init__) (by decide +kernel))) rfl)
      (pss_cons (ps_fld (pv 0) (pe_make OT.make GS hr rfl OT.mgC bS rS pass0 (pa_cons (pv 1) (pa_cons (pv 2) pa_nil))) rfl)
      (pss_cons (ps_setLc0 (i := 5) (own := [("place", 3)]) rfl scPi.nd rfl rfl (sw_true rfl rfl rfl (by decide +kernel)) (pi_range1 rfl T.range (pa_cons (pe_callB call_len_seq (by rfl) T.len PySem.boot_len (pa_cons (pv 2) pa_nil)) pa_nil)) (blkOk_by (own := [("place", 3)]) (N := nPi) (sc := defScope s_Picture___init__) (by decide +kernel)))
      (pss_cons (ps_fld (pv 0) (pe_lc0 (own := [("place", 3), ("mask", 6)]) rfl scPi.nd (pi_enum (by rfl) T.enumerate (pa_cons (pv 5) pa_nil)) (blkOk_by (own := [("place", 3), ("mask", 6)]) (N := nPi) (sc := defScope s_Picture___init__) (by decide +kernel))) rfl)
      (pss_cons (ps_fld (pv 0) (pe_lc0 (own := [("mask", 6)]) rfl scPi.nd (pi_list (pv 5)) (blkOk_by (own := [("mask", 6)]) (N := nPi) (sc := defScope s_Picture___init__) (by decide +kernel))) rfl)
      (pss_cons (ps_set (i := 7) scPi.nd rfl (Or.inl rfl) (pe_call GC hr2 rfl mgC kC bC .nil pass0 (pa_cons (pe_lc0 (own := [("places", 8)]) rfl scPi.nd (pi_list (pe_fld (pv 0) rfl)) (blkOk_by (own := [("places", 8)]) (N := nPi) (sc := defScope s_Picture___init__) (by decide +kernel))) (pa_cons (pe_fld (pv 1) rfl) pa_nil))))
      (pss_cons (ps_set (i := 9) scPi.nd rfl (Or.inl rfl) (pe_ifExp (pt_cmpR op_isN (pv 7) pe_non (nomark _)) (pe_lst pa_nil) (pv 7)))
      (pss_cons (ps_fld (pv 0) (pe_dc0 (own := [("places", 8), ("content", 10)]) rfl scPi.nd (RZ.pi_zipA (by rfl) T.zip (pa_cons (pe_fld (pv 0) rfl) (pa_cons (pv 9) pa_nil))) (blkOk_by (own := [("places", 8), ("content", 10)]) (N := nPi) (sc := defScope s_Picture___init__) (by decide +kernel))) rfl)
      (pss_one (ps_fld (pv 0) (pe_cmpR op_notN (pv 7) pe_non (nomark _)) rfl)))))))))))), ?_⟩
    have g0 : Sg H H x C dx r [] 0 [] := ⟨SameX.refl H x, hx, hrw, Nat.le_refl _, fun _ m => nomatch m⟩
    have no : ∀ {k : Str}, k ∈ fPi → NoAttr K C k := fun {k} m => O.no k m
    refine ⟨_, rfl, _, rfl, x, C, dx, _, rfl, g0.at_, O.cl, no (by decide), g0.lt, ?_⟩
    have g1 := g0.put "site" (.ref st)
    refine ⟨_, rfl, _, rfl, x, C, dx, _, rfl, g1.at_, O.cl, no (by decide), g1.lt, ?_⟩
    have g2 := g1.put "rows" (.ref r)
    refine fun d1 hd1 => ⟨_, rfl, x, C, dx, _, rfl, (g2.new (Same.upd hd1)).at_, O.cl, no (by decide), g2.lt, ?_⟩
    have g3 := (g2.new (Same.upd (o := .dK []) hd1)).put "ghosts" (.ref d1)
    refine ⟨_, rfl, r, rfl, tupAt g3.rw_, fun d2 hd2 => dc_stop (tupAt ((g3.new (Same.upd hd2)).rw_)) ⟨_, rfl, x, C, dx, _, rfl, (g3.new (Same.upd hd2)).at_, O.cl, no (by decide), g3.lt, ?_⟩⟩
    have g4 := (g3.new (Same.upd (o := .dK []) hd2)).put "place" (.ref d2)
    -- self.steps
    refine ⟨_, rfl, _, rfl, fun y dy hy hdy nyd => ?_⟩
    have nry := ne_of_none g4.rw_ hy
    have nrd := ne_of_none g4.rw_ hdy
    refine ⟨y, dy, r, .ref st, rfl, upd_same, by rw [upd_ne nry, upd_ne nrd]; exact g4.rw_, fun H1 s1 => ⟨rfl, ?_⟩⟩
    have sM := madeSame hy hdy s1
    have g5 := g4.new sM
    refine ⟨_, rfl, x, C, dx, _, rfl, g5.at_, O.cl, no (by decide), g5.lt, ?_⟩
    have g6 := g5.put "steps" (.ref y)
    -- masks
    refine ⟨_, rfl, r, _, rfl, .inr (tupAt g6.rw_), 0, rfl, by omega, by omega, fun D1 hD1 => lc_stop (Nat.le_refl _) ?_⟩
    have g7 := (g6.new (Same.upd hD1)).add (p := D1) upd_same
    refine ⟨_, rfl, D1, _, rfl, lstAt (g7.l 0 rfl), fun D2 hD2 => lc_stop ⟨_, lstAt ((g7.new (Same.upd hD2)).l 0 rfl), Nat.le_refl _⟩ ?_⟩
    have g8 := (g7.new (Same.upd hD2)).add (p := D2) upd_same
    refine ⟨_, rfl, x, C, dx, _, rfl, g8.at_, O.cl, no (by decide), g8.lt, ?_⟩
    have g9 := g8.put "editions" (.ref D2)
    refine ⟨_, rfl, D1, rfl, ⟨_, lstAt (g9.l 0 rfl)⟩, fun D3 hD3 => lc_stop ⟨_, lstAt ((g9.new (Same.upd hD3)).l 0 rfl), Nat.le_refl _⟩ ?_⟩
    have g10 := (g9.new (Same.upd hD3)).add (p := D3) upd_same
    refine ⟨_, rfl, x, C, dx, _, rfl, g10.at_, O.cl, no (by decide), g10.lt, ?_⟩
    have g11 := g10.put "least" (.ref D3)
    -- told
    refine ⟨_, rfl, x, C, dx, _, _, rfl, g11.at_, O.cl, no (by decide), (by repeat (first | (rw [lookup_putF, if_pos rfl]; done) | rw [lookup_putF, if_neg (by decide)])), D2, rfl, ⟨_, lstAt (g11.l 1 rfl)⟩, fun D4 hD4 => lc_stop ⟨_, lstAt ((g11.new (Same.upd hD4)).l 1 rfl), Nat.le_refl _⟩ ?_⟩
    have g12 := (g11.new (Same.upd hD4)).add (p := D4) upd_same
    refine ⟨_, rfl, st, CSi, dS, fs, pc, rfl, g12.sx _ _ hne hst, OS.cl, OS.no _ (by decide), hpc, D4, pc, rfl, upd_same, fun H2 p s2 _ hp => ?_⟩
    have g13 := (g12.new s2).add hp
    refine ⟨_, rfl, rfl, _, rfl, ite_f (by intro z; cases z) ⟨_, rfl, ?_⟩⟩
    -- self.contents
    refine ⟨_, rfl, x, C, dx, _, _, rfl, g13.at_, O.cl, no (by decide), (by repeat (first | (rw [lookup_putF, if_pos rfl]; done) | rw [lookup_putF, if_neg (by decide)])), _, rfl, D2, p, _, _, rfl, .inl ⟨lstAt (g13.l 1 rfl), lstAt hp, fun D5 hD5 => dc_stop ⟨_, _, lstAt ((g13.new (Same.upd hD5)).l 1 rfl), lstAt (Same.upd hD5 _ _ hp), .inl (Nat.le_refl _)⟩ ?_⟩⟩
    have g14 := g13.new (Same.upd (o := .dK []) hD5)
    refine ⟨_, rfl, x, C, dx, _, rfl, g14.at_, O.cl, no (by decide), g14.lt, ?_⟩
    have g15 := g14.put "contents" (.ref D5)
    refine ⟨_, rfl, rfl, _, rfl, x, C, dx, _, rfl, g15.at_, O.cl, no (by decide), g15.lt, ?_⟩
    exact h _ (g15.put "fits" (.bl _)).sx
end
end Sps
set_option Elab.async false
set_option linter.all false
set_option maxRecDepth 100000
set_option maxHeartbeats 4000000
/-! Sites, asks, states. -/
namespace Sps
open PySem PySem.Spec PyProof.Rows L2
/-! ### a dict comprehension that is given a name -/
section
variable {X : Cx}
theorem sw_trueD {kx vx : Expr} {gs : List Comprehension} {scope : Scope} {pos py : Pos} {y : Str} {l : Nat} {env : Env} (hk : env.scope.kind = .function) (hy : env.scope.names.lookup y = some .local) (hl : (py.line == pos.line) = true)
    (ha : (scope.names.any fun (n, k) => n == y && (k == .local || k == .cell)) = false) : swapsWith (.DictComp kx vx gs scope pos) (some (.Name y py)) l env = pure true := by
  have ky : env.kindOf y = some .local := hy
  have hb : env.blockKind = .function := by unfold Env.blockKind; rw [hk]; rfl
  unfold swapsWith
  simp only [hb, ky, ha, Expr.pos, hl]
  rfl
theorem ps_setDc {i : Nat} {y : Str} {py : Pos} {kx vx tg iter : Expr} {ifs : List Expr} {scope : Scope} {own : List (Str × Nat)} {pos spos : Pos} {wi : TI} {g : TG} {tt : TT} {tk tv : TE} (hc : X.calm = true) (hN : X.N.Nodup) (hy : X.N[i]? = some y) (hyl : X.env.scope.names.lookup y = some .local)
    (hsw : swapsWith (.DictComp kx vx [⟨tg, iter, ifs, 0⟩] scope pos) (some (.Name y py)) spos.line X.env = pure true) (hi : PI X tg iter wi) (ok : BlkOk X.N X.env.scope scope own)
    (hg : ∀ (s : Shared) (H : Hp) (C : Addr) (cl : List (Str × Addr)) (fp : List Addr), PG (X.blk s H scope (compEnvC scope cl C X.env) fp) tg g) (ht : ∀ (s : Shared) (H : Hp) (C : Addr) (cl : List (Str × Addr)) (fp : List Addr), PTs (X.blk s H scope (compEnvC scope cl C X.env) fp) ifs tt)
    (hk : ∀ (s : Shared) (H : Hp) (C : Addr) (cl : List (Str × Addr)) (fp : List Addr), PE (X.blk s H scope (compEnvC scope cl C X.env) fp) kx tk)
    (he : ∀ (s : Shared) (H : Hp) (C : Addr) (cl : List (Str × Addr)) (fp : List Addr), PE (X.blk s H scope (compEnvC scope cl C X.env) fp) vx tv) (hs : ∀ x, foldedSetIterable iter X.env x = pure x := by intro _; rfl) :
    PS X (.Assign [.Name y py] (.DictComp kx vx [⟨tg, iter, ifs, 0⟩] scope pos) spos) (tAsg (tDc wi g tt tk tv (own.map (·.2))) (gName i)) := by
  refine ⟨fun pins s σ H D I h => ?_⟩
  rw [exec_Assign_Name_used _ _ _ _ hsw]
  refine wpAny_bind (wpAny_standAt (wpAny_bind ?_))
  show wpAny _ X.A (do let _ ← comprehension (.DictComp kx vx [⟨tg, iter, ifs, 0⟩] scope pos) scope X.env (firstIterPos [⟨tg, iter, ifs, 0⟩] pos) newDict false (eval iter X.env) (some (assign (.Name y py) X.env))) _ _ s
  have h : tDc wi g tt tk tv (own.map (·.2)) σ H (fun x H1 => gName i x σ H1 D.nx) := h
  refine wpAny_bind (thn (dc_core (Qf := fun _ s' => SP X pins D .next s') hc hN I hi ok hg ht hk he hs h fun L C s' m H' I' q hn f => ?_) fun _ s' hq => wpAny_pure (wpAny_pure hq))
  show wpAny _ _ (assign (.Name y py) X.env (.ref L)) _ _ _
  refine wpAny_assign_Name (store_ok2 (v := V.ref L) I' hN hy (.inl hyl) rfl (fun s2 I2 ⟨a, sb, ha⟩ => ?_) (.inr hyl))
  obtain ⟨f0, f1, f2, f3, f4, f5⟩ := f
  have haC : C ≠ a := by
    rcases ha with z | z
    · rw [z]; exact f1
    · exact fun e => f4 y a z e.symm
  refine ⟨m, hn.sameBut sb haC, fun h3 sb3 => ?_⟩
  exact ⟨_, H', I2.turned (t' := s2.toks) (fun b o hb e => (sb3.2 b hb).trans e) f0 f1 f3 f4 f5, q⟩
theorem dc_it {J : It} {n : Nat} {G : Hp → Prop} {Y : Nat → Hp → V → Hp → Prop} (w : Walk J n G Y) {g : TG} {tt : TT} {tk tv : TE} {vs : List Nat} {σ : L2.St} {H1 : Hp} {D : Addr} {Qd : Hp → Prop} (Pv : Nat → Hp → Prop) (h0 : Pv 0 (L2.upd H1 D (.dK []))) (hG : ∀ i H, i ≤ n → Pv i H → G H)
    (hs : ∀ i x H H', i < n → Pv i H → Y i H x H' → g x (wipe σ vs) H' fun σ2 H2 => wipe σ2 vs = wipe σ vs ∧ tt σ2 H2 fun b H3 =>
      if b = true then tk σ2 H3 fun y H4 => tv σ2 H4 fun z H5 => ∃ kvs k, y = kV k ∧ H5 D = some (.dK kvs) ∧ kvs.length < sizeLine ∧ Pv (i + 1) (L2.upd H5 D (.dK (putK kvs k z))) else Pv (i + 1) H3) (hd : ∀ H, Pv n H → Qd H) :
    ∃ W : Nat → Nat → Hp → Prop, (∃ m, W 0 m (L2.upd H1 D (.dK []))) ∧ ∀ i m H, W i m H →
      (J.stop i H ∧ Qd H) ∨ (J.go i H ∧ ∃ Nx : Hp → Prop, (∀ H', Nx H' → ∃ m', m' < m ∧ W (i + 1) m' H') ∧ ∀ x H', J.yld i H x H' → g x (wipe σ vs) H' fun σ2 H2 => wipe σ2 vs = wipe σ vs ∧ tt σ2 H2 fun b H3 =>
        if b = true then tk σ2 H3 fun y H4 => tv σ2 H4 fun z H5 => ∃ kvs k, y = kV k ∧ H5 D = some (.dK kvs) ∧ kvs.length < sizeLine ∧ Nx (L2.upd H5 D (.dK (putK kvs k z))) else Nx H3) := by
  refine ⟨fun i m H => m = n - i ∧ i ≤ n ∧ Pv i H, ⟨n, by simp, Nat.zero_le _, h0⟩, ?_⟩
  rintro i m H ⟨rfl, hi, p⟩
  have q := hG i H hi p
  by_cases hlt : i < n
  · refine .inr ⟨w.goes i H hlt q, Pv (i + 1), fun H' p' => ⟨n - (i + 1), by omega, rfl, hlt, p'⟩, fun x H' y => hs i x H H' hlt p (w.yields i H x H' hlt q y)⟩
  · have e : i = n := by omega
    subst e
    exact .inl ⟨w.stops H q, hd H p⟩
end
/-! ### fields by names -/
def Has (fs l : List (Str × V)) : Prop := ∀ p ∈ l, fs.lookup p.1 = some p.2
theorem Has.put {fs l : List (Str × V)} (h : Has fs l) (f : Str) (y : V) (n : (l.map (·.1)).all (fun k => decide (k ≠ f)) = true) : Has (putF f y fs) ((f, y) :: l) := fun p m => by
  rw [lookup_putF]
  rcases List.mem_cons.mp m with e | m
  · rw [e, if_pos rfl]
  · rw [if_neg (of_decide_eq_true (List.all_eq_true.mp n p.1 (List.mem_map.mpr ⟨p, m, rfl⟩)))]
    exact h p m
theorem Has.at_ {fs l : List (Str × V)} (h : Has fs l) (i : Nat) {k : Str} {v : V} (e : l[i]? = some (k, v)) : fs.lookup k = some v := h (k, v) (List.mem_of_getElem? e)
/-- a new instance at x as its fields come -/
structure Sf (H0 H : Hp) (x C dx : Addr) (fs l : List (Str × V)) : Prop where
  sx : SameX x H0 H
  at_ : H x = some (.ins C dx fs)
  len : fs.length ≤ l.length
  has : Has fs l
theorem Sf.nil {H : Hp} {x C dx : Addr} (h : H x = some (.ins C dx [])) : Sf H H x C dx [] [] := ⟨SameX.refl H x, h, Nat.le_refl _, fun _ m => nomatch m⟩
theorem Sf.new {H0 H H' : Hp} {x C dx : Addr} {fs l : List (Str × V)} (g : Sf H0 H x C dx fs l) (s : Same H H') : Sf H0 H' x C dx fs l := ⟨g.sx.trans (Same.x s x), s _ _ g.at_, g.len, g.has⟩
theorem Sf.put {H0 H : Hp} {x C dx : Addr} {fs l : List (Str × V)} (g : Sf H0 H x C dx fs l) (f : Str) (y : V) (n : (l.map (·.1)).all (fun k => decide (k ≠ f)) = true) : Sf H0 (L2.upd H x (.ins C dx (putF f y fs))) x C dx (putF f y fs) ((f, y) :: l) :=
  ⟨g.sx.trans SameX.upd, upd_same, Nat.le_trans (length_putF _ _ _) (Nat.succ_le_succ g.len), g.has.put f y n⟩
theorem Sf.lt {H0 H : Hp} {x C dx : Addr} {fs l : List (Str × V)} (g : Sf H0 H x C dx fs l) (hn : decide (l.length < 1000) = true) : fs.length < 1000 := Nat.lt_of_le_of_lt g.len (of_decide_eq_true hn)
/-- at x an instance with (at least) these fields -/
def IsO (C : Addr) (H : Hp) (x : Addr) (l : List (Str × V)) : Prop := ∃ dx fs, H x = some (.ins C dx fs) ∧ fs.length ≤ l.length ∧ Has fs l
theorem IsO.same {C : Addr} {H H' : Hp} {x : Addr} {l : List (Str × V)} (h : IsO C H x l) (s : Same H H') : IsO C H' x l := let ⟨dx, fs, e, k, q⟩ := h; ⟨dx, fs, s _ _ e, k, q⟩
theorem Sf.o {H0 H : Hp} {x C dx : Addr} {fs l : List (Str × V)} (g : Sf H0 H x C dx fs l) : IsO C H x l := ⟨dx, fs, g.at_, g.len, g.has⟩
section
variable {P : Program} {w : World} {K : PySem.W.Frag} {mg : Str → Option Value} {base : Heap}
/-! ### Site -/
def spSite (C : Addr) : Sp := fun vs H Q _ => ∃ (x dx a : Addr) (pc : V) (rs : List Cp), vs = [.ref x, .ref a, pc] ∧ H x = some (.ins C dx []) ∧ RowsAt H a rs ∧ rs.length ≤ 6 ∧ goodB rs = true ∧
  ∀ H' d, SameX x H H' → AboveAt H' d rs → IsO C H' x [("above", .ref d), ("piece", pc), ("copies", .ref a)] → Q .non H'
theorem scSi : FnScope ["self", "copies", "piece"] ["self", "copies", "piece"] (defScope s_Site___init__) := ⟨rfl, rfl, rfl, by decide +kernel, rfl, by decide +kernel, by decide +kernel⟩
theorem ok_site {f C g : Addr} {fd fdG : FuncData} (F : Fun K "__init__" "Site.__init__" s_Site___init__ f fd) (O : OC K mg "Site" C f fSi) (G : FnOk P w K mg base CX0 1 g fdG ["copies"] spAbove) (mgG : mg "above_of" = some (.ref g)) (kG : PySem.W.keepIn K (.ref g) = true) (bG : Binds K fdG ["copies"] []) :
    FnOk P w K mg base CX0 2 f fd ["self", "copies", "piece"] (spSite C) := by
  refine F.ok scSi (fun vs H Q E h => ?_) (fun cdv A outer s H vs Q E hr h => ?_)
  · obtain ⟨_, _, _, _, _, rfl, _⟩ := h
    rfl
  · obtain ⟨x, dx, a, pc, rs, rfl, hx, hR, h6, hg, h⟩ := h
    refine ⟨_, pss_cons (ps_fld (pv 0) (pv 1) rfl) (pss_cons (ps_fld (pv 0) (pv 2) rfl) (pss_one (ps_fld (pv 0) (pe_call G hr rfl mgG kG bG .nil pass0 (pa_cons (pv 1) pa_nil)) rfl))), ?_⟩
    have g0 := Sf.nil hx
    have no : ∀ {k : Str}, k ∈ fSi → NoAttr K C k := fun {k} m => O.no k m
    refine ⟨_, rfl, _, rfl, x, C, dx, _, rfl, g0.at_, O.cl, no (by decide), g0.lt (by rfl), ?_⟩
    have g1 := g0.put "copies" (.ref a) (by rfl)
    refine ⟨_, rfl, _, rfl, x, C, dx, _, rfl, g1.at_, O.cl, no (by decide), g1.lt (by rfl), ?_⟩
    have g2 := g1.put "piece" pc (by rfl)
    -- the rows stand: no row is the instance
    have hR2 : RowsAt (L2.upd (L2.upd H x (.ins C dx (putF "copies" (.ref a) []))) x (.ins C dx (putF "piece" pc (putF "copies" (.ref a) [])))) a rs := by
      obtain ⟨o, ts, h1, h2, h3⟩ := hR
      refine ⟨o, ts, g2.sx _ _ (ne_of h1 hx (by intro z; cases z)) h1, h2, paired_imp (fun t r e => g2.sx _ _ (ne_of e hx (by intro z; cases z)) e) h3⟩
    refine ⟨_, rfl, a, rs, rfl, hR2, h6, hg, fun H1 d s1 hd0 hd => ?_⟩
    have g3 := g2.new s1
    refine ⟨_, rfl, x, C, dx, _, rfl, g3.at_, O.cl, no (by decide), g3.lt (by rfl), ?_⟩
    have g4 := g3.put "above" (.ref d) (by rfl)
    refine h _ d g4.sx ?_ g4.o
    obtain ⟨us, h1, h2, h3⟩ := hd
    exact ⟨us, h1, by rw [upd_ne (ne_of h2 g3.at_ (by intro z; cases z))]; exact h2, paired_imp (fun u r e => by rw [upd_ne (ne_of e g3.at_ (by intro z; cases z))]; exact e) h3⟩
/-! ### Ask -/
def spAskI (C : Addr) : Sp := fun vs H Q _ => ∃ (x dx : Addr) (a b c d : V), vs = [.ref x, a, b, c, d] ∧ H x = some (.ins C dx []) ∧ ∀ H', SameX x H H' → Q .non H'
theorem scAs : FnScope ["self", "source", "sent", "only", "spans"] ["self", "source", "sent", "only", "spans"] (defScope s_Ask___init__) := ⟨rfl, rfl, rfl, by decide +kernel, rfl, by decide +kernel, by decide +kernel⟩
theorem ok_askI {f C : Addr} {fd : FuncData} (F : Fun K "__init__" "Ask.__init__" s_Ask___init__ f fd) (O : OC K mg "Ask" C f ["source", "sent", "only", "spans"]) : FnOk P w K mg base CX0 1 f fd ["self", "source", "sent", "only", "spans"] (spAskI C) := by
  refine F.ok scAs (fun vs H Q E h => ?_) (fun cdv A outer s H vs Q E hr h => ?_)
  · obtain ⟨_, _, _, _, _, _, rfl, _⟩ := h
    rfl
  · obtain ⟨x, dx, a, b, c, d, rfl, hx, h⟩ := h
    refine ⟨_, pss_cons (ps_fld (pv 0) (pv 1) rfl) (pss_cons (ps_fld (pv 0) (pv 2) rfl) (pss_cons (ps_fld (pv 0) (pv 3) rfl) (pss_one (ps_fld (pv 0) (pv 4) rfl)))), ?_⟩
    have no : ∀ {k : Str}, k ∈ (["source", "sent", "only", "spans"] : List Str) → NoAttr K C k := fun {k} m => O.no k m
    have g0 := Sf.nil hx
    refine ⟨_, rfl, _, rfl, x, C, dx, _, rfl, g0.at_, O.cl, no (by decide), g0.lt (by rfl), ?_⟩
    have g1 := g0.put "source" a (by rfl)
    refine ⟨_, rfl, _, rfl, x, C, dx, _, rfl, g1.at_, O.cl, no (by decide), g1.lt (by rfl), ?_⟩
    have g2 := g1.put "sent" b (by rfl)
    refine ⟨_, rfl, _, rfl, x, C, dx, _, rfl, g2.at_, O.cl, no (by decide), g2.lt (by rfl), ?_⟩
    have g3 := g2.put "only" c (by rfl)
    refine ⟨_, rfl, _, rfl, x, C, dx, _, rfl, g3.at_, O.cl, no (by decide), g3.lt (by rfl), ?_⟩
    exact h _ (g3.put "spans" d (by rfl)).sx
/-! ### State -/
abbrev fSta : List Str := ["site", "time", "upcoming", "asks", "told", "gone", "picture"]
structure StV where
  site : V
  time : Int
  up : Int
  asks : V
  told : V
  gone : V
  pic : V
def StV.l (z : StV) : List (Str × V) := [("picture", z.pic), ("gone", z.gone), ("told", z.told), ("asks", z.asks), ("upcoming", .int z.up), ("time", .int z.time), ("site", z.site)]
def spState (C : Addr) : Sp := fun vs H Q _ => ∃ (x dx : Addr) (z : StV), vs = [.ref x, z.site, .int z.time, .int z.up, z.asks, z.told, z.gone, z.pic] ∧ H x = some (.ins C dx []) ∧ ∀ H', SameX x H H' → IsO C H' x z.l → Q .non H'
abbrev pSta : List Str := ["self", "site", "time", "upcoming", "asks", "told", "gone", "picture"]
theorem scSta : FnScope pSta pSta (defScope s_State___init__) := ⟨rfl, rfl, rfl, by decide +kernel, rfl, by decide +kernel, by decide +kernel⟩
theorem ok_state {f C : Addr} {fd : FuncData} (F : Fun K "__init__" "State.__init__" s_State___init__ f fd) (O : OC K mg "State" C f fSta) : FnOk P w K mg base CX0 1 f fd pSta (spState C) := by
  refine F.ok scSta (fun vs H Q E h => ?_) (fun cdv A outer s H vs Q E hr h => ?_)
  · obtain ⟨_, _, _, rfl, _⟩ := h
    rfl
  · obtain ⟨x, dx, z, rfl, hx, h⟩ := h
    refine ⟨_, pss_cons (ps_fld (pv 0) (pv 1) rfl) (pss_cons (ps_fld (pv 0) (pv 2) rfl) (pss_cons (ps_fld (pv 0) (pv 3) rfl) (pss_cons (ps_fld (pv 0) (pv 4) rfl) (pss_cons (ps_fld (pv 0) (pv 5) rfl) (pss_cons (ps_fld (pv 0) (pv 6) rfl) (pss_one (ps_fld (pv 0) (pv 7) rfl))))))), ?_⟩
    have no : ∀ {k : Str}, k ∈ fSta → NoAttr K C k := fun {k} m => O.no k m
    have g0 := Sf.nil hx
    refine ⟨_, rfl, _, rfl, x, C, dx, _, rfl, g0.at_, O.cl, no (by decide), g0.lt (by rfl), ?_⟩
    have g1 := g0.put "site" z.site (by rfl)
    refine ⟨_, rfl, _, rfl, x, C, dx, _, rfl, g1.at_, O.cl, no (by decide), g1.lt (by rfl), ?_⟩
    have g2 := g1.put "time" (.int z.time) (by rfl)
    refine ⟨_, rfl, _, rfl, x, C, dx, _, rfl, g2.at_, O.cl, no (by decide), g2.lt (by rfl), ?_⟩
    have g3 := g2.put "upcoming" (.int z.up) (by rfl)
    refine ⟨_, rfl, _, rfl, x, C, dx, _, rfl, g3.at_, O.cl, no (by decide), g3.lt (by rfl), ?_⟩
    have g4 := g3.put "asks" z.asks (by rfl)
    refine ⟨_, rfl, _, rfl, x, C, dx, _, rfl, g4.at_, O.cl, no (by decide), g4.lt (by rfl), ?_⟩
    have g5 := g4.put "told" z.told (by rfl)
    refine ⟨_, rfl, _, rfl, x, C, dx, _, rfl, g5.at_, O.cl, no (by decide), g5.lt (by rfl), ?_⟩
    have g6 := g5.put "gone" z.gone (by rfl)
    refine ⟨_, rfl, _, rfl, x, C, dx, _, rfl, g6.at_, O.cl, no (by decide), g6.lt (by rfl), ?_⟩
    have g7 := g6.put "picture" z.pic (by rfl)
    exact h _ g7.sx g7.o
/-- State(..): a new one -/
theorem mkSt {C : Addr} {H : Hp} {y dy : Addr} {z : StV} {Q : VK} {E : XK} (hy : H y = none) (hdy : H dy = none) (k : ∀ H', Same H H' → IsO C H' y z.l → Q (.ref y) H') :
    spState C [.ref y, z.site, .int z.time, .int z.up, z.asks, z.told, z.gone, z.pic] (L2.upd (L2.upd H dy (.own y)) y (.ins C dy [])) (fun v H2 => v = .non ∧ Q (.ref y) H2) E :=
  ⟨y, dy, z, rfl, upd_same, fun H' s o => ⟨rfl, k H' (madeSame hy hdy s) o⟩⟩
def spLater (C : Addr) : Sp := fun vs H Q _ => ∃ (s : Addr) (n : Int) (z : StV), vs = [.ref s, .int n] ∧ IsO C H s z.l ∧ ∀ H' y, Same H H' → H y = none → IsO C H' y { z with time := z.time + n }.l → Q (.ref y) H'
theorem scLa : FnScope ["state", "many"] ["state", "many"] (defScope s_later) := ⟨rfl, rfl, rfl, by decide +kernel, rfl, by decide +kernel, by decide +kernel⟩
theorem ok_later {f C fS : Addr} {fd fdS : FuncData} (F : Fun K "later" "later" s_later f fd) (O : OC K mg "State" C fS fSta) (G : FnOk P w K mg base CX0 1 fS fdS pSta (spState C)) (b : Binds K fdS pSta []) : FnOk P w K mg base CX0 3 f fd ["state", "many"] (spLater C) := by
  refine F.ok scLa (fun vs H Q E h => ?_) (fun cdv A outer s H vs Q E hr h => ?_)
  · obtain ⟨_, _, _, rfl, _⟩ := h
    rfl
  · obtain ⟨s0, n, z, rfl, ⟨dx, fs, hs, hl, hh⟩, h⟩ := h
    have no : ∀ {k : Str}, k ∈ fSta → NoAttr K C k := fun {k} m => O.no k m
    refine ⟨_, pss_one (ps_ret (pe_make O.make G hr rfl O.mgC b .nil pass0 (pa_cons (pe_fld (pv 0) rfl) (pa_cons (pe_op op_add (pe_fld (pv 0) rfl) (pv 1)) (pa_cons (pe_fld (pv 0) rfl) (pa_cons (pe_fld (pv 0) rfl) (pa_cons (pe_fld (pv 0) rfl) (pa_cons (pe_fld (pv 0) rfl) (pa_cons (pe_fld (pv 0) rfl) pa_nil))))))))), ?_⟩
    refine ⟨_, rfl, s0, C, dx, fs, _, rfl, hs, O.cl, no (by decide), hh.at_ 6 rfl, ?_⟩
    refine ⟨_, rfl, s0, C, dx, fs, _, rfl, hs, O.cl, no (by decide), hh.at_ 5 rfl, _, rfl, _, _, rfl, rfl, ?_⟩
    refine ⟨_, rfl, s0, C, dx, fs, _, rfl, hs, O.cl, no (by decide), hh.at_ 4 rfl, ?_⟩
    refine ⟨_, rfl, s0, C, dx, fs, _, rfl, hs, O.cl, no (by decide), hh.at_ 3 rfl, ?_⟩
    refine ⟨_, rfl, s0, C, dx, fs, _, rfl, hs, O.cl, no (by decide), hh.at_ 2 rfl, ?_⟩
    refine ⟨_, rfl, s0, C, dx, fs, _, rfl, hs, O.cl, no (by decide), hh.at_ 1 rfl, ?_⟩
    refine ⟨_, rfl, s0, C, dx, fs, _, rfl, hs, O.cl, no (by decide), hh.at_ 0 rfl, ?_⟩
    exact fun y dy hy hdy _ => mkSt (z := { z with time := z.time + n }) hy hdy fun H' s' o => h H' y s' hy o
def spWith (C : Addr) : Sp := fun vs H Q _ => ∃ (s : Addr) (u : Int) (a : V) (z : StV), vs = [.ref s, .int u, a] ∧ IsO C H s z.l ∧ ∀ H' y, Same H H' → H y = none → IsO C H' y { z with up := u, asks := a }.l → Q (.ref y) H'
theorem scWi : FnScope ["state", "upcoming", "asks"] ["state", "upcoming", "asks"] (defScope s__with_asks) := ⟨rfl, rfl, rfl, by decide +kernel, rfl, by decide +kernel, by decide +kernel⟩
theorem ok_with {f C fS : Addr} {fd fdS : FuncData} (F : Fun K "_with_asks" "_with_asks" s__with_asks f fd) (O : OC K mg "State" C fS fSta) (G : FnOk P w K mg base CX0 1 fS fdS pSta (spState C)) (b : Binds K fdS pSta []) : FnOk P w K mg base CX0 3 f fd ["state", "upcoming", "asks"] (spWith C) := by
  refine F.ok scWi (fun vs H Q E h => ?_) (fun cdv A outer s H vs Q E hr h => ?_)
  · obtain ⟨_, _, _, _, rfl, _⟩ := h
    rfl
  · obtain ⟨s0, u, a, z, rfl, ⟨dx, fs, hs, hl, hh⟩, h⟩ := h
    have no : ∀ {k : Str}, k ∈ fSta → NoAttr K C k := fun {k} m => O.no k m
    refine ⟨_, pss_one (ps_ret (pe_make O.make G hr rfl O.mgC b .nil pass0 (pa_cons (pe_fld (pv 0) rfl) (pa_cons (pe_fld (pv 0) rfl) (pa_cons (pv 1) (pa_cons (pv 2) (pa_cons (pe_fld (pv 0) rfl) (pa_cons (pe_fld (pv 0) rfl) (pa_cons (pe_fld (pv 0) rfl) pa_nil))))))))), ?_⟩
    refine ⟨_, rfl, s0, C, dx, fs, _, rfl, hs, O.cl, no (by decide), hh.at_ 6 rfl, ?_⟩
    refine ⟨_, rfl, s0, C, dx, fs, _, rfl, hs, O.cl, no (by decide), hh.at_ 5 rfl, ?_⟩
    refine ⟨_, rfl, _, rfl, ?_⟩
    refine ⟨_, rfl, s0, C, dx, fs, _, rfl, hs, O.cl, no (by decide), hh.at_ 2 rfl, ?_⟩
    refine ⟨_, rfl, s0, C, dx, fs, _, rfl, hs, O.cl, no (by decide), hh.at_ 1 rfl, ?_⟩
    refine ⟨_, rfl, s0, C, dx, fs, _, rfl, hs, O.cl, no (by decide), hh.at_ 0 rfl, ?_⟩
    exact fun y dy hy hdy _ => mkSt (z := { z with up := u, asks := a }) hy hdy fun H' s' o => h H' y s' hy o
end
end Sps
set_option Elab.async false
set_option linter.all false
set_option maxRecDepth 100000
set_option maxHeartbeats 4000000
/-! States made from states. -/
namespace Sps
open PySem PySem.Spec PyProof.Rows L2
def AskAt (H : Hp) (d : Addr) (ns : List Int) : Prop := ∃ kvs : List (Key × V), H d = some (.dK kvs) ∧ kvs.map (·.1) = ns.map Sum.inl
theorem AskAt.same {H H' : Hp} {d : Addr} {ns : List Int} (h : AskAt H d ns) (s : Same H H') : AskAt H' d ns := let ⟨kvs, e, q⟩ := h; ⟨kvs, s _ _ e, q⟩
theorem nodup_inl {ns : List Int} (h : ns.Nodup) : (ns.map (Sum.inl : Int → Key)).Nodup := List.Pairwise.map _ (fun a b q z => q (Sum.inl.inj z)) h
theorem valV_nd : ∀ {kvs : List (Key × V)} {i : Nat} {k : Key} {v : V}, (kvs.map (·.1)).Nodup → kvs[i]? = some (k, v) → valV kvs k = some v
  | [], i, _, _, _, h => by cases h
  | p :: r, 0, k, v, _, h => by
    have e := Option.some.inj h
    rw [e]
    exact valV_pos rfl
  | p :: r, i + 1, k, v, nd, h => by
    have h2 : r[i]? = some (k, v) := h
    rw [List.map_cons, List.nodup_cons] at nd
    rw [valV_neg (show ¬ p.1 = k from fun e => nd.1 (by rw [e]; exact List.mem_map.mpr ⟨_, List.mem_of_getElem? h2, rfl⟩))]
    exact valV_nd nd.2 h2
theorem valV_out {kvs : List (Key × V)} {k : Key} (h : k ∉ kvs.map (·.1)) : valV kvs k = none := by
  induction kvs with
  | nil => rfl
  | cons p r ih =>
    rw [List.map_cons] at h
    rw [valV_neg (fun e => h (by rw [e]; exact List.mem_cons_self))]
    exact ih fun m => h (List.mem_cons_of_mem _ m)
def keepK (n : Int) (kvs : List (Key × V)) : List (Key × V) := kvs.filter fun p => decide (p.1 ≠ Sum.inl n)
theorem keepK_keys {kvs : List (Key × V)} {ns : List Int} (n : Int) (h : kvs.map (·.1) = ns.map Sum.inl) : (keepK n kvs).map (·.1) = (ns.filter fun m => decide (m ≠ n)).map Sum.inl := by
  unfold keepK
  induction kvs generalizing ns with
  | nil =>
    cases ns with
    | nil => rfl
    | cons _ _ => cases h
  | cons p r ih =>
    cases ns with
    | nil => cases h
    | cons m ns =>
      rw [List.map_cons, List.map_cons] at h
      injection h with h1 h2
      have e : decide (p.1 ≠ Sum.inl n) = decide (m ≠ n) := decide_eq_decide.mpr (by rw [h1]; exact ⟨fun q z => q (by rw [z]), fun q z => q (Sum.inl.inj z)⟩)
      rw [List.filter_cons, List.filter_cons, e]
      by_cases q : decide (m ≠ n) = true
      · rw [if_pos q, if_pos q, List.map_cons, List.map_cons, h1, ih h2]
      · rw [if_neg q, if_neg q, ih h2]
section
variable {P : Program} {w : World} {K : PySem.W.Frag} {mg : Str → Option Value} {base : Heap}
def spFirst (C CSi : Addr) : Sp := fun vs H Q _ => ∃ (st dS : Addr) (fs : List (Str × V)) (pc : V), vs = [.ref st] ∧ H st = some (.ins CSi dS fs) ∧ fs.lookup ("piece" : Str) = some pc ∧
  ∀ H' y d1 d2 d3 pic, Same H H' → H y = none → AskAt H' d1 [] → H' d2 = some (.dK []) → IsO C H' y (StV.l ⟨.ref st, 0, 0, .ref d1, .ref d2, .ref d3, .ref pic⟩) → Q (.ref y) H'
theorem scFs : FnScope ["site"] ["site"] (defScope s_first_state) := ⟨rfl, rfl, rfl, by decide +kernel, rfl, by decide +kernel, by decide +kernel⟩
theorem ok_first {f C fS CP fP CSi fSi_ : Addr} {fd fdS fdP : FuncData} (F : Fun K "first_state" "first_state" s_first_state f fd) (O : OC K mg "State" C fS fSta) (G : FnOk P w K mg base CX0 1 fS fdS pSta (spState C)) (b : Binds K fdS pSta [])
    (OP : OC K mg "Picture" CP fP fPi) (GP : FnOk P w K mg base CX0 5 fP fdP ["self", "site", "rows"] (spPic CP CSi fSi_)) (bP : Binds K fdP ["self", "site", "rows"] []) : FnOk P w K mg base CX0 7 f fd ["site"] (spFirst C CSi) := by
  refine F.ok scFs (fun vs H Q E h => ?_) (fun cdv A outer s H vs Q E hr h => ?_)
  · obtain ⟨_, _, _, _, rfl, _⟩ := h
    rfl
  · obtain ⟨st, dS, fs, pc, rfl, hst, hpc, h⟩ := h
    have hr2 : Room 2 _ := hr.mono (by decide)
    refine ⟨_, pss_one (ps_ret (pe_make O.make G hr2 rfl O.mgC b .nil pass0 (pa_cons (pv 0) (pa_cons pe_int (pa_cons pe_int (pa_cons pe_dnewK (pa_cons pe_dnewK (pa_cons pe_dnewK
      (pa_cons (pe_make OP.make GP hr rfl OP.mgC bP .nil pass0 (pa_cons (pv 0) (pa_cons (pe_tup pa_nil) pa_nil))) pa_nil))))))))), ?_⟩
    refine ⟨_, rfl, fun d1 hd1 d2 hd2 d3 hd3 => ?_⟩
    have s1 := Same.upd (o := .dK []) hd1
    have s2 := Same.upd' (o := .dK []) s1 hd2
    have s3 := Same.upd' (o := .dK []) s2 hd3
    have e1 : (L2.upd (L2.upd (L2.upd H d1 (.dK [])) d2 (.dK [])) d3 (.dK [])) d1 = some (.dK []) := Same.upd hd3 _ _ (Same.upd hd2 _ _ upd_same)
    have e2 : (L2.upd (L2.upd (L2.upd H d1 (.dK [])) d2 (.dK [])) d3 (.dK [])) d2 = some (.dK []) := Same.upd hd3 _ _ upd_same
    refine ⟨_, rfl, (by show 0 ≤ sizeLine; decide), fun t ht => ?_⟩
    have s4 := Same.upd' (o := .tup []) s3 ht
    intro x dx hx hdx nxd
    have nst := ne_of_none (s4 _ _ hst) hx
    have nst2 := ne_of_none (s4 _ _ hst) hdx
    have ntx := ne_of_none (show (L2.upd _ t (.tup [])) t = some (.tup []) from upd_same) hx
    have ntd := ne_of_none (show (L2.upd _ t (.tup [])) t = some (.tup []) from upd_same) hdx
    refine ⟨x, dx, st, dS, t, fs, pc, rfl, upd_same, by rw [upd_ne nst, upd_ne nst2]; exact s4 _ _ hst, nst, hpc, by rw [upd_ne ntx, upd_ne ntd]; exact upd_same, fun H1 s5 => ⟨rfl, ?_⟩⟩
    have sM := madeSame hx hdx s5
    have s6 := s4.trans sM
    intro y dy hy hdy _
    refine mkSt (z := ⟨.ref st, 0, 0, .ref d1, .ref d2, .ref d3, .ref x⟩) hy hdy fun H' s7 o => ?_
    exact h H' y d1 d2 d3 x (s6.trans s7) (s6.free hy) ⟨[], s7 _ _ (sM _ _ (Same.upd ht _ _ e1)), rfl⟩ (s7 _ _ (sM _ _ (Same.upd ht _ _ e2))) o
/-! ### an ask that is closed -/
def spClosed (C : Addr) : Sp := fun vs H Q _ => ∃ (s d : Addr) (n : Int) (z : StV) (ns : List Int), vs = [.ref s, .int n] ∧ IsO C H s z.l ∧ z.asks = .ref d ∧ AskAt H d ns ∧ ns.Nodup ∧ ns.length ≤ 1000 ∧
  ∀ H' y d', Same H H' → H y = none → AskAt H' d' (ns.filter fun m => decide (m ≠ n)) → IsO C H' y { z with asks := .ref d' }.l → Q (.ref y) H'
abbrev nCl : List Str := ["state", "number", "asks", "other"]
theorem scCl : FnScope nCl ["state", "number"] (defScope s__closed) := ⟨rfl, rfl, rfl, by decide +kernel, rfl, by decide +kernel, by decide +kernel⟩
theorem ok_closed {f g C fS : Addr} {fd fdG : FuncData} (F : Fun K "_closed" "_closed" s__closed f fd) (O : OC K mg "State" C fS fSta) (G : FnOk P w K mg base CX0 3 g fdG ["state", "upcoming", "asks"] (spWith C)) (mgG : mg "_with_asks" = some (.ref g)) (kG : PySem.W.keepIn K (.ref g) = true) (bG : Binds K fdG ["state", "upcoming", "asks"] []) :
    FnOk P w K mg base CX0 4 f fd ["state", "number"] (spClosed C) := by
  refine F.ok scCl (fun vs H Q E h => ?_) (fun cdv A outer s H vs Q E hr h => ?_)
  · obtain ⟨_, _, _, _, _, rfl, _⟩ := h
    rfl
  · obtain ⟨s0, d, n, z, ns, rfl, hs, ez, ⟨kvs, hd, hk⟩, nd, hl, h⟩ := h
    have hu := hu_of hr
    have no : ∀ {k : Str}, k ∈ fSta → NoAttr K C k := fun {k} m => O.no k m
    refine ⟨_, pss_cons (ps_lock (ps_setDc (i := 2) (own := [("other", 3)]) (g := gName 3) (tv := tDGet (tFld K (tVar 0) "asks") (tVar 3)) rfl scCl.nd rfl rfl (sw_trueD rfl rfl rfl (by decide +kernel)) (pi_keys (pe_fld (pv 0) rfl)) (blkOk_by (own := [("other", 3)]) (N := nCl) (sc := defScope s__closed) (by decide +kernel))
        (fun _ _ _ _ _ => pg_name (i := 3) scCl.nd rfl (Or.inl rfl)) (fun _ _ _ _ _ => pts_one (pt_cmpR op_ne (pv 3) (pv 1) (nomark _))) (fun _ _ _ _ _ => pv 3) (fun _ _ _ _ _ => pe_dget hu (pe_fld (pv 0) rfl) (pv 3) (fun _ _ => rfl))))
      (pss_one (ps_ret (pe_call G hr rfl mgG kG bG .nil pass0 (pa_cons (pv 0) (pa_cons (pe_fld (pv 0) rfl) (pa_cons (pv 2) pa_nil)))))), ?_⟩
    obtain ⟨dx, fs, hso, hfl, hh⟩ := hs
    have nds : d ≠ s0 := ne_of hd hso (by intro z; cases z)
    have ha : fs.lookup ("asks" : Str) = some (.ref d) := by rw [← ez]; exact hh.at_ 3 rfl
    have ndk : (kvs.map (·.1)).Nodup := by rw [hk]; exact nodup_inl nd
    have hkl : kvs.length = ns.length := by
      have e := congrArg List.length hk
      rwa [List.length_map, List.length_map] at e
    refine ⟨d, _, hd, trivial, fun od => ?_⟩
    have hsL : (L2.upd H d (.frz od (.dK kvs))) s0 = some (.ins C dx fs) := by rw [upd_ne nds.symm]; exact hso
    refine ⟨_, rfl, s0, C, dx, fs, _, rfl, hsL, O.cl, no (by decide), ha, d, od, rfl, .inl ⟨kvs, upd_same, fun D hD => ?_⟩⟩
    have nDd : D ≠ d := fun e => by rw [e, upd_same] at hD; cases hD
    refine dc_it (walk_keys (d := d) (o := od) (kvs := kvs)) (fun i H' => Same (L2.upd H d (.frz od (.dK kvs))) H' ∧ H' D = some (.dK (keepK n (kvs.take i)))) ⟨Same.upd hD, upd_same⟩ (fun i H' _ p => p.1 _ _ upd_same) (fun i x H1 H2 hi p y => ?_) (fun H1 p => ?_)
    · obtain ⟨sL, hDv⟩ := p
      obtain ⟨rfl, k, v, hkv, rfl⟩ := y
      obtain ⟨m, ek⟩ : ∃ m : Int, k = Sum.inl m := by
        have e1 : (kvs.map (·.1))[i]? = some k := by rw [List.getElem?_map, hkv]; rfl
        rw [hk, List.getElem?_map] at e1
        cases q : ns[i]? with
        | none => rw [q] at e1; cases e1
        | some m => rw [q] at e1; exact ⟨m, (Option.some.inj e1).symm⟩
      subst ek
      have tk : kvs.take (i + 1) = kvs.take i ++ [(Sum.inl m, v)] := by rw [List.take_succ, hkv]; rfl
      refine ⟨rfl, _, rfl, _, rfl, rfl, _, rfl, ?_⟩
      by_cases q : m = n
      · refine iteNS (by rw [q]; rfl) ⟨sL, ?_⟩
        rw [hDv, tk]
        unfold keepK
        rw [List.filter_append, q]
        simp
      · refine iteNS_not (by intro z; exact q (V.int.inj z)) ?_
        refine ⟨_, rfl, _, rfl, s0, C, dx, fs, _, rfl, sL _ _ hsL, O.cl, no (by decide), ha, _, rfl, d, v, rfl, ?_, _, Sum.inl m, rfl, hDv, ?_, ?_⟩
        · have g := DGet.rd (k := Sum.inl m) (.inr ⟨od, sL _ _ upd_same⟩ : Rd H2 d (.dK kvs))
          rw [valV_nd ndk hkv] at g
          exact g
        · refine Nat.lt_of_le_of_lt (Nat.le_trans (List.length_filter_le _ _) (List.length_take_le _ _)) ?_
          exact Nat.lt_of_le_of_lt (by omega : i ≤ 1000) (by decide)
        · refine ⟨Same.put sL hD, ?_⟩
          have ho : Sum.inl m ∉ (keepK n (kvs.take i)).map (·.1) := fun mm => by
            obtain ⟨p, mp, ep⟩ := List.mem_map.mp mm
            have m2 : p ∈ kvs.take i := (List.mem_filter.mp mp).1
            rw [← List.take_append_drop (i + 1) kvs, tk, List.append_assoc, List.map_append, List.nodup_append] at ndk
            exact ndk.2.2 _ (List.mem_map.mpr ⟨p, m2, rfl⟩) (Sum.inl m) (by simp) ep
          rw [upd_same, putK_new _ (valV_out ho), tk]
          unfold keepK
          have hq : decide ((Sum.inl m : Key) ≠ Sum.inl n) = true := decide_eq_true fun z => q (Sum.inl.inj z)
          rw [List.filter_append, List.filter_cons, if_pos hq]
          rfl
    · obtain ⟨sL, hDv⟩ := p
      rw [List.take_of_length_le (Nat.le_refl _)] at hDv
      have sR := relock (od := od) hd sL
      refine ⟨sL _ _ upd_same, ?_⟩
      have hso2 := sR _ _ hso
      refine ⟨_, rfl, _, rfl, s0, C, dx, fs, _, rfl, hso2, O.cl, no (by decide), hh.at_ 4 rfl, _, rfl, s0, z.up, .ref D, z, rfl, ⟨dx, fs, hso2, hfl, hh⟩, fun H' y s' hy o => ?_⟩
      exact h H' y D (sR.trans s') (sR.free hy) ⟨_, s' _ _ (by rw [upd_ne nDd]; exact hDv), keepK_keys n hk⟩ o
/-! ### after an ask, after a loss -/
def spAfterAsk (C : Addr) : Sp := fun vs H Q _ => ∃ (s d : Addr) (a b c : V) (z : StV) (ns : List Int), vs = [.ref s, a, b, c] ∧ IsO C H s z.l ∧ z.asks = .ref d ∧ AskAt H d ns ∧ z.up ∉ ns ∧ ns.length ≤ 1000 ∧
  ∀ H' y d', Same H H' → H y = none → AskAt H' d' (ns ++ [z.up]) → IsO C H' y { z with time := z.time + 1, up := z.up + 1, asks := .ref d' }.l → Q (.ref y) H'
abbrev nAA : List Str := ["state", "source", "spans", "only", "asks"]
theorem scAA : FnScope nAA ["state", "source", "spans", "only"] (defScope s_after_ask) := ⟨rfl, rfl, rfl, by decide +kernel, rfl, by decide +kernel, by decide +kernel⟩
theorem ok_afterAsk {f g gL C fS CA fA : Addr} {fd fdG fdL fdA : FuncData} (F : Fun K "after_ask" "after_ask" s_after_ask f fd) (T : Names mg) (O : OC K mg "State" C fS fSta)
    (G : FnOk P w K mg base CX0 3 g fdG ["state", "upcoming", "asks"] (spWith C)) (mgG : mg "_with_asks" = some (.ref g)) (kG : PySem.W.keepIn K (.ref g) = true) (bG : Binds K fdG ["state", "upcoming", "asks"] [])
    (L : FnOk P w K mg base CX0 3 gL fdL ["state", "many"] (spLater C)) (mgL : mg "later" = some (.ref gL)) (kL : PySem.W.keepIn K (.ref gL) = true) (bL : Binds K fdL ["state", "many"] [])
    (OA : OC K mg "Ask" CA fA ["source", "sent", "only", "spans"]) (GA : FnOk P w K mg base CX0 1 fA fdA ["self", "source", "sent", "only", "spans"] (spAskI CA)) (bA : Binds K fdA ["self", "source", "sent", "only", "spans"] []) :
    FnOk P w K mg base CX0 4 f fd ["state", "source", "spans", "only"] (spAfterAsk C) := by
  refine F.ok scAA (fun vs H Q E h => ?_) (fun cdv A outer s H vs Q E hr h => ?_)
  · obtain ⟨_, _, _, _, _, _, _, rfl, _⟩ := h
    rfl
  · obtain ⟨s0, d, a, b, c, z, ns, rfl, ⟨dx, fs, hso, hfl, hh⟩, ez, ⟨kvs, hd, hk⟩, hno, hl, h⟩ := h
    have hu := hu_of hr
    have hr2 : Room 2 _ := hr.mono (by decide)
    have no : ∀ {k : Str}, k ∈ fSta → NoAttr K C k := fun {k} m => O.no k m
    have ha : fs.lookup ("asks" : Str) = some (.ref d) := by rw [← ez]; exact hh.at_ 3 rfl
    have hkl : kvs.length = ns.length := by
      have e := congrArg List.length hk
      rwa [List.length_map, List.length_map] at e
    refine ⟨_, pss_cons (ps_set (i := 4) scAA.nd rfl (Or.inl rfl) (pe_callTy call_dictD (by rfl) T.dict (by decide +kernel) (pa_cons (pe_fld (pv 0) rfl) pa_nil)))
      (pss_cons (ps_dput hu (pv 4) (pe_fld (pv 0) rfl) (pe_make OA.make GA hr2 rfl OA.mgC bA .nil pass0 (pa_cons (pv 1) (pa_cons (pe_op op_add (pe_fld (pv 0) rfl) pe_int) (pa_cons (pv 3) (pa_cons (pv 2) pa_nil))))) rfl)
      (pss_one (ps_ret (pe_call L hr rfl mgL kL bL .nil pass0 (pa_cons (pe_call G hr rfl mgG kG bG .nil pass0 (pa_cons (pv 0) (pa_cons (pe_op op_add (pe_fld (pv 0) rfl) pe_int) (pa_cons (pv 4) pa_nil)))) (pa_cons pe_int pa_nil)))))), ?_⟩
    refine ⟨_, rfl, s0, C, dx, fs, _, rfl, hso, O.cl, no (by decide), ha, d, kvs, rfl, .inl hd, fun p hp => ?_⟩
    have s1 := Same.upd (o := .dK kvs) hp
    refine ⟨_, rfl, _, rfl, s0, C, dx, fs, _, rfl, s1 _ _ hso, O.cl, no (by decide), hh.at_ 5 rfl, _, _, rfl, rfl, _, rfl, _, rfl, fun x dxx hx hdx nx => ?_⟩
    refine ⟨x, dxx, _, _, _, _, rfl, upd_same, fun H1 s2 => ⟨rfl, ?_⟩⟩
    have sM := madeSame hx hdx s2
    have s3 := s1.trans sM
    refine ⟨_, rfl, _, rfl, s0, C, dx, fs, _, rfl, s3 _ _ hso, O.cl, no (by decide), hh.at_ 4 rfl, p, _, rfl, DPut.k (k := Sum.inl z.up) (sM _ _ upd_same) (Nat.lt_of_le_of_lt (by omega : kvs.length ≤ 1000) (by decide)), ?_⟩
    have hout : Sum.inl z.up ∉ kvs.map (·.1) := fun m => by
      rw [hk] at m
      obtain ⟨q, mq, eq⟩ := List.mem_map.mp m
      exact hno (by rw [← Sum.inl.inj eq]; exact mq)
    rw [putK_new _ (valV_out hout)]
    have s4 : Same H (L2.upd H1 p (.dK (kvs ++ [(Sum.inl z.up, V.ref x)]))) := Same.put s3 hp
    have hso4 := s4 _ _ hso
    refine ⟨_, rfl, _, rfl, s0, C, dx, fs, _, rfl, hso4, O.cl, no (by decide), hh.at_ 4 rfl, _, _, rfl, rfl, _, rfl, s0, z.up + 1, .ref p, z, rfl, ⟨dx, fs, hso4, hfl, hh⟩, fun H2 y s5 hy o => ?_⟩
    refine ⟨y, 1, _, rfl, o, fun H' y2 s6 hy2 o2 => ?_⟩
    refine h H' y2 p (s4.trans (s5.trans s6)) ((s4.trans s5).free hy2) ⟨_, s6 _ _ (s5 _ _ upd_same), ?_⟩ o2
    rw [List.map_append, List.map_append, hk]
    rfl
def spAfterLoss (C : Addr) : Sp := fun vs H Q _ => ∃ (s d : Addr) (n : Int) (z : StV) (ns : List Int), vs = [.ref s, .int n] ∧ IsO C H s z.l ∧ z.asks = .ref d ∧ AskAt H d ns ∧ ns.Nodup ∧ ns.length ≤ 1000 ∧
  ∀ H' y d', Same H H' → H y = none → AskAt H' d' (ns.filter fun m => decide (m ≠ n)) → IsO C H' y { z with time := z.time + 1, asks := .ref d' }.l → Q (.ref y) H'
theorem scAL : FnScope ["state", "number"] ["state", "number"] (defScope s_after_loss) := ⟨rfl, rfl, rfl, by decide +kernel, rfl, by decide +kernel, by decide +kernel⟩
theorem ok_afterLoss {f g gL C : Addr} {fd fdG fdL : FuncData} (F : Fun K "after_loss" "after_loss" s_after_loss f fd)
    (G : FnOk P w K mg base CX0 4 g fdG ["state", "number"] (spClosed C)) (mgG : mg "_closed" = some (.ref g)) (kG : PySem.W.keepIn K (.ref g) = true) (bG : Binds K fdG ["state", "number"] [])
    (L : FnOk P w K mg base CX0 3 gL fdL ["state", "many"] (spLater C)) (mgL : mg "later" = some (.ref gL)) (kL : PySem.W.keepIn K (.ref gL) = true) (bL : Binds K fdL ["state", "many"] []) :
    FnOk P w K mg base CX0 5 f fd ["state", "number"] (spAfterLoss C) := by
  refine F.ok scAL (fun vs H Q E h => ?_) (fun cdv A outer s H vs Q E hr h => ?_)
  · obtain ⟨_, _, _, _, _, rfl, _⟩ := h
    rfl
  · obtain ⟨s0, d, n, z, ns, rfl, hs, ez, hA, nd, hl, h⟩ := h
    have hr3 : Room 3 _ := hr.mono (by decide)
    refine ⟨_, pss_one (ps_ret (pe_call L hr3 rfl mgL kL bL .nil pass0 (pa_cons (pe_call G hr rfl mgG kG bG .nil pass0 (pa_cons (pv 0) (pa_cons (pv 1) pa_nil))) (pa_cons pe_int pa_nil)))), ?_⟩
    refine ⟨_, rfl, _, rfl, s0, d, n, z, ns, rfl, hs, ez, hA, nd, hl, fun H1 y d' s1 hy hA1 o1 => ?_⟩
    exact ⟨y, 1, _, rfl, o1, fun H' y2 s2 hy2 o2 => h H' y2 d' (s1.trans s2) (s1.free hy2) (hA1.same s2) o2⟩
end
end Sps
set_option Elab.async false
set_option linter.all false
set_option maxRecDepth 100000
set_option maxHeartbeats 4000000
/-! spans: pairs, their joining, the class. -/
namespace Sps
open PySem PySem.Spec PyProof.Rows L2
/-! ### data in the heap -/
abbrev TP := Addr × Int × Int
def rf (t : TP) : V := .ref t.1
def TPs (H : Hp) (ts : List TP) : Prop := ∀ t ∈ ts, H t.1 = some (.tup [.int t.2.1, .int t.2.2])
def prs (ts : List TP) : List Pr := ts.map (·.2)
theorem TPs.same {H H' : Hp} {ts : List TP} (h : TPs H ts) (s : Same H H') : TPs H' ts := fun t m => s _ _ (h t m)
theorem TPs.app {H : Hp} {ts us : List TP} (h : TPs H ts) (k : TPs H us) : TPs H (ts ++ us) := fun t m => (List.mem_append.mp m).elim (h t) (k t)
theorem TPs.one {H : Hp} {t : TP} (h : H t.1 = some (.tup [.int t.2.1, .int t.2.2])) : TPs H [t] := fun u m => by rw [List.mem_singleton.mp m]; exact h
theorem TPs.nil {H : Hp} : TPs H [] := fun _ m => by cases m
theorem prs_app {ts us : List TP} : prs (ts ++ us) = prs ts ++ prs us := List.map_append
theorem prs_mem {ts : List TP} {t : TP} (h : t ∈ ts) : t.2 ∈ prs ts := List.mem_map.mpr ⟨t, h, rfl⟩
/-- a tuple of pairs stands at a -/
def PT (H : Hp) (a : Addr) (ps : List Pr) : Prop := ∃ ts, H a = some (.tup (ts.map rf)) ∧ TPs H ts ∧ prs ts = ps
theorem PT.same {H H' : Hp} {a : Addr} {ps : List Pr} (h : PT H a ps) (s : Same H H') : PT H' a ps := let ⟨ts, h1, h2, h3⟩ := h; ⟨ts, s _ _ h1, h2.same s, h3⟩
section
variable {P : Program} {w : World} {K : PySem.W.Frag} {mg : Str → Option Value} {base : Heap}
/-! ### _is_pair -/
def okB (i j : Int) : Bool := (decide (0 ≤ i) && decide (i ≤ 999999)) && (decide (i + 1 ≤ j) && decide (j ≤ 1000000))
theorem okB_iff {i j : Int} : okB i j = true ↔ okP (i, j) := by
  unfold okB okP
  simp only [Bool.and_eq_true, decide_eq_true_eq]
  omega
/-- what a value is as a pair -/
inductive PairV (K : PySem.W.Frag) (H : Hp) : V → Bool → Prop
  | no {x : V} {t : Value} (ty : TyX K H x t) (k : PySem.W.kitOne K t (.type "tuple") = some false) : PairV K H x false
  | len {a : Addr} {xs : List V} (h : H a = some (.tup xs)) (n : xs.length ≠ 2) : PairV K H (.ref a) false
  | pair {a : Addr} {i j : Int} (h : H a = some (.tup [.int i, .int j])) : PairV K H (.ref a) (okB i j)
  | fst {a : Addr} {x y : V} (h : H a = some (.tup [x, y])) (n : NoInt K H x) : PairV K H (.ref a) false
  | snd {a : Addr} {i : Int} {y : V} (h : H a = some (.tup [.int i, y])) (n : NoInt K H y) : PairV K H (.ref a) false
def spIsPair (K : PySem.W.Frag) : Sp := fun vs H Q _ => ∃ (x : V) (b : Bool), vs = [x] ∧ PairV K H x b ∧ Q (.bl b) H
theorem scP : FnScope ["value", "start", "stop"] ["value"] (defScope s__is_pair) := ⟨rfl, rfl, rfl, by decide +kernel, rfl, by decide +kernel, by decide +kernel⟩
theorem ok_isPair {f g : Addr} {fd fdG : FuncData} (F : Fun K "_is_pair" "_is_pair" s__is_pair f fd) (T : Names mg) (G : FnOk P w K mg base CX0 2 g fdG ["value", "least", "most"] (spWithin K)) (mgG : mg "is_within" = some (.ref g)) (kG : PySem.W.keepIn K (.ref g) = true) (bG : Binds K fdG ["value", "least", "most"] []) :
    FnOk P w K mg base CX0 3 f fd ["value"] (spIsPair K) := by
  refine F.ok scP (fun vs H Q E h => ?_) (fun cdv A outer s H vs Q E hr h => ?_)
  · obtain ⟨x, b, rfl, _⟩ := h
    rfl
  · obtain ⟨x, b, rfl, pvx, h⟩ := h
    obtain ⟨tE, mE⟩ := T.END
    refine ⟨_, pss_cons (ps_if (PW.pt (pw_or (pt_not (pt_val (pe_callB call_isi (by rfl) T.isinstance (by decide +kernel) (pa_cons (pv 0) (pa_cons (pe_bltn (v := .ty "tuple") (by rfl) T.tuple (by decide +kernel) rfl) pa_nil)))))
      (pw_or1 (pt_cmpR op_ne (pe_callB call_len_seq (by rfl) T.len PySem.boot_len (pa_cons (pv 0) pa_nil)) pe_int (nomark _))))) (pss_one (ps_ret pe_bl)) pss_nil)
      (pss_cons (ps_asg (pv 0) (pg_tup rfl (pgs_cons (pg_name (i := 1) scP.nd rfl (Or.inl rfl)) (pgs_cons (pg_name (i := 2) scP.nd rfl (Or.inl rfl)) pgs_nil))))
      (pss_one (ps_ret (pe_and (pe_call G hr rfl mgG kG bG .nil pass0 (pa_cons (pv 1) (pa_cons pe_int (pa_cons (pe_op op_sub (pe_glob (v := .int 1000000) rfl mE ⟨_, rfl⟩) pe_int) pa_nil))))
        (pe_one (pe_call G hr rfl mgG kG bG .nil pass0 (pa_cons (pv 2) (pa_cons (pe_op op_add (pv 1) pe_int) (pa_cons (pe_glob (v := .int 1000000) rfl mE ⟨_, rfl⟩) pa_nil))))))))), ?_⟩
    have tup : ∀ {a : Addr} {xs : List V}, H a = some (.tup xs) → TyX K H (.ref a) (.type "tuple") := fun e => .base (.tup e)
    cases pvx with
    | no ty k =>
      refine ⟨_, rfl, _, _, _, _, false, rfl, .ty "tuple", ty, k, false, rfl, ?_⟩
      exact iteT (iteT h)
    | len e n =>
      refine ⟨_, rfl, _, _, _, _, true, rfl, .ty "tuple", tup e, kit_tt K, true, rfl, ?_⟩
      refine iteF ?_
      refine ⟨_, rfl, _, _, rfl, .inr (tupAt e), rfl, _, rfl, ?_⟩
      refine iteNS_not ?_ h
      intro z
      have z2 := V.int.inj z
      omega
    | pair e =>
      rename_i a i j
      refine ⟨_, rfl, _, _, _, _, true, rfl, .ty "tuple", tup e, kit_tt K, true, rfl, ?_⟩
      refine iteF ?_
      refine ⟨_, rfl, _, _, rfl, .inr (tupAt e), rfl, _, rfl, ?_⟩
      refine iteNS rfl ?_
      refine ⟨_, rfl, a, _, rfl, tupAt e, rfl, _, _, rfl, _, _, rfl, rfl, ?_⟩
      refine ⟨_, rfl, _, _, rfl, rfl, _, _, _, rfl, .inl ⟨i, rfl, _, rfl, ?_⟩⟩
      refine ite2 (fun c => ?_) (fun c => ?_)
      · refine ⟨_, rfl, _, rfl, _, _, rfl, rfl, _, _, _, rfl, .inl ⟨j, rfl, ?_⟩⟩
        have eb : okB i j = (decide (i + 1 ≤ j) && decide (j ≤ 1000000)) := by
          unfold okB
          have c2 : (decide (0 ≤ i) && decide (i ≤ 1000000 - 1)) = true := c
          have c3 : (decide (0 ≤ i) && decide (i ≤ 999999)) = true := by simpa using c2
          rw [c3, Bool.true_and]
        rw [eb] at h
        exact h
      · have eb : okB i j = false := by
          unfold okB
          have c2 : ¬ (decide (0 ≤ i) && decide (i ≤ 1000000 - 1)) = true := c
          have c3 : (decide (0 ≤ i) && decide (i ≤ 999999)) = false := by simpa using c2
          rw [c3, Bool.false_and]
        rw [eb] at h
        exact h
    | fst e n =>
      rename_i a x y
      refine ⟨_, rfl, _, _, _, _, true, rfl, .ty "tuple", tup e, kit_tt K, true, rfl, ?_⟩
      refine iteF ?_
      refine ⟨_, rfl, _, _, rfl, .inr (tupAt e), rfl, _, rfl, ?_⟩
      refine iteNS rfl ?_
      refine ⟨_, rfl, a, _, rfl, tupAt e, rfl, _, _, rfl, _, _, rfl, rfl, ?_⟩
      refine ⟨_, rfl, _, _, rfl, rfl, _, _, _, rfl, .inr ⟨n, _, rfl, ?_⟩⟩
      exact iteF h
    | snd e n =>
      rename_i a i y
      refine ⟨_, rfl, _, _, _, _, true, rfl, .ty "tuple", tup e, kit_tt K, true, rfl, ?_⟩
      refine iteF ?_
      refine ⟨_, rfl, _, _, rfl, .inr (tupAt e), rfl, _, rfl, ?_⟩
      refine iteNS rfl ?_
      refine ⟨_, rfl, a, _, rfl, tupAt e, rfl, _, _, rfl, _, _, rfl, rfl, ?_⟩
      refine ⟨_, rfl, _, _, rfl, rfl, _, _, _, rfl, .inl ⟨i, rfl, _, rfl, ?_⟩⟩
      refine ite2 (fun c => ?_) (fun c => ?_)
      · refine ⟨_, rfl, _, rfl, _, _, rfl, rfl, _, _, _, rfl, .inr ⟨n, h⟩⟩
      · exact h
end
theorem TPs.put {H : Hp} {ts : List TP} {l : Addr} {xs : List V} {o : HO} (h : TPs H ts) (hl : H l = some (.lst xs)) : TPs (L2.upd H l o) ts := fun t m => by
  rw [upd_ne (ne_of (h t m) hl (by intro z; cases z))]
  exact h t m
theorem PT.put {H : Hp} {a l : Addr} {ps : List Pr} {xs : List V} {o : HO} (h : PT H a ps) (hl : H l = some (.lst xs)) : PT (L2.upd H l o) a ps := by
  obtain ⟨ts, h1, h2, h3⟩ := h
  refine ⟨ts, ?_, h2.put hl, h3⟩
  rw [upd_ne (ne_of h1 hl (by intro z; cases z))]
  exact h1
theorem Norm.len {ps : List Pr} (h : Norm ps) : ps.length ≤ 1000000 := by
  have a := h.size_ok.2
  have b : ∀ qs : List Pr, (∀ p ∈ qs, okP p) → (qs.length : Int) ≤ (qs.map fun p => p.2 - p.1).sum := by
    intro qs hq
    induction qs with
    | nil => exact Int.le_refl _
    | cons p qs ih =>
      have k := (hq p List.mem_cons_self).2.1
      have ih' := ih fun q m => hq q (List.mem_cons_of_mem _ m)
      rw [List.map_cons, List.sum_cons, List.length_cons]
      omega
  have c := b ps h.ok
  unfold size at a
  omega
theorem take_snoc {α : Type} {l : List α} {i : Nat} {x : α} (h : l[i]? = some x) : l.take (i + 1) = l.take i ++ [x] := by
  obtain ⟨hlt, e⟩ := List.getElem?_eq_some_iff.mp h
  rw [List.take_succ_eq_append_getElem hlt, e]
theorem take_all {α : Type} {l : List α} : l.take l.length = l := List.take_of_length_le (Nat.le_refl _)
theorem set_last {α : Type} {l : List α} {a b : α} : (l ++ [a]).set l.length b = l ++ [b] := by
  rw [List.set_append_right _ _ (Nat.le_refl _), Nat.sub_self]
  rfl
theorem ixN_last (n : Nat) : ixN (n + 1) (-1) = some n := by
  unfold ixN
  rw [if_neg (by omega), if_pos (by omega)]
  congr 1
  omega
/-- the pair at a place, as its ints tell -/
def kOf (H : Hp) (v : V) : Int × Int := match v with
  | .ref t => match H t with
    | some (.tup [.int i, .int j]) => (i, j)
    | _ => (0, 0)
  | _ => (0, 0)
theorem kOf_ref {H : Hp} {t : Addr} {i j : Int} (h : H t = some (.tup [.int i, .int j])) : kOf H (.ref t) = (i, j) := by
  show (match H t with | some (.tup [.int i, .int j]) => (i, j) | _ => ((0, 0) : Int × Int)) = (i, j)
  rw [h]
/-- what sorted makes of the pairs of a tuple -/
theorem sorted_tps {H : Hp} {ts : List TP} (h : TPs H ts) {ys : List V} (hs : SrtO.Srtd (ltP (kOf H)) ys) (hp : ys.Perm (ts.map rf)) :
    ∃ us : List TP, ys = us.map rf ∧ TPs H us ∧ (∀ p, p ∈ prs us ↔ p ∈ prs ts) ∧ us.length = ts.length ∧ us.Pairwise fun a b => a.2.1 ≤ b.2.1 := by
  let un : V → TP := fun v => match v with | .ref a => (a, kOf H v) | _ => (0, 0, 0)
  have hy : ∀ y ∈ ys, ∃ t ∈ ts, y = .ref t.1 := fun y m => by
    obtain ⟨t, mt, e⟩ := List.mem_map.mp (hp.mem_iff.mp m)
    exact ⟨t, mt, e.symm⟩
  have unt : ∀ t ∈ ts, un (.ref t.1) = t := fun t m => by
    show (t.1, kOf H (.ref t.1)) = t
    rw [kOf_ref (h t m)]
  refine ⟨ys.map un, ?_, ?_, ?_, ?_, ?_⟩
  · rw [List.map_map]
    have e : ∀ y ∈ ys, (rf ∘ un) y = y := fun y m => by
      obtain ⟨t, mt, e⟩ := hy y m
      subst e
      show rf (un (.ref t.1)) = _
      rw [unt t mt]
      rfl
    have e2 : ys.map (rf ∘ un) = ys.map id := List.map_congr_left e
    rw [e2, List.map_id]
  · intro u m
    obtain ⟨y, my, e⟩ := List.mem_map.mp m
    obtain ⟨t, mt, e2⟩ := hy y my
    subst e2
    rw [unt t mt] at e
    rw [← e]
    exact h t mt
  · intro p
    constructor
    · intro m
      obtain ⟨u, mu, e⟩ := List.mem_map.mp m
      obtain ⟨y, my, e2⟩ := List.mem_map.mp mu
      obtain ⟨t, mt, e3⟩ := hy y my
      subst e3
      rw [unt t mt] at e2
      subst e2
      rw [← e]
      exact prs_mem mt
    · intro m
      obtain ⟨t, mt, e⟩ := List.mem_map.mp m
      have my : V.ref t.1 ∈ ys := hp.mem_iff.mpr (List.mem_map.mpr ⟨t, mt, rfl⟩)
      refine List.mem_map.mpr ⟨t, List.mem_map.mpr ⟨_, my, unt t mt⟩, e⟩
  · rw [List.length_map, hp.length_eq, List.length_map]
  · refine List.pairwise_map.mpr ?_
    have hs' : ys.Pairwise fun x y => ltP (kOf H) y x = false := hs
    refine List.Pairwise.imp_of_mem (fun {x y} mx my hh => ?_) hs'
    obtain ⟨t, mt, e⟩ := hy x mx
    obtain ⟨u, mu, e2⟩ := hy y my
    subst e e2
    rw [unt t mt, unt u mu]
    have q : SrtO.lexB (kOf H (.ref u.1)) (kOf H (.ref t.1)) = false := hh
    rw [kOf_ref (h t mt), kOf_ref (h u mu)] at q
    have := SrtO.lexB_no.mp q
    show t.2.1 ≤ u.2.1
    have q1 : (u.2.1, u.2.2).1 = u.2.1 := rfl
    omega

section
variable {P : Program} {w : World} {K : PySem.W.Frag} {mg : Str → Option Value} {base : Heap}
/-! ### _merged -/
def spMerged : Sp := fun vs H Q _ => ∃ (a : Addr) (ps : List Pr), vs = [.ref a] ∧ PT H a ps ∧ (∀ p ∈ ps, okP p) ∧
  ∀ (H' : Hp) (p : Addr) (ms : List Pr), Same H H' → PT H' p ms → Norm ms → (∀ x, inS x ms ↔ inS x ps) → Q (.ref p) H'
theorem scM : FnScope ["pairs", "found", "start", "stop"] ["pairs"] (defScope s__merged) := ⟨rfl, rfl, rfl, by decide +kernel, rfl, by decide +kernel, by decide +kernel⟩
theorem inS_mem {x : Int} {ps qs : List Pr} (h : ∀ p, p ∈ ps ↔ p ∈ qs) : inS x ps ↔ inS x qs := ⟨fun ⟨p, m, k⟩ => ⟨p, (h p).mp m, k⟩, fun ⟨p, m, k⟩ => ⟨p, (h p).mpr m, k⟩⟩
theorem ok_merged {f : Addr} {fd : FuncData} (F : Fun K "_merged" "_merged" s__merged f fd) (T : Names mg) : FnOk P w K mg base CX0 2 f fd ["pairs"] spMerged := by
  refine F.ok scM (fun vs H Q E h => ?_) (fun cdv A outer s H vs Q E hr h => ?_)
  · obtain ⟨a, ps, rfl, _⟩ := h
    rfl
  · obtain ⟨a, ps, rfl, ⟨ts, hA, hT, rfl⟩, hok, k⟩ := h
    refine ⟨_, pss_cons (ps_set (i := 1) scM.nd rfl (Or.inl rfl) (pe_lst pa_nil))
      (pss_cons (ps_for PassesOwn.never rfl (pi_list (pe_callB call_sortT (by rfl) T.sorted (by decide +kernel) (pa_cons (pv 0) pa_nil)))
          (pg_tup rfl (pgs_cons (pg_name (i := 2) scM.nd rfl (Or.inl rfl)) (pgs_cons (pg_name (i := 3) scM.nd rfl (Or.inl rfl)) pgs_nil)))
        (pss_one (ps_if (PW.pt (pw_and (pt_truth (pv 1) (by intro _; rfl)) (pw_and1 (pt_cmpR op_le (pv 2) (pe_ix ix_tup (pe_ix ix_list (pv 1) (pe_un un_neg pe_int) (fun _ _ => rfl)) pe_int (fun _ _ => rfl)) (nomark _)))))
          (pss_one (ps_asg (pe_tup (pa_cons (pe_ix ix_tup (pe_ix ix_list (pv 1) (pe_un un_neg pe_int) (fun _ _ => rfl)) pe_int (fun _ _ => rfl))
              (pa_cons (pe_callB (call_max2 rfl) (by rfl) T.max (by decide +kernel) (pa_cons (pe_ix ix_tup (pe_ix ix_list (pv 1) (pe_un un_neg pe_int) (fun _ _ => rfl)) pe_int (fun _ _ => rfl)) (pa_cons (pv 3) pa_nil))) pa_nil)))
            (pg_sub (pv 1) (pe_un un_neg pe_int) set_list)))
          (pss_one (ps_expr (pe_bm PySem.F.plainAttrs_list PySem.F.slot_list_append PySem.F.type_list_append mt_append (pv 1) (pa_cons (pe_tup (pa_cons (pv 2) (pa_cons (pv 3) pa_nil))) pa_nil)))))))
      (pss_one (ps_ret (pe_callTy call_tuple_of (by rfl) T.tuple (by decide +kernel) (pa_cons (pv 1) pa_nil))))), ?_⟩
    refine ⟨Nat.zero_le _, fun l hl => ?_⟩
    have al : a ≠ l := ne_of_none hA hl
    have s1 : Same H (L2.upd H l (.lst [])) := Same.upd hl
    have T1 : TPs (L2.upd H l (.lst [])) ts := hT.same s1
    refine ⟨_, rfl, a, ts.map rf, kOf (L2.upd H l (.lst [])), rfl, tupAt (s1 _ _ hA), fun x mx => ?_, fun ys q hsr hpm hq => ?_⟩
    · obtain ⟨t, mt, e⟩ := List.mem_map.mp mx
      subst e
      refine ⟨t.1, rfl, ?_⟩
      show _ = some (HO.tup [.int (kOf _ (.ref t.1)).1, .int (kOf _ (.ref t.1)).2])
      rw [kOf_ref (T1 t mt)]
      exact T1 t mt
    obtain ⟨us, rfl, hU, hmem, hlen, hasc⟩ := sorted_tps T1 hsr hpm
    have s2 : Same (L2.upd H l (.lst [])) (L2.upd (L2.upd H l (.lst [])) q (.lst (us.map rf))) := Same.upd hq
    have lq : l ≠ q := ne_of_none (show (L2.upd H l (.lst [])) l = _ from upd_same) hq
    have hU2 : TPs (L2.upd (L2.upd H l (.lst [])) q (.lst (us.map rf))) us := hU.same s2
    have hn : H q = none := s1.free hq
    refine ⟨q, rfl, ⟨_, SqL.of upd_same⟩, for_list (K := K) (a := q) (xs := us.map rf) (fun i σ H' => ∃ (fs : List TP) (v2 v3 : Option V), σ = [some (.ref a), some (.ref l), v2, v3] ∧ Same H H' ∧ H' l = some (.lst (fs.map rf)) ∧ H' q = some (.lst (us.map rf)) ∧ TPs H' fs ∧ TPs H' us ∧
        Norm (prs fs) ∧ (∀ x, inS x (prs fs) ↔ inS x (prs (us.take i))) ∧ ∀ f ∈ prs fs, ∀ (j : Nat) u, i ≤ j → us[j]? = some u → f.1 ≤ u.2.1)
      ⟨[], none, none, rfl, s1.trans s2, s2 _ _ upd_same, upd_same, TPs.nil, hU2, Norm.nil, fun x => Iff.rfl, fun f m => by cases m⟩
      (fun i σ H' _ ⟨_, _, _, _, _, _, e, _⟩ => SqL.of e) ?_ ?_⟩
    · rintro i y σ H' hi ⟨fs, v2, v3, rfl, sH, hL, hQ, hF, hU', hN, hin, hle⟩
      rw [List.getElem?_map] at hi
      obtain ⟨u, hu, e⟩ : ∃ u, us[i]? = some u ∧ rf u = y := by
        cases e : us[i]? with
        | none => rw [e] at hi; cases hi
        | some u => rw [e] at hi; exact ⟨u, rfl, Option.some.inj hi⟩
      subst e
      have mu : u ∈ us := List.mem_of_getElem? hu
      have okU : okP u.2 := hok _ ((hmem _).mp (prs_mem mu))
      have M : Mrg (prs fs) (prs (us.take i)) u.2.1 := ⟨hN, hin, fun f m => hle f m i u (Nat.le_refl _) hu⟩
      have etk : prs (us.take (i + 1)) = prs (us.take i) ++ [u.2] := by rw [take_snoc hu, prs_app]; rfl
      have later : ∀ (j : Nat) v, i + 1 ≤ j → us[j]? = some v → u.2.1 ≤ v.2.1 := fun j v hj hv => by
        obtain ⟨hi1, e1⟩ := List.getElem?_eq_some_iff.mp hu
        obtain ⟨hj1, e2⟩ := List.getElem?_eq_some_iff.mp hv
        have := List.pairwise_iff_getElem.mp hasc i j hi1 hj1 (by omega)
        rw [e1, e2] at this
        exact this
      have fsz : fs.length ≤ 1000000 := by
        have := hN.len
        unfold prs at this
        rw [List.length_map] at this
        exact this
      have app : ∀ t : Addr, H' t = none → ∀ (ha : ∀ f ∈ prs fs, f.2 < u.2.1), _ := fun t ht ha =>
        (show ∃ (gs : List TP), L2.upd (L2.upd H' t (.tup [.int u.2.1, .int u.2.2])) l (.lst ((fs.map rf) ++ [.ref t])) l = some (.lst (gs.map rf)) ∧ TPs (L2.upd (L2.upd H' t (.tup [.int u.2.1, .int u.2.2])) l (.lst ((fs.map rf) ++ [.ref t]))) gs ∧ Mrg (prs gs) (prs (us.take (i + 1))) u.2.1 from by
          refine ⟨fs ++ [(t, u.2)], ?_, ?_, ?_⟩
          · rw [upd_same, List.map_append]; rfl
          · exact ((hF.same (Same.upd ht)).app (TPs.one (t := (t, u.2)) upd_same)).put ((Same.upd ht) _ _ hL)
          · rw [prs_app, etk]
            exact M.add okU ha)
      -- for start, stop
      refine ⟨u.1, _, rfl, tupAt (hU' u mu), rfl, _, _, rfl, _, _, rfl, rfl, ?_⟩
      have fin : ∀ (gs : List TP) (H2 : Hp), Same H' H2 ∨ True → Same H H2 → H2 l = some (.lst (gs.map rf)) → H2 q = some (.lst (us.map rf)) → TPs H2 gs → TPs H2 us → Mrg (prs gs) (prs (us.take (i + 1))) u.2.1 →
          ∃ (fs : List TP) (v2 v3 : Option V), [some (V.ref a), some (V.ref l), some (V.int u.2.1), some (V.int u.2.2)] = [some (.ref a), some (.ref l), v2, v3] ∧ Same H H2 ∧ H2 l = some (.lst (fs.map rf)) ∧ H2 q = some (.lst (us.map rf)) ∧ TPs H2 fs ∧ TPs H2 us ∧
            Norm (prs fs) ∧ (∀ x, inS x (prs fs) ↔ inS x (prs (us.take (i + 1)))) ∧ ∀ f ∈ prs fs, ∀ (j : Nat) u, i + 1 ≤ j → us[j]? = some u → f.1 ≤ u.2.1 :=
        fun gs H2 _ a1 a2 a3 a4 a5 m => ⟨gs, _, _, rfl, a1, a2, a3, a4, a5, m.norm, m.same, fun f hf j v hj hv => Int.le_trans (m.le f hf) (later j v hj hv)⟩
      rcases List.eq_nil_or_concat fs with e0 | ⟨gs, z, e0⟩
      · -- nothing was found so far
        subst e0
        refine ⟨_, rfl, false, .inl ⟨_, SqL.of hL, rfl⟩, ?_⟩
        refine iteF (iteF ?_)
        refine ⟨_, rfl, .inl ⟨rfl, _, SqL.of hL⟩, _, rfl, _, rfl, (by show 2 ≤ sizeLine; decide), fun t ht => ?_⟩
        refine ⟨l, _, _, rfl, rfl, (Same.upd ht) _ _ hL, by decide, ?_⟩
        obtain ⟨gs, g1, g2, g3⟩ := app t ht fun f m => by cases m
        have ht0 : H t = none := sH.free ht
        refine fin gs _ (.inr trivial) (Same.put (Same.upd' sH ht) hl) g1 ?_ g2 ?_ g3
        · rw [upd_ne lq.symm]
          exact (Same.upd ht) _ _ hQ
        · exact (hU'.same (Same.upd ht)).put ((Same.upd ht) _ _ hL)
      · subst e0
        rw [List.concat_eq_append] at *
        have hz : TPs H' [z] := fun t m => hF t (List.mem_append.mpr (.inr m))
        have hzt := hz z (List.mem_singleton.mpr rfl)
        have hLl : (gs ++ [z]).map rf = gs.map rf ++ [rf z] := by rw [List.map_append]; rfl
        have at1 : atI ((gs ++ [z]).map rf) (-1) = some (V.ref z.1) := by rw [hLl]; exact atI_last _ _
        refine ⟨_, rfl, true, .inl ⟨_, SqL.of hL, by rw [hLl]; simp⟩, ?_⟩
        refine iteT ?_
        refine ⟨_, rfl, _, rfl, 1, rfl, l, _, _, _, rfl, rfl, SqL.of hL, at1, z.1, _, _, _, rfl, rfl, tupAt hzt, atI_nat (j := 1) rfl, _, _, rfl, rfl, _, rfl, ?_⟩
        refine ite2 (fun c => ?_) (fun c => ?_)
        · have c' : u.2.1 ≤ z.2.2 := of_decide_eq_true c
          refine ⟨_, rfl, 1, rfl, l, _, _, _, rfl, rfl, SqL.of hL, at1, z.1, _, _, _, rfl, rfl, tupAt hzt, atI_nat (j := 0) rfl, ?_⟩
          refine ⟨_, rfl, 1, rfl, l, _, _, _, rfl, rfl, SqL.of hL, at1, z.1, _, _, _, rfl, rfl, tupAt hzt, atI_nat (j := 1) rfl, _, rfl, _, _, rfl, (by show 2 ≤ sizeLine; decide), fun t ht => ?_⟩
          refine ⟨_, rfl, 1, rfl, l, _, _, gs.length, rfl, rfl, (Same.upd ht) _ _ hL, ?_, ?_⟩
          · rw [List.length_map, List.length_append]
            exact ixN_last _
          · have ht0 : H t = none := sH.free ht
            have mg := M
            rw [prs_app] at mg
            have g3 := mg.grow okU c'
            refine fin (gs ++ [(t, z.2.1, if u.2.2 > z.2.2 then u.2.2 else z.2.2)]) _ (.inr trivial) (Same.put (Same.upd' sH ht) hl) ?_ ?_ ?_ ?_ ?_
            · rw [upd_same, hLl]
              have : (gs.map rf ++ [rf z]).set gs.length (V.ref t) = gs.map rf ++ [V.ref t] := by
                have := set_last (l := gs.map rf) (a := rf z) (b := V.ref t)
                rw [List.length_map] at this
                exact this
              rw [this, List.map_append]
              rfl
            · rw [upd_ne lq.symm]
              exact (Same.upd ht) _ _ hQ
            · have hG : TPs H' gs := fun t m => hF t (List.mem_append.mpr (.inl m))
              exact ((hG.same (Same.upd ht)).app (TPs.one (t := (t, z.2.1, if u.2.2 > z.2.2 then u.2.2 else z.2.2)) upd_same)).put ((Same.upd ht) _ _ hL)
            · exact (hU'.same (Same.upd ht)).put ((Same.upd ht) _ _ hL)
            · rw [prs_app, etk]
              exact g3
        · have c' : ¬ u.2.1 ≤ z.2.2 := fun z => c (decide_eq_true z)
          refine ⟨_, rfl, .inl ⟨rfl, _, SqL.of hL⟩, _, rfl, _, rfl, (by show 2 ≤ sizeLine; decide), fun t ht => ?_⟩
          refine ⟨l, _, _, rfl, rfl, (Same.upd ht) _ _ hL, ?_, ?_⟩
          · rw [List.length_map]
            exact Nat.lt_of_le_of_lt fsz (by decide)
          · obtain ⟨gs', g1, g2, g3⟩ := app t ht fun f m => by
              rw [prs_app] at m hN
              rcases List.mem_append.mp m with m | m
              · have a1 := hN.last_lt f m
                have a2 := (hN.ok z.2 (List.mem_append.mpr (.inr (List.mem_singleton.mpr rfl)))).2.1
                have a3 : f.2 < z.2.1 := a1
                omega
              · have e3 : f = z.2 := List.mem_singleton.mp m
                rw [e3]
                omega
            have ht0 : H t = none := sH.free ht
            refine fin gs' _ (.inr trivial) (Same.put (Same.upd' sH ht) hl) g1 ?_ g2 ?_ g3
            · rw [upd_ne lq.symm]
              exact (Same.upd ht) _ _ hQ
            · exact (hU'.same (Same.upd ht)).put ((Same.upd ht) _ _ hL)
    · rintro σ H' ⟨fs, v2, v3, rfl, sH, hL, hQ, hF, hU', hN, hin, hle⟩
      refine ⟨_, rfl, l, _, rfl, .inl ⟨SqL.of hL, fun p hp => ?_⟩⟩
      refine k _ p (prs fs) (Same.upd' sH hp) ⟨fs, upd_same, hF.same (Same.upd hp), rfl⟩ hN fun x => ?_
      rw [hin x, List.length_map, take_all]
      exact inS_mem hmem
end
/-! ### rules: C(), C( *y), by a promise of __init__ by position -/
section
variable {X : Cx} {CX : CXT} {k : Nat} {f C : Addr} {sp : Sp} {E : XK} {x : Str} {e : Expr} {te : TE} {p pos sp_ : Pos}
theorem pe_makeR0 (M : Mk X.K C f) (F : FnR X.prog X.w X.K X.mg X.base CX k f sp) (hr : Room (k + 1) X.A) (hg : Gl X x) (hm : X.mg x = some (.ref C)) (hx : Passes CX X E) (hdb : (x == ("__debug__" : Str)) = false := by decide) :
    PE X (.Call (.Name x p) [] [] pos) (StX.tMakeR C sp E tNil) := by
  refine ⟨fun pins s σ H Q I h => ?_⟩
  refine wpAny_Call_Name_kw (ld_glob I hg hm ?_ hdb)
  exact PySem.W.callWith_K0 I.kIn M.kp (StX.run_makeR (us := []) M F hr hx I .nil h)
theorem pe_makeS (M : Mk X.K C f) (F : FnR X.prog X.w X.K X.mg X.base CX k f sp) (hr : Room (k + 1) X.A) (hg : Gl X x) (hm : X.mg x = some (.ref C)) (hx : Passes CX X E) (he : PE X e te) (hd : (x == ("__debug__" : Str)) = false := by decide)
    (hst : starEach [.Starred e sp_] X.env = [(true, eval e X.env)] := by rfl) :
    PE X (.Call (.Name x p) [.Starred e sp_] [] pos) (StX.tMakeR C sp E fun σ H Q => te σ H fun y H1 => ∃ a xs, y = V.ref a ∧ (SqT X.K H1 a xs ∨ SqL X.K H1 a xs) ∧ Q xs H1) := by
  refine ⟨fun pins s σ H Q I h => ?_⟩
  refine wpAny_Call_Name_kw (ld_glob I hg hm ?_ hd)
  refine PySem.W.callWith_S (h₀ := X.base) I.ok.mod.kin M.kp (thn (he.run pins s σ H _ I h) fun v s1 ⟨y, H1, I1, ry, a, xs, ey, hxs, q⟩ => ?_) hst
  subst ey
  obtain rfl : v = Value.ref a := ry
  exact StX.star_any I1 hxs fun us s2 I2 rv => ⟨I2.kIn, StX.run_makeR M F hr hx I2 rv q⟩
end
/-! ### Spans in the heap -/
def flds (t : Addr) : List (Str × V) := [("pairs", .ref t)]
def SpAt (C : Addr) (H : Hp) (x : Addr) (ms : List Pr) : Prop := ∃ dx t, H x = some (.ins C dx (flds t)) ∧ PT H t ms
theorem SpAt.same {C : Addr} {H H' : Hp} {x : Addr} {ms : List Pr} (h : SpAt C H x ms) (s : Same H H') : SpAt C H' x ms := let ⟨dx, t, h1, h2⟩ := h; ⟨dx, t, s _ _ h1, h2.same s⟩
theorem look_pairs (t : Addr) : (flds t).lookup ("pairs" : Str) = some (.ref t) := by
  show List.lookup _ [_] = _
  rw [List.lookup_cons, beq_self_eq_true]
/-- a method of a class by its name -/
structure Op (K : PySem.W.Frag) (C : Addr) (m : Str) (g : Addr) : Prop where
  at_ : PySem.W.findIn K (.ref C) m = some (some (.ref g))
  fn : PySem.W.isFn K (.ref g) = true
structure SpCls (K : PySem.W.Frag) (mg : Str → Option Value) (C : Addr) : Prop where
  cl : Cls K C
  nP : NoAttr K C "pairs"
  mgC : mg "Spans" = some (.ref C)
  self : PySem.W.selfFirst K C = true
  nfC : PySem.W.notFirst K C (.ref C) = true
  nfT : PySem.W.notFirst K C (.type "tuple") = true
  nfI : PySem.W.notFirst K C (.type "int") = true
  kCC : PySem.W.kitOne K (.ref C) (.ref C) = some true
  kTC : PySem.W.kitOne K (.type "tuple") (.ref C) = some false
  kIC : PySem.W.kitOne K (.type "int") (.ref C) = some false
  ca : PySem.W.findIn K (.ref C) "__class__" = some (some (.builtin "object.__class__"))
  cn : PySem.W.specialIn K (.builtin "object.__class__") "__get__" = some (some (.builtin "getset_descriptor.__get__"))
  ct : PySem.W.takesIn K (.builtin "object.__class__") = some true
  cm : PySem.W.mroIn K C (.type "object") = some true

section
variable {P : Program} {w : World} {K : PySem.W.Frag} {mg : Str → Option Value} {base : Heap}
/-! ### __init__ -/
def spInit (C : Addr) : Sp := fun vs H Q _ => ∃ (x p : Addr) (ps : List Pr) (dx : Addr), vs = [.ref x, .ref p] ∧ H x = some (.ins C dx []) ∧ PT H p ps ∧ ps.length ≤ 4000000 ∧ (∀ q ∈ ps, okP q) ∧
  ∀ (H' : Hp) (ms : List Pr), SameX x H H' → SpAt C H' x ms → Norm ms → (∀ y, inS y ms ↔ inS y ps) → Q .non H'
/-- the same, the pairs one by one -/
def spNew (C : Addr) : Sp := fun vs H Q _ => ∃ (x dx : Addr) (ts : List TP), vs = .ref x :: ts.map rf ∧ H x = some (.ins C dx []) ∧ TPs H ts ∧ ts.length ≤ 4000000 ∧ (∀ q ∈ prs ts, okP q) ∧
  ∀ (H' : Hp) (ms : List Pr), SameX x H H' → SpAt C H' x ms → Norm ms → (∀ y, inS y ms ↔ inS y (prs ts)) → Q .non H'
theorem scI : FnScope ["self", "pairs", "pair"] ["self", "pairs"] (defScope s_Spans___init__) := ⟨rfl, rfl, rfl, by decide +kernel, rfl, by decide +kernel, by decide +kernel⟩
theorem ok_init {f C fP fM : Addr} {fd fdP fdM : FuncData} (F : Fun K "__init__" "Spans.__init__" s_Spans___init__ f fd) (T : Names mg) (S : SpCls K mg C)
    (GP : FnOk P w K mg base CX0 3 fP fdP ["value"] (spIsPair K)) (mgP : mg "_is_pair" = some (.ref fP)) (kP : PySem.W.keepIn K (.ref fP) = true) (bP : Binds K fdP ["value"] [])
    (GM : FnOk P w K mg base CX0 2 fM fdM ["pairs"] spMerged) (mgM : mg "_merged" = some (.ref fM)) (kM : PySem.W.keepIn K (.ref fM) = true) (bM : Binds K fdM ["pairs"] []) :
    FnR P w K mg base CX0 4 f (spNew C) := by
  obtain ⟨oc, od, kV, doc, pm, an, cdv, ct, osl, efd, lk, hcd⟩ := F.ex
  rw [efd] at lk
  have R := StX.fn_star (P := P) (w := w) (mg := mg) (base := base) (CX := CX0) (k := 3) (ps := ["self"]) (pv := "pairs") (sp := spInit C) lk hcd scI StX.cxUp_none (StX.bind_star1 (B := fun us => bindArgs (PySem.W.fnOf "__init__" "Spans.__init__" (defArgs s_Spans___init__) (defBody s_Spans___init__) (defScope s_Spans___init__) .none kV doc pm an cdv ct) ⟨us, []⟩) (p1 := "self") (pv := "pairs") (fun a => rfl) (fun a r rs => rfl)) (fun A outer s H vs Q E hr h => by
    obtain ⟨x, p, ps, dx, rfl, hx, ⟨ts, hA, hT, rfl⟩, hlen, hok, k⟩ := h
    have hr1 : Room 2 _ := hr.mono (by decide)
    refine ⟨_, pss_cons (ps_if (pt_not (pt_val (pe_callB (cr_all rfl) (by rfl) T.all (by decide +kernel) (pa_cons (pe_lc (own := [("pair", 2)]) (g := gName 2) (tt := tYes) rfl scI.nd (pi_tup (pv 1)) (blkOk_by (own := [("pair", 2)]) (N := ["self", "pairs", "pair"]) (sc := defScope s_Spans___init__) (by decide +kernel))
          (fun _ _ _ _ _ => pg_name (i := 2) scI.nd rfl (Or.inl rfl)) (fun _ _ _ _ _ => pts_nil) (fun _ _ _ _ _ => pe_call GP hr rfl mgP kP bP .nil pass0 (pa_cons (pv 2) pa_nil))) pa_nil)))) (pss_one ps_never) pss_nil)
      (pss_one (ps_fld (pv 0) (pe_call GM hr1 rfl mgM kM bM .nil pass0 (pa_cons (pv 1) pa_nil)) rfl)), ?_⟩
    refine ⟨_, rfl, p, rfl, ⟨_, tupAt hA⟩, fun D hD => lc_tup (K := K) (a := p) (xs := ts.map rf) (fun i H' => Same H H' ∧ H' D = some (.lst (List.replicate i (V.bl true)))) ⟨Same.upd hD, upd_same⟩ (fun i H' _ ⟨sH, _⟩ => tupAt (sH _ _ hA)) ?_ ?_⟩
    · rintro i y H' hi ⟨sH, hL⟩
      rw [List.getElem?_map] at hi
      obtain ⟨u, hu, e⟩ : ∃ u, ts[i]? = some u ∧ rf u = y := by
        cases e : ts[i]? with
        | none => rw [e] at hi; cases hi
        | some u => rw [e] at hi; exact ⟨u, rfl, Option.some.inj hi⟩
      subst e
      have mu : u ∈ ts := List.mem_of_getElem? hu
      have hi2 : i < ts.length := (List.getElem?_eq_some_iff.mp hu).1
      refine ⟨rfl, ?_⟩
      refine ⟨_, rfl, _, _, rfl, .pair (hT.same sH u mu), ?_⟩
      rw [okB_iff.mpr (hok _ (prs_mem mu))]
      refine ⟨_, hL, ?_, Same.put sH hD, ?_⟩
      · rw [List.length_replicate]
        unfold prs at hlen
        rw [List.length_map] at hlen
        exact Nat.lt_of_lt_of_le hi2 (Nat.le_trans hlen (by decide))
      · rw [upd_same, List.replicate_succ']
    · rintro H' ⟨sH, hL⟩
      refine ⟨D, List.replicate (ts.map rf).length true, rfl, ?_, true, ?_, ?_⟩
      · rw [List.map_replicate]
        exact SqL.of hL
      · rw [List.all_replicate]
        simp
      · refine iteF ?_
        refine ⟨_, rfl, p, prs ts, rfl, ⟨ts, sH _ _ hA, hT.same sH, rfl⟩, hok, fun H2 q ms s2 hq nm hin => ?_⟩
        have sA := sH.trans s2
        refine ⟨_, rfl, x, C, dx, [], rfl, sA _ _ hx, S.cl, S.nP, (by show 0 < 1000; decide), ?_⟩
        refine k _ ms (fun b o nb e => ?_) ⟨dx, q, ?_, ?_⟩ nm hin
        · rw [upd_ne nb]
          exact sA _ _ e
        · rw [upd_same]
          rfl
        · obtain ⟨us, h1, h2, h3⟩ := hq
          have nq : q ≠ x := ne_of h1 (sA _ _ hx) (by intro z; cases z)
          refine ⟨us, by rw [upd_ne nq]; exact h1, fun t m => ?_, h3⟩
          rw [upd_ne (ne_of (h2 t m) (sA _ _ hx) (by intro z; cases z))]
          exact h2 t m)
  refine R.imp fun vs H Q E h => ?_
  obtain ⟨x, dx, ts, rfl, hx, hT, hlen, hok, k⟩ := h
  refine ⟨[.ref x], ts.map rf, rfl, rfl, ?_, fun p hp => ?_⟩
  · rw [List.length_map]
    exact Nat.le_trans hlen (by decide)
  · refine ⟨x, p, prs ts, dx, rfl, (Same.upd hp) _ _ hx, ⟨ts, upd_same, hT.same (Same.upd hp), rfl⟩, by unfold prs; rw [List.length_map]; exact hlen, hok, fun H' ms sx hs nm hin => ?_⟩
    exact k H' ms (fun b o nb e => sx b o nb ((Same.upd hp) _ _ e)) hs nm hin
end
end Sps
set_option Elab.async false
set_option linter.all false
set_option maxRecDepth 100000
set_option maxHeartbeats 4000000
/-! Own errors, checks. -/
namespace Sps
open PySem PySem.Spec PyProof.Rows L2
/-! ### B.__init__(self, ..), B an own class that has ValueError's -/
structure KeC (K : PySem.W.Frag) (C : Addr) : Prop where
  sp : PySem.W.specialIn K (.ref C) "__getattribute__" = some (some (.builtin "type.__getattribute__"))
  ty : PySem.W.typeIn K (.ref C) = some (.type "type")
  rd : PySem.W.readsIn K C (.type "type") = true
  vi : PySem.W.findCls K (.ref C) (.type "type") "__init__" = some (.val (.builtin "ValueError.__init__"))
theorem pe_keinit {X : Cx} {x : Str} {C : Addr} {e : Expr} {es : List Expr} {ta : TA} {p1 p2 pos : Pos} {pl : Sem Bool} (T : KeC X.K C) (hg : Gl X x) (hm : X.mg x = some (.ref C)) (ha : PA X (e :: es) ta) (hdb : (x == ("__debug__" : Str)) = false := by decide)
    (hc : eval (.Call (.Attribute (.Name x p1) "__init__" p2) (e :: es) [] pos) X.env = (do
      let ov ← eval (.Name x p1) X.env
      standAt p2.atName
      let (f, first) ← holding [ov] (getMethod ov "__init__" pl)
      callWith pos f first (backTo pos (starEach (e :: es) X.env)) (backToKw pos (keywordEach [] X.env))) := by rfl)
    (he : starEach (e :: es) X.env = (false, eval e X.env) :: starEach es X.env := by rfl) (hpl : (backTo pos (starEach es X.env)).any (·.1) = false := by rfl) :
    PE X (.Call (.Attribute (.Name x p1) "__init__" p2) (e :: es) [] pos) (tVeI X.K ta) := by
  refine ⟨fun pins s σ H Q I h => ?_⟩
  refine PySem.W.methodCall_KW (ld_glob I hg hm ?_ hdb) hc
  obtain ⟨m, fr⟩ := I.fr
  refine PySem.W.method_of_cls fr I.ok.mod.kin T.sp (PySem.W.cls_val fr I.ok.mod.kin T.ty T.rd T.vi (by decide +kernel) ?_)
  show wpAny _ _ (callWith pos (Value.builtin "ValueError.__init__") [] (backTo pos (starEach (e :: es) X.env)) []) _ _ _
  refine PyProof.Rows.callWith_method1 (thn (ha.run pos pins _ σ H _ (I.tok _) h) fun us s1 ⟨vs, H1, I1, r1, a, C, ws, ev, hl, T, ea, q⟩ => ?_) he hpl
  subst ev
  cases r1 with
  | @cons _ u0 _ ur ra rw' =>
    obtain rfl : u0 = Value.ref a := ra
    have hlen : ur.length ≤ sizeLine := by
      rw [← Paired.length rw', sizeLine_eq]
      omega
    exact oinit_ok T I1 ea hlen fun s' J => ⟨.non, H1, J, rfl, q⟩

section
variable {P : Program} {w : World} {K : PySem.W.Frag} {mg : Str → Option Value} {base : Heap}
/-- what an own error that keeps a value must have -/
structure BadC (K : PySem.W.Frag) (mg : Str → Option Value) (nm : Str) (CB CK fB : Addr) : Prop where
  ox : OexC K CB
  ke : KeC K CK
  mgB : mg nm = some (.ref CB)
  mgK : mg "KeeperError" = some (.ref CK)
  noV : PySem.W.findIn K (.ref CB) "value" = some none
  ini : PySem.W.findIn K (.ref CB) "__init__" = some (some (.ref fB))
  fn : PySem.W.typeIn K (.ref fB) = some (.type "function")
  xf : XfC K CB
def spBadInit (CB : Addr) : Sp := fun vs H Q _ => ∃ (a : Addr) (v : V), vs = [.ref a, v] ∧ H a = some (exo a CB none) ∧ ∀ dx, H dx = none → dx ≠ a → Q .non (L2.upd (L2.upd H dx (exd dx [("value", v)])) a (exo a CB (some dx)))
/-- raise B(v), told at once -/
def mkBad (CB : Addr) (v : V) (E : XK) (H : Hp) : Prop := ∀ (H' : Hp) (d : Addr), Same H H' → H' d = some (.xd [("value", v)]) → E (.ref CB) (some d) H'
theorem sc_NoCopy : FnScope ["self", "value"] ["self", "value"] (defScope s_NoCopy___init__) := ⟨rfl, rfl, rfl, by decide +kernel, rfl, by decide +kernel, by decide +kernel⟩
theorem ok_NoCopy {f CB CK fB : Addr} {fd : FuncData} {nm : Str} (F : Fun K "__init__" "NoCopy.__init__" s_NoCopy___init__ f fd) (B : BadC K mg nm CB CK fB) : FnOk P w K mg base CX0 2 f fd ["self", "value"] (spBadInit CB) := by
  refine F.ok sc_NoCopy (fun vs H Q E h => ?_) (fun cdv A outer s H vs Q E hr h => ?_)
  · obtain ⟨_, _, rfl, _⟩ := h
    rfl
  · obtain ⟨a, v, rfl, ha, k⟩ := h
    refine ⟨_, pss_cons (ps_expr (pe_keinit B.ke rfl B.mgK (pa_cons (pv 0) (pa_cons pe_str pa_nil)))) (pss_one (ps_ost (pv 0) (pv 1) rfl)), ?_⟩
    refine ⟨_, rfl, a, CB, [_], rfl, (by show 1 ≤ 1000; decide), B.ox, ha, ?_⟩
    exact ⟨_, rfl, _, rfl, a, CB, rfl, B.ox, B.noV, .inl ⟨ha, fun dx hd ne => k dx hd ne⟩⟩
theorem sc_BadSpans : FnScope ["self", "value"] ["self", "value"] (defScope s_BadSpans___init__) := ⟨rfl, rfl, rfl, by decide +kernel, rfl, by decide +kernel, by decide +kernel⟩
theorem ok_BadSpans {f CB CK fB : Addr} {fd : FuncData} {nm : Str} (F : Fun K "__init__" "BadSpans.__init__" s_BadSpans___init__ f fd) (B : BadC K mg nm CB CK fB) : FnOk P w K mg base CX0 2 f fd ["self", "value"] (spBadInit CB) := by
  refine F.ok sc_BadSpans (fun vs H Q E h => ?_) (fun cdv A outer s H vs Q E hr h => ?_)
  · obtain ⟨_, _, rfl, _⟩ := h
    rfl
  · obtain ⟨a, v, rfl, ha, k⟩ := h
    refine ⟨_, pss_cons (ps_expr (pe_keinit B.ke rfl B.mgK (pa_cons (pv 0) (pa_cons pe_str pa_nil)))) (pss_one (ps_ost (pv 0) (pv 1) rfl)), ?_⟩
    refine ⟨_, rfl, a, CB, [_], rfl, (by show 1 ≤ 1000; decide), B.ox, ha, ?_⟩
    exact ⟨_, rfl, _, rfl, a, CB, rfl, B.ox, B.noV, .inl ⟨ha, fun dx hd ne => k dx hd ne⟩⟩
theorem sc_BadWord : FnScope ["self", "value"] ["self", "value"] (defScope s_BadWord___init__) := ⟨rfl, rfl, rfl, by decide +kernel, rfl, by decide +kernel, by decide +kernel⟩
theorem ok_BadWord {f CB CK fB : Addr} {fd : FuncData} {nm : Str} (F : Fun K "__init__" "BadWord.__init__" s_BadWord___init__ f fd) (B : BadC K mg nm CB CK fB) : FnOk P w K mg base CX0 2 f fd ["self", "value"] (spBadInit CB) := by
  refine F.ok sc_BadWord (fun vs H Q E h => ?_) (fun cdv A outer s H vs Q E hr h => ?_)
  · obtain ⟨_, _, rfl, _⟩ := h
    rfl
  · obtain ⟨a, v, rfl, ha, k⟩ := h
    refine ⟨_, pss_cons (ps_expr (pe_keinit B.ke rfl B.mgK (pa_cons (pv 0) (pa_cons pe_str pa_nil)))) (pss_one (ps_ost (pv 0) (pv 1) rfl)), ?_⟩
    refine ⟨_, rfl, a, CB, [_], rfl, (by show 1 ≤ 1000; decide), B.ox, ha, ?_⟩
    exact ⟨_, rfl, _, rfl, a, CB, rfl, B.ox, B.noV, .inl ⟨ha, fun dx hd ne => k dx hd ne⟩⟩
theorem sc_NoAsk : FnScope ["self", "value"] ["self", "value"] (defScope s_NoAsk___init__) := ⟨rfl, rfl, rfl, by decide +kernel, rfl, by decide +kernel, by decide +kernel⟩
theorem ok_NoAsk {f CB CK fB : Addr} {fd : FuncData} {nm : Str} (F : Fun K "__init__" "NoAsk.__init__" s_NoAsk___init__ f fd) (B : BadC K mg nm CB CK fB) : FnOk P w K mg base CX0 2 f fd ["self", "value"] (spBadInit CB) := by
  refine F.ok sc_NoAsk (fun vs H Q E h => ?_) (fun cdv A outer s H vs Q E hr h => ?_)
  · obtain ⟨_, _, rfl, _⟩ := h
    rfl
  · obtain ⟨a, v, rfl, ha, k⟩ := h
    refine ⟨_, pss_cons (ps_expr (pe_keinit B.ke rfl B.mgK (pa_cons (pv 0) (pa_cons pe_str pa_nil)))) (pss_one (ps_ost (pv 0) (pv 1) rfl)), ?_⟩
    refine ⟨_, rfl, a, CB, [_], rfl, (by show 1 ≤ 1000; decide), B.ox, ha, ?_⟩
    exact ⟨_, rfl, _, rfl, a, CB, rfl, B.ox, B.noV, .inl ⟨ha, fun dx hd ne => k dx hd ne⟩⟩
theorem sc_BadCount : FnScope ["self", "value"] ["self", "value"] (defScope s_BadCount___init__) := ⟨rfl, rfl, rfl, by decide +kernel, rfl, by decide +kernel, by decide +kernel⟩
theorem ok_BadCount {f CB CK fB : Addr} {fd : FuncData} {nm : Str} (F : Fun K "__init__" "BadCount.__init__" s_BadCount___init__ f fd) (B : BadC K mg nm CB CK fB) : FnOk P w K mg base CX0 2 f fd ["self", "value"] (spBadInit CB) := by
  refine F.ok sc_BadCount (fun vs H Q E h => ?_) (fun cdv A outer s H vs Q E hr h => ?_)
  · obtain ⟨_, _, rfl, _⟩ := h
    rfl
  · obtain ⟨a, v, rfl, ha, k⟩ := h
    refine ⟨_, pss_cons (ps_expr (pe_keinit B.ke rfl B.mgK (pa_cons (pv 0) (pa_cons pe_str pa_nil)))) (pss_one (ps_ost (pv 0) (pv 1) rfl)), ?_⟩
    refine ⟨_, rfl, a, CB, [_], rfl, (by show 1 ≤ 1000; decide), B.ox, ha, ?_⟩
    exact ⟨_, rfl, _, rfl, a, CB, rfl, B.ox, B.noV, .inl ⟨ha, fun dx hd ne => k dx hd ne⟩⟩

/-- the making's reading -/
theorem bad_reads {CB : Addr} {v : V} {E : XK} {H : Hp} (k : mkBad CB v E H) : (fun vs H1 => vs.length ≤ 1000 ∧ ∀ a, H1 a = none → spBadInit CB (.ref a :: (vs ++ [])) (L2.upd H1 a (exo a CB none)) (fun z H2 => z = .non ∧ True) E) [v] H → True := fun _ => trivial
end
end Sps
set_option Elab.async false
set_option linter.all false
set_option maxRecDepth 100000
set_option maxHeartbeats 4000000
/-! Checks that raise. -/
namespace Sps
open PySem PySem.Spec PyProof.Rows L2
theorem bad_mk {CB : Addr} {v : V} {E : XK} {H : Hp} (k : mkBad CB v E H) : [v].length ≤ 1000 ∧ ∀ a, H a = none → spBadInit CB (.ref a :: ([v] ++ [])) (L2.upd H a (exo a CB none))
    (fun z H2 => z = .non ∧ ∃ (d : Addr) (fs : List (Str × V)), H2 a = some (exo a CB (some d)) ∧ H2 d = some (exd d fs) ∧ H d = none ∧ E (.ref CB) (some d) (L2.upd (del H2 a) d (.xd fs))) (fun _ _ _ => False) := by
  refine ⟨by show 1 ≤ 1000; decide, fun a ha => ⟨a, v, rfl, upd_same, fun d hd ne => ⟨rfl, d, [("value", v)], upd_same, ?_, ?_, ?_⟩⟩⟩
  · rw [upd_ne ne, upd_same]
  · rw [upd_ne ne] at hd
    exact hd
  · rw [upd_ne ne] at hd
    refine k _ d (fun b o e => ?_) upd_same
    have nba : b ≠ a := ne_of_none e ha
    have nbd : b ≠ d := ne_of_none e hd
    rw [upd_ne nbd, del_ne nba, upd_ne nba, upd_ne nbd, upd_ne nba]
    exact e
theorem mkBad.same {CB : Addr} {v : V} {E : XK} {H H' : Hp} (k : mkBad CB v E H) (s : Same H H') : mkBad CB v E H' := fun H2 d s2 hd => k H2 d (s.trans s2) hd
/-! ### names of copies -/
def inName (rs : List Cp) : Option Str → Bool
  | some z => (look rs z).isSome
  | none => false
theorem valV_ab : ∀ {rs : List Cp} {us : List Addr} {z : Str}, us.length = rs.length → (valV ((rs.zip us).map abEnt) (Sum.inr z)).isSome = (look rs z).isSome
  | [], us, z, _ => by cases us <;> rfl
  | r :: rs, [], z, h => by cases h
  | r :: rs, u :: us, z, h => by
    rw [List.zip_cons_cons, List.map_cons, look_cons]
    by_cases e : r.1 = z
    · rw [valV_pos (show (abEnt (r, u)).1 = Sum.inr z by rw [← e]; rfl), if_pos e]
      rfl
    · rw [valV_neg (show ¬ (abEnt (r, u)).1 = Sum.inr z from fun q => e (Sum.inr.inj q)), if_neg e]
      exact valV_ab (by simpa using h)
section
variable {P : Program} {w : World} {K : PySem.W.Frag} {mg : Str → Option Value} {base : Heap}
def spCheckCopy (CB CSi : Addr) : Sp := fun vs H Q E => ∃ (st da : Addr) (v : V) (o : Option Str) (rs : List Cp) (l : List (Str × V)), vs = [.ref st, v] ∧ IsO CSi H st (("above", .ref da) :: l) ∧ AboveAt H da rs ∧ StrV K H v o ∧
  (inName rs o = true → Q .non H) ∧ (inName rs o = false → mkBad CB v E H)
theorem scCC : FnScope ["site", "value"] ["site", "value"] (defScope s_check_copy) := ⟨rfl, rfl, rfl, by decide +kernel, rfl, by decide +kernel, by decide +kernel⟩
theorem ok_checkCopy {f CB CK fB CSi fS : Addr} {fd fdB : FuncData} (F : Fun K "check_copy" "check_copy" s_check_copy f fd) (T : Names mg) (O : OC K mg "Site" CSi fS fSi) (B : BadC K mg "NoCopy" CB CK fB)
    (GB : FnOk P w K mg base CX0 2 fB fdB ["self", "value"] (spBadInit CB)) (bB : Binds K fdB ["self", "value"] []) : FnOk P w K mg base (L2.CX P w) 4 f fd ["site", "value"] (spCheckCopy (K := K) CB CSi) := by
  refine F.okX scCC (fun vs H Q E h => ?_) (fun cdv A outer s H vs Q E hr h => ?_)
  · obtain ⟨_, _, _, _, _, _, rfl, _⟩ := h
    rfl
  · obtain ⟨st, da, v, o, rs, l, rfl, ⟨dx, fs, hst, hl, hh⟩, ⟨us, hul, hda, hP⟩, hv, good, bad⟩ := h
    have hu := hu_of hr
    refine ⟨_, pss_one (ps_if (PW.pt (pw_or (pt_not (pt_val (pe_callB call_isi (by rfl) T.isinstance (by decide +kernel) (pa_cons (pv 1) (pa_cons (pe_bltn (v := .ty "str") (by rfl) T.str (by decide +kernel) rfl) pa_nil)))))
        (pw_or1 (pt_cmp (pc_dnotin hu (pv 1) (pe_fld (pv 0) rfl))))))
      (pss_one (ps_raise rfl (takes_of rfl rfl rfl rfl) (pmk_oex B.ox B.ini B.fn GB hr bB .nil pass0 rfl B.mgB (pa_cons (pv 1) pa_nil)))) pss_nil), ?_⟩
    cases hv with
    | no ty k =>
      refine ⟨_, rfl, _, _, _, _, false, rfl, .ty "str", ty, k, false, rfl, iteT (iteT ?_)⟩
      exact ⟨_, rfl, bad_mk (bad rfl)⟩
    | yes z hz =>
      refine ⟨_, rfl, _, _, _, _, true, rfl, .ty "str", .base (.str z), kit_ss K, true, rfl, iteF ?_⟩
      refine ⟨_, rfl, _, rfl, st, CSi, dx, fs, _, rfl, hst, O.cl, O.no _ (by decide), hh.at_ 0 rfl, da, _, rfl, DGet.k (k := Sum.inr z) hda, ?_⟩
      have e := valV_ab (rs := rs) (us := us) (z := z) hul
      cases q : inName rs (some z) with
      | true =>
        rw [show (look rs z).isSome = true from q] at e
        rw [e]
        exact ⟨_, rfl, iteF (good q)⟩
      | false =>
        rw [show (look rs z).isSome = false from q] at e
        rw [e]
        exact ⟨_, rfl, iteT ⟨_, rfl, bad_mk (bad q)⟩⟩
/-- a value, and whether isinstance says it is of the class at C -/
def OfC (K : PySem.W.Frag) (C : Addr) (H : Hp) (v : V) (b : Bool) : Prop := ∃ t, TyX K H v t ∧ PySem.W.kitOne K t (.ref C) = some b
def spCheckSpans (CB CS : Addr) : Sp := fun vs H Q E => ∃ (v : V) (b : Bool), vs = [v] ∧ OfC K CS H v b ∧ (b = true → Q .non H) ∧ (b = false → mkBad CB v E H)
theorem scCS : FnScope ["value"] ["value"] (defScope s_check_spans) := ⟨rfl, rfl, rfl, by decide +kernel, rfl, by decide +kernel, by decide +kernel⟩
theorem ok_checkSpans {f CB CK fB CS : Addr} {fd fdB : FuncData} (F : Fun K "check_spans" "check_spans" s_check_spans f fd) (T : Names mg) (mgS : mg "Spans" = some (.ref CS)) (B : BadC K mg "BadSpans" CB CK fB)
    (GB : FnOk P w K mg base CX0 2 fB fdB ["self", "value"] (spBadInit CB)) (bB : Binds K fdB ["self", "value"] []) : FnOk P w K mg base (L2.CX P w) 4 f fd ["value"] (spCheckSpans (K := K) CB CS) := by
  refine F.okX scCS (fun vs H Q E h => ?_) (fun cdv A outer s H vs Q E hr h => ?_)
  · obtain ⟨_, _, rfl, _⟩ := h
    rfl
  · obtain ⟨v, b, rfl, ⟨t, ty, k⟩, good, bad⟩ := h
    refine ⟨_, pss_one (ps_if (pt_not (pt_val (pe_callB call_isi (by rfl) T.isinstance (by decide +kernel) (pa_cons (pv 0) (pa_cons (pe_glob (v := .ref CS) rfl mgS rfl) pa_nil)))))
      (pss_one (ps_raise rfl (takes_of rfl rfl rfl rfl) (pmk_oex B.ox B.ini B.fn GB hr bB .nil pass0 rfl B.mgB (pa_cons (pv 0) pa_nil)))) pss_nil), ?_⟩
    refine ⟨_, rfl, _, _, _, _, b, rfl, .own CS, ty, k, b, rfl, ?_⟩
    cases b with
    | true => exact iteF (good rfl)
    | false => exact iteT ⟨_, rfl, bad_mk (bad rfl)⟩
/-- a number of an open ask, or not -/
inductive NumV (K : PySem.W.Frag) (H : Hp) (ns : List Int) : V → Option Int → Prop
  | yes (n : Int) (m : n ∈ ns) : NumV K H ns (.int n) (some n)
  | out (n : Int) (m : n ∉ ns) : NumV K H ns (.int n) none
  | no {v : V} (h : NoInt K H v) : NumV K H ns v none
theorem valV_ask {kvs : List (Key × V)} {ns : List Int} (h : kvs.map (·.1) = ns.map Sum.inl) (n : Int) : (valV kvs (Sum.inl n)).isSome = decide (n ∈ ns) := by
  induction kvs generalizing ns with
  | nil =>
    cases ns with
    | nil => rfl
    | cons _ _ => cases h
  | cons p r ih =>
    cases ns with
    | nil => cases h
    | cons m ns =>
      rw [List.map_cons, List.map_cons] at h
      injection h with h1 h2
      by_cases e : m = n
      · rw [valV_pos (show p.1 = Sum.inl n by rw [h1, e]), e, decide_eq_true List.mem_cons_self]
        rfl
      · rw [valV_neg (show ¬ p.1 = Sum.inl n by rw [h1]; exact fun z => e (Sum.inl.inj z)), ih h2]
        exact decide_eq_decide.mpr ⟨fun z => List.mem_cons_of_mem _ z, fun z => (List.mem_cons.mp z).elim (fun q => absurd q.symm e) id⟩
def spCheckAsk (CB CSt : Addr) : Sp := fun vs H Q E => ∃ (s d : Addr) (z : StV) (v : V) (ns : List Int) (o : Option Int), vs = [.ref s, v] ∧ IsO CSt H s z.l ∧ z.asks = .ref d ∧ AskAt H d ns ∧ NumV K H ns v o ∧
  (o.isSome = true → Q .non H) ∧ (o.isSome = false → mkBad CB v E H)
theorem scCA : FnScope ["state", "value"] ["state", "value"] (defScope s_check_ask) := ⟨rfl, rfl, rfl, by decide +kernel, rfl, by decide +kernel, by decide +kernel⟩
theorem ok_checkAsk {f g CB CK fB CSt fS : Addr} {fd fdG fdB : FuncData} (F : Fun K "check_ask" "check_ask" s_check_ask f fd) (O : OC K mg "State" CSt fS fSta) (B : BadC K mg "NoAsk" CB CK fB)
    (G : FnOk P w K mg base CX0 2 g fdG ["value", "table"] (spNumIn K)) (mgG : mg "is_number_in" = some (.ref g)) (kG : PySem.W.keepIn K (.ref g) = true) (bG : Binds K fdG ["value", "table"] [])
    (GB : FnOk P w K mg base CX0 2 fB fdB ["self", "value"] (spBadInit CB)) (bB : Binds K fdB ["self", "value"] []) : FnOk P w K mg base (L2.CX P w) 4 f fd ["state", "value"] (spCheckAsk (K := K) CB CSt) := by
  refine F.okX scCA (fun vs H Q E h => ?_) (fun cdv A outer s H vs Q E hr h => ?_)
  · obtain ⟨_, _, _, _, _, _, rfl, _⟩ := h
    rfl
  · obtain ⟨s0, d, z, v, ns, o, rfl, ⟨dx, fs, hs, hl, hh⟩, ez, ⟨kvs, hd, hk⟩, hv, good, bad⟩ := h
    have hr2 : Room 2 _ := hr.mono (by decide)
    have ha : fs.lookup ("asks" : Str) = some (.ref d) := by rw [← ez]; exact hh.at_ 3 rfl
    refine ⟨_, pss_one (ps_if (pt_not (pt_val (pe_call G hr2 rfl mgG kG bG .nil pass0 (pa_cons (pv 1) (pa_cons (pe_fld (pv 0) rfl) pa_nil)))))
      (pss_one (ps_raise rfl (takes_of rfl rfl rfl rfl) (pmk_oex B.ox B.ini B.fn GB hr bB .nil pass0 rfl B.mgB (pa_cons (pv 1) pa_nil)))) pss_nil), ?_⟩
    refine ⟨_, rfl, _, rfl, s0, CSt, dx, fs, _, rfl, hs, O.cl, O.no _ (by decide), ha, _, d, kvs, rfl, hd, ?_⟩
    cases hv with
    | yes n m => exact .inl ⟨n, rfl, _, rfl, by rw [valV_ask hk, decide_eq_true m]; exact iteF (good rfl)⟩
    | out n m => exact .inl ⟨n, rfl, _, rfl, by rw [valV_ask hk, decide_eq_false m]; exact iteT ⟨_, rfl, bad_mk (bad rfl)⟩⟩
    | no h => exact .inr ⟨h, _, rfl, iteT ⟨_, rfl, bad_mk (bad rfl)⟩⟩
end
end Sps
set_option Elab.async false
set_option linter.all false
set_option maxRecDepth 100000
set_option maxHeartbeats 4000000
/-! Keepers. -/
namespace Sps
open PySem PySem.Spec PyProof.Rows L2
theorem sorted_uniq {ys ns : List Int} (p : ys.Perm ns) (hy : ys.Pairwise (· ≤ ·)) (hn : ns.Pairwise (· < ·)) : ys = ns :=
  List.Perm.eq_of_pairwise (fun a b _ _ h1 h2 => Int.le_antisymm h1 h2) hy (hn.imp fun h => Int.le_of_lt h) p
abbrev fKe : List Str := ["copies", "piece", "inside", "trials", "state", "now", "open_asks", "answers"]
/-- what the keeper's state is -/
structure KSt (CSt CSi : Addr) (H : Hp) (s : Addr) (z : StV) (rs : List Cp) (ns : List Int) : Prop where
  st : IsO CSt H s z.l
  asks : ∃ d, z.asks = .ref d ∧ AskAt H d ns
  told : ∃ d, z.told = .ref d ∧ H d = some (.dK [])
  site : ∃ (t da : Addr) (l : List (Str × V)), z.site = .ref t ∧ IsO CSi H t (("above", .ref da) :: l) ∧ AboveAt H da rs
  asc : ns.Pairwise (· < ·)
  low : ∀ n ∈ ns, 0 ≤ n ∧ n < z.up
  sml : ns.length ≤ 1000
theorem KSt.same {CSt CSi : Addr} {H H' : Hp} {s : Addr} {z : StV} {rs : List Cp} {ns : List Int} (k : KSt CSt CSi H s z rs ns) (e : Same H H') : KSt CSt CSi H' s z rs ns :=
  ⟨k.st.same e, let ⟨d, h1, h2⟩ := k.asks; ⟨d, h1, h2.same e⟩, let ⟨d, h1, h2⟩ := k.told; ⟨d, h1, e _ _ h2⟩, let ⟨t, da, l, h1, h2, h3⟩ := k.site; ⟨t, da, l, h1, h2.same e, h3.same e⟩, k.asc, k.low, k.sml⟩
/-- all that a state is made of is none of the instances of the class at C -/
theorem IsO.off {C D : Addr} {H : Hp} {x k dk : Addr} {l fk : List (Str × V)} (h : IsO C H x l) (hk : H k = some (.ins D dk fk)) (ne : C ≠ D) (o : HO) : IsO C (L2.upd H k o) x l := by
  obtain ⟨dx, fs, e, a, b⟩ := h
  refine ⟨dx, fs, ?_, a, b⟩
  rw [upd_ne (fun z => by rw [z, hk] at e; cases e; exact ne rfl)]
  exact e
theorem ins_off {H : Hp} {k dk D b : Addr} {fk : List (Str × V)} {u o : HO} (hk : H k = some (.ins D dk fk)) (e : H b = some u) (n : ∀ C d f, u ≠ .ins C d f) : (L2.upd H k o) b = some u := by
  rw [upd_ne (fun z => by rw [z, hk] at e; exact n _ _ _ (Option.some.inj e).symm)]
  exact e
theorem AskAt.off {H : Hp} {k dk D d : Addr} {fk : List (Str × V)} {ns : List Int} {o : HO} (h : AskAt H d ns) (hk : H k = some (.ins D dk fk)) : AskAt (L2.upd H k o) d ns := let ⟨kvs, e, q⟩ := h; ⟨kvs, ins_off hk e (fun _ _ _ z => by cases z), q⟩
theorem AboveAt.off {H : Hp} {k dk D d : Addr} {fk : List (Str × V)} {rs : List Cp} {o : HO} (h : AboveAt H d rs) (hk : H k = some (.ins D dk fk)) : AboveAt (L2.upd H k o) d rs := let ⟨us, h1, h2, h3⟩ := h; ⟨us, h1, ins_off hk h2 (fun _ _ _ z => by cases z), paired_imp (fun _ _ e => ins_off hk e (fun _ _ _ z => by cases z)) h3⟩
theorem KSt.off {CSt CSi CK : Addr} {H : Hp} {s k dk : Addr} {fk : List (Str × V)} {z : StV} {rs : List Cp} {ns : List Int} {o : HO} (h : KSt CSt CSi H s z rs ns) (hk : H k = some (.ins CK dk fk)) (n1 : CSt ≠ CK) (n2 : CSi ≠ CK) : KSt CSt CSi (L2.upd H k o) s z rs ns :=
  ⟨h.st.off hk n1 _, let ⟨d, h1, h2⟩ := h.asks; ⟨d, h1, h2.off hk⟩, let ⟨d, h1, h2⟩ := h.told; ⟨d, h1, ins_off hk h2 (fun _ _ _ z => by cases z)⟩, let ⟨t, da, l, h1, h2, h3⟩ := h.site; ⟨t, da, l, h1, h2.off hk n2 _, h3.off hk⟩, h.asc, h.low, h.sml⟩
def mKe : List Str := ["become", "ask", "wait", "lost"]
def NoM (fs : List (Str × V)) : Prop := ∀ m ∈ mKe, fs.lookup m = none
theorem NoM.put {fs : List (Str × V)} (h : NoM fs) (f : Str) (v : V) (n : f ∉ mKe) : NoM (putF f v fs) := fun m hm => by
  rw [lookup_putF, if_neg (fun e => n (by rw [← e]; exact hm))]
  exact h m hm
/-- a keeper -/
structure KAt (CK CSt CSi : Addr) (H : Hp) (k : Addr) (rs : List Cp) (a : Addr) (t u : Int) (ns : List Int) : Prop where
  ex : ∃ (dx s ta tb : Addr) (fs : List (Str × V)) (z : StV), H k = some (.ins CK dx fs) ∧ fs.length ≤ 8 ∧ Has fs [("answers", .ref tb), ("open_asks", .ref ta), ("now", .int t), ("state", .ref s), ("copies", .ref a)] ∧ KSt CSt CSi H s z rs ns ∧ z.time = t ∧ z.up = u ∧ NoM fs ∧
    H ta = some (.tup (ns.map V.int)) ∧ H tb = some (.tup [])
theorem len_putS {f : Str} {v x : V} : ∀ {fs : List (Str × V)}, fs.lookup f = some x → (putF f v fs).length = fs.length
  | [], h => by cases h
  | (k, y) :: r, h => by
    unfold putF
    by_cases e : k = f
    · rw [if_pos e]; rfl
    · rw [if_neg e, List.length_cons, List.length_cons]
      have h2 : r.lookup f = some x := by
        rw [List.lookup_cons] at h
        have e2 : (f == k) = false := beq_eq_false_iff_ne.mpr fun z => e z.symm
        rw [e2] at h
        exact h
      rw [len_putS h2]
/-- few fields: the four that become writes are there, or there are four others -/
def Few (fs : List (Str × V)) : Prop := fs.length ≤ 4 ∨ (fs.length ≤ 8 ∧ ∃ a b c d, Has fs [("answers", a), ("open_asks", b), ("now", c), ("state", d)])
theorem Few.put4 {fs : List (Str × V)} (h : Few fs) (a b c d : V) : (putF "answers" a (putF "open_asks" b (putF "now" c (putF "state" d fs)))).length ≤ 8 := by
  rcases h with h | ⟨h, a0, b0, c0, d0, hh⟩
  · have l1 := length_putF ("state" : Str) d fs
    have l2 := length_putF ("now" : Str) c (putF "state" d fs)
    have l3 := length_putF ("open_asks" : Str) b (putF "now" c (putF "state" d fs))
    have l4 := length_putF ("answers" : Str) a (putF "open_asks" b (putF "now" c (putF "state" d fs)))
    omega
  · have e1 := len_putS (v := d) (hh.at_ 3 rfl)
    have e2 : (putF "now" c (putF "state" d fs)).length = (putF "state" d fs).length := len_putS (x := c0) (by rw [lookup_putF, if_neg (by decide)]; exact hh.at_ 2 rfl)
    have e3 : (putF "open_asks" b (putF "now" c (putF "state" d fs))).length = (putF "now" c (putF "state" d fs)).length := len_putS (x := b0) (by rw [lookup_putF, if_neg (by decide), lookup_putF, if_neg (by decide)]; exact hh.at_ 1 rfl)
    have e4 : (putF "answers" a (putF "open_asks" b (putF "now" c (putF "state" d fs)))).length = (putF "open_asks" b (putF "now" c (putF "state" d fs))).length := len_putS (x := a0) (by rw [lookup_putF, if_neg (by decide), lookup_putF, if_neg (by decide), lookup_putF, if_neg (by decide)]; exact hh.at_ 0 rfl)
    omega
section
variable {P : Program} {w : World} {K : PySem.W.Frag} {mg : Str → Option Value} {base : Heap}
/-! ### become -/
def spBecome (CK CSt CSi : Addr) : Sp := fun vs H Q _ => ∃ (k s dx : Addr) (fs : List (Str × V)) (z : StV) (rs : List Cp) (ns : List Int) (a : Addr), vs = [.ref k, .ref s] ∧ H k = some (.ins CK dx fs) ∧ Few fs ∧ NoM fs ∧ fs.lookup ("copies" : Str) = some (.ref a) ∧ KSt CSt CSi H s z rs ns ∧
  ∀ H', SameX k H H' → KAt CK CSt CSi H' k rs a z.time z.up ns → Q .non H'
theorem scBe : FnScope ["self", "state"] ["self", "state"] (defScope s_Keeper_become) := ⟨rfl, rfl, rfl, by decide +kernel, rfl, by decide +kernel, by decide +kernel⟩
theorem ok_become {f CK fI CSt fS CSi : Addr} {fd : FuncData} (F : Fun K "become" "Keeper.become" s_Keeper_become f fd) (T : Names mg) (O : OC K mg "Keeper" CK fI fKe) (OS : OC K mg "State" CSt fS fSta) (n1 : CSt ≠ CK) (n2 : CSi ≠ CK) : FnOk P w K mg base CX0 1 f fd ["self", "state"] (spBecome CK CSt CSi) := by
  refine F.ok scBe (fun vs H Q E h => ?_) (fun cdv A outer s H vs Q E hr h => ?_)
  · obtain ⟨_, _, _, _, _, _, _, _, rfl, _⟩ := h
    rfl
  · obtain ⟨k, s0, dx, fs, z, rs, ns, a, rfl, hk, hfew, hnm, hc, hS, h⟩ := h
    have hl : fs.length ≤ 8 := hfew.elim (fun q => Nat.le_trans q (by decide)) fun q => q.1
    refine ⟨_, pss_cons (ps_fld (pv 0) (pv 1) rfl) (pss_cons (ps_fld (pv 0) (pe_fld (pv 1) rfl) rfl)
      (pss_cons (ps_fld (pv 0) (pe_callTy call_tuple_of (by rfl) T.tuple (by decide +kernel) (pa_cons (pe_callB (call_sortD rfl) (by rfl) T.sorted (by decide +kernel) (pa_cons (pe_fld (pv 1) rfl) pa_nil)) pa_nil)) rfl)
      (pss_one (ps_fld (pv 0) (pe_callTy call_tuple_of (by rfl) T.tuple (by decide +kernel) (pa_cons (pe_callB (call_sortD rfl) (by rfl) T.sorted (by decide +kernel) (pa_cons (pe_fld (pv 1) rfl) pa_nil)) pa_nil)) rfl)))), ?_⟩
    have no : ∀ {x : Str}, x ∈ fKe → NoAttr K CK x := fun {x} m => O.no x m
    have noS : ∀ {x : Str}, x ∈ fSta → NoAttr K CSt x := fun {x} m => OS.no x m
    refine ⟨_, rfl, _, rfl, k, CK, dx, fs, rfl, hk, O.cl, no (by decide), Nat.lt_of_le_of_lt hl (by decide), ?_⟩
    -- one store after the other
    have l1 : (putF "state" (.ref s0) fs).length ≤ 9 := Nat.le_trans (length_putF _ _ _) (Nat.succ_le_succ hl)
    generalize e1 : putF "state" (.ref s0) fs = f1 at l1
    have x1 : SameX k H (L2.upd H k (.ins CK dx f1)) := SameX.upd
    have k1 : (L2.upd H k (.ins CK dx f1)) k = some (.ins CK dx f1) := upd_same
    have S1 := hS.off (o := .ins CK dx f1) hk n1 n2
    generalize eH : L2.upd H k (.ins CK dx f1) = H1 at x1 k1 S1
    obtain ⟨dS, fS_, hs1, _, hh⟩ := S1.st
    refine ⟨_, rfl, s0, CSt, dS, fS_, _, rfl, hs1, OS.cl, noS (by decide), hh.at_ 5 rfl, _, rfl, k, CK, dx, f1, rfl, k1, O.cl, no (by decide), Nat.lt_of_le_of_lt l1 (by decide), ?_⟩
    have l2 : (putF "now" (.int z.time) f1).length ≤ 10 := Nat.le_trans (length_putF _ _ _) (Nat.succ_le_succ l1)
    generalize e2 : putF "now" (.int z.time) f1 = f2 at l2
    have x2 : SameX k H (L2.upd H1 k (.ins CK dx f2)) := x1.trans SameX.upd
    have k2 : (L2.upd H1 k (.ins CK dx f2)) k = some (.ins CK dx f2) := upd_same
    have S2 := S1.off (o := .ins CK dx f2) k1 n1 n2
    generalize eH2 : L2.upd H1 k (.ins CK dx f2) = H2 at x2 k2 S2
    obtain ⟨dS2, fS2, hs2, _, hh2⟩ := S2.st
    obtain ⟨d, ed, kvs, hd, hkv⟩ := S2.asks
    refine ⟨_, rfl, s0, CSt, dS2, fS2, _, rfl, hs2, OS.cl, noS (by decide), hh2.at_ 3 rfl, d, kvs, ns, by rw [ed], .inl hd, hkv, fun ys p hp hs hpn => ?_⟩
    obtain rfl := sorted_uniq hp hs S2.asc
    refine ⟨p, _, rfl, .inl ⟨lstAt upd_same, fun ta hta => ?_⟩⟩
    have s3 : Same H2 (L2.upd (L2.upd H2 p (.lst (ys.map V.int))) ta (.tup (ys.map V.int))) := (Same.upd hpn).trans (Same.upd hta)
    refine ⟨_, rfl, k, CK, dx, f2, rfl, s3 _ _ k2, O.cl, no (by decide), Nat.lt_of_le_of_lt l2 (by decide), ?_⟩
    have l3 : (putF "open_asks" (.ref ta) f2).length ≤ 11 := Nat.le_trans (length_putF _ _ _) (Nat.succ_le_succ l2)
    generalize e3 : putF "open_asks" (.ref ta) f2 = f3 at l3
    have k2' := s3 _ _ k2
    have S3 := (S2.same s3).off (o := .ins CK dx f3) k2' n1 n2
    have x3 := (x2.trans (Same.x s3 k)).trans (SameX.upd (o := .ins CK dx f3))
    have t3 : (L2.upd (L2.upd (L2.upd H2 p (.lst (ys.map V.int))) ta (.tup (ys.map V.int))) k (.ins CK dx f3)) ta = some (.tup (ys.map V.int)) := ins_off k2' upd_same (fun _ _ _ z => by cases z)
    have k3 : (L2.upd (L2.upd (L2.upd H2 p (.lst (ys.map V.int))) ta (.tup (ys.map V.int))) k (.ins CK dx f3)) k = some (.ins CK dx f3) := upd_same
    generalize eH3 : L2.upd (L2.upd (L2.upd H2 p (.lst (ys.map V.int))) ta (.tup (ys.map V.int))) k (.ins CK dx f3) = H3 at S3 x3 t3 k3
    obtain ⟨dS3, fS3, hs3, _, hh3⟩ := S3.st
    obtain ⟨d2, ed2, hd2⟩ := S3.told
    refine ⟨_, rfl, s0, CSt, dS3, fS3, _, rfl, hs3, OS.cl, noS (by decide), hh3.at_ 2 rfl, d2, [], [], by rw [ed2], .inl hd2, rfl, fun zs p2 hp2 hs2' hpn2 => ?_⟩
    obtain rfl := List.Perm.eq_nil hp2
    refine ⟨p2, _, rfl, .inl ⟨lstAt upd_same, fun tb htb => ?_⟩⟩
    have s4 : Same H3 (L2.upd (L2.upd H3 p2 (.lst (([] : List Int).map V.int))) tb (.tup (([] : List Int).map V.int))) := (Same.upd hpn2).trans (Same.upd htb)
    have k3' := s4 _ _ k3
    refine ⟨_, rfl, k, CK, dx, f3, rfl, k3', O.cl, no (by decide), Nat.lt_of_le_of_lt l3 (by decide), ?_⟩
    refine h _ ((x3.trans (Same.x s4 k)).trans SameX.upd) ⟨dx, s0, ta, tb, _, z, upd_same, by rw [← e3, ← e2, ← e1]; exact hfew.put4 _ _ _ _, ?_, (S3.same s4).off k3' n1 n2, rfl, rfl, by rw [← e3, ← e2, ← e1]; exact (((hnm.put _ _ (by decide)).put _ _ (by decide)).put _ _ (by decide)).put _ _ (by decide), ins_off k3' (s4 _ _ t3) (fun _ _ _ z => by cases z), ins_off k3' upd_same (fun _ _ _ z => by cases z)⟩
    have h0 : Has fs [("copies", .ref a)] := fun q m => by rw [List.mem_singleton.mp m]; exact hc
    rw [← e3, ← e2, ← e1]
    exact (((h0.put "state" _ (by rfl)).put "now" _ (by rfl)).put "open_asks" _ (by rfl)).put "answers" _ (by rfl)
end
end Sps
set_option Elab.async false
set_option linter.all false
set_option maxRecDepth 100000
set_option maxHeartbeats 4000000
/-! Keepers: made, waiting, asking, lost answers. -/
namespace Sps
open PySem PySem.Spec PyProof.Rows L2
theorem KAt.few {CK CSt CSi : Addr} {fs : List (Str × V)} {t : Int} {s ta tb a : Addr} (h : fs.length ≤ 8) (hh : Has fs [("answers", .ref tb), ("open_asks", .ref ta), ("now", .int t), ("state", .ref s), ("copies", .ref a)]) : Few fs :=
  .inr ⟨h, .ref tb, .ref ta, .int t, .ref s, fun p m => hh p (by
    simp only [List.mem_cons, List.not_mem_nil, or_false] at m ⊢
    rcases m with m | m | m | m
    · exact .inl m
    · exact .inr (.inl m)
    · exact .inr (.inr (.inl m))
    · exact .inr (.inr (.inr (.inl m))))⟩
section
variable {P : Program} {w : World} {K : PySem.W.Frag} {mg : Str → Option Value} {base : Heap}
/-- what the defs of the keeper use of the others -/
structure KDefs (P : Program) (w : World) (K : PySem.W.Frag) (mg : Str → Option Value) (base : Heap) (CK CSt CSi : Addr) where
  fI : Addr
  fS : Addr
  fSi_ : Addr
  O : OC K mg "Keeper" CK fI fKe
  OS : OC K mg "State" CSt fS fSta
  OSi : OC K mg "Site" CSi fSi_ fSi
  aBe : Addr
  dBe : FuncData
  gBe : FnOk P w K mg base CX0 1 aBe dBe ["self", "state"] (spBecome CK CSt CSi)
  bBe : Binds K dBe ["self", "state"] []
  mBe : Meth K CK "become" aBe
  aW : Addr
  dW : FuncData
  gW : FnOk P w K mg base CX0 2 aW dW ["value", "least", "most"] (spWithin K)
  mW : mg "is_within" = some (.ref aW)
  kW : PySem.W.keepIn K (.ref aW) = true
  bW : Binds K dW ["value", "least", "most"] []
  aL : Addr
  dL : FuncData
  gL : FnOk P w K mg base CX0 3 aL dL ["state", "many"] (spLater CSt)
  mL : mg "later" = some (.ref aL)
  kL : PySem.W.keepIn K (.ref aL) = true
  bL : Binds K dL ["state", "many"] []
def spKeep (CK CSt CSi : Addr) : Sp := fun vs H Q _ => ∃ (x dx a : Addr) (rs : List Cp), vs = [.ref x, .ref a, .int 4] ∧ H x = some (.ins CK dx []) ∧ RowsAt H a rs ∧ 1 ≤ rs.length ∧ rs.length ≤ 6 ∧ (∀ r ∈ rs, okRow r) ∧ goodB rs = true ∧
  ∀ H', SameX x H H' → KAt CK CSt CSi H' x rs a 0 0 [] → Q .non H'
theorem scKI : FnScope ["self", "copies", "piece"] ["self", "copies", "piece"] (defScope s_Keeper___init__) := ⟨rfl, rfl, rfl, by decide +kernel, rfl, by decide +kernel, by decide +kernel⟩
theorem ok_keep {f gC gF CK CSt CSi : Addr} {fd fdC fdF fdS : FuncData} (F : FunD K "__init__" "Keeper.__init__" (defArgs s_Keeper___init__) (defBody s_Keeper___init__) (defScope s_Keeper___init__) [] [("piece", .int 4)] f fd) (D : KDefs P w K mg base CK CSt CSi)
    (GC : FnOk P w K mg base CX0 5 gC fdC ["value"] spCheckC) (mgC : mg "check_copies" = some (.ref gC)) (kC : PySem.W.keepIn K (.ref gC) = true) (bC : Binds K fdC ["value"] [])
    (GF : FnOk P w K mg base CX0 7 gF fdF ["site"] (spFirst CSt CSi)) (mgF : mg "first_state" = some (.ref gF)) (kF : PySem.W.keepIn K (.ref gF) = true) (bF : Binds K fdF ["site"] [])
    (GS : FnOk P w K mg base CX0 2 D.fSi_ fdS ["self", "copies", "piece"] (spSite CSi)) (bS : Binds K fdS ["self", "copies", "piece"] []) : FnOk P w K mg base CX0 8 f fd ["self", "copies", "piece"] (spKeep CK CSt CSi) := by
  refine F.ok scKI (fun vs H Q E h => ?_) (fun cdv A outer s H vs Q E hr h => ?_)
  · obtain ⟨_, _, _, _, rfl, _⟩ := h
    rfl
  · obtain ⟨x, dx, a, rs, rfl, hx, hR, h1, h6, hok, hg, h⟩ := h
    have hr1 : Room 1 _ := hr.mono (by decide)
    have hr2 : Room 2 _ := hr.mono (by decide)
    have hr3 : Room 3 _ := hr.mono (by decide)
    have hr5 : Room 5 _ := hr.mono (by decide)
    have no : ∀ {k : Str}, k ∈ fKe → NoAttr K CK k := fun {k} m => D.O.no k m
    refine ⟨_, PSs.nox (pss_cons (ps_expr (pe_call GC hr5 rfl mgC kC bC .nil pass0 (pa_cons (pv 1) pa_nil)))
      (pss_cons (ps_if (pt_not (pt_val (pe_call D.gW hr2 rfl D.mW D.kW D.bW .nil pass0 (pa_cons (pv 2) (pa_cons pe_int (pa_cons pe_int pa_nil)))))) pss_never pss_nil)
      (pss_cons (ps_fld (pv 0) (pv 1) rfl) (pss_cons (ps_fld (pv 0) (pv 2) rfl) (pss_cons (ps_fld (pv 0) (pe_tup pa_nil) rfl) (pss_cons (ps_fld (pv 0) pe_int rfl)
      (pss_one (ps_expr (pe_meth (pv 0) D.O.cl D.mBe D.gBe hr1 D.bBe .nil pass0 (pa_cons (pe_call GF hr rfl mgF kF bF .nil pass0 (pa_cons (pe_make D.OSi.make GS hr3 rfl D.OSi.mgC bS .nil pass0 (pa_cons (pv 1) (pa_cons (pv 2) pa_nil))) pa_nil)) pa_nil)))))))))), ?_⟩
    refine ⟨_, rfl, a, rs, rfl, hR, h1, h6, hok, hg, fun H1 s1 => ?_⟩
    refine ⟨_, rfl, _, 1, 64, rfl, .inl ⟨4, rfl, _, rfl, iteF ?_⟩⟩
    have g0 := (Sf.nil hx).new s1
    refine ⟨_, rfl, _, rfl, x, CK, dx, _, rfl, g0.at_, D.O.cl, no (by decide), g0.lt (by rfl), ?_⟩
    have g1 := g0.put "copies" (.ref a) (by rfl)
    refine ⟨_, rfl, _, rfl, x, CK, dx, _, rfl, g1.at_, D.O.cl, no (by decide), g1.lt (by rfl), ?_⟩
    have g2 := g1.put "piece" (.int 4) (by rfl)
    refine ⟨(by show 0 ≤ sizeLine; decide), fun ti hti => ⟨_, rfl, x, CK, dx, _, rfl, (g2.new (Same.upd hti)).at_, D.O.cl, no (by decide), g2.lt (by rfl), ?_⟩⟩
    have g3 := (g2.new (Same.upd (o := .tup []) hti)).put "inside" (.ref ti) (by rfl)
    refine ⟨_, rfl, x, CK, dx, _, rfl, g3.at_, D.O.cl, no (by decide), g3.lt (by rfl), ?_⟩
    have g4 := g3.put "trials" (.int 0) (by rfl)
    have nm0 : NoM ([] : List (Str × V)) := fun _ _ => rfl
    have nm4 : NoM (putF "trials" (.int 0) (putF "inside" (.ref ti) (putF "piece" (.int 4) (putF "copies" (.ref a) [])))) := (((nm0.put _ _ (by decide)).put _ _ (by decide)).put _ _ (by decide)).put _ _ (by decide)
    generalize ef : putF "trials" (.int 0) (putF "inside" (.ref ti) (putF "piece" (.int 4) (putF "copies" (.ref a) []))) = f4 at g4 nm4
    generalize eH : L2.upd (L2.upd (L2.upd (L2.upd (L2.upd H1 x (.ins CK dx (putF "copies" (.ref a) []))) x (.ins CK dx (putF "piece" (.int 4) (putF "copies" (.ref a) [])))) ti (.tup [])) x (.ins CK dx (putF "inside" (.ref ti) (putF "piece" (.int 4) (putF "copies" (.ref a) []))))) x (.ins CK dx f4) = H4 at g4
    refine ⟨_, rfl, x, dx, f4, rfl, g4.at_, nm4 _ (by decide), ?_⟩
    -- the site
    have hR4 : RowsAt H4 a rs := by
      obtain ⟨o, ts, q1, q2, q3⟩ := hR
      exact ⟨o, ts, g4.sx _ _ (ne_of q1 hx (by intro z; cases z)) q1, q2, paired_imp (fun t r e => g4.sx _ _ (ne_of e hx (by intro z; cases z)) e) q3⟩
    refine ⟨_, rfl, _, rfl, fun y dy hy hdy nyd => ?_⟩
    refine ⟨y, dy, a, .int 4, rs, rfl, upd_same, (hR4.same (Same.upd hdy)).same (Same.upd (by rw [upd_ne (Ne.symm nyd)]; exact hy)), h6, hg, fun H5 da s5 hda ho => ⟨rfl, ?_⟩⟩
    have s45 := madeSame hy hdy s5
    obtain ⟨dS, fsS, hyS, hyl, hyh⟩ := ho
    refine ⟨y, dS, fsS, .int 4, rfl, hyS, hyh.at_ 1 rfl, fun H6 s0 d1 d2 d3 pic s6 hs0 hA hT hSt => ?_⟩
    have s46 := s45.trans s6
    refine ⟨x, s0, dx, f4, ⟨.ref y, 0, 0, .ref d1, .ref d2, .ref d3, .ref pic⟩, rs, [], a, rfl, s46 _ _ g4.at_, .inl g4.len, nm4, g4.has.at_ 3 rfl, ⟨hSt, ⟨d1, rfl, hA⟩, ⟨d2, rfl, hT⟩, ⟨y, da, _, rfl, ⟨dS, fsS, s6 _ _ hyS, hyl, hyh⟩, hda.same s6⟩, .nil, (fun _ m => nomatch m), Nat.zero_le _⟩, fun H' sx hK => ?_⟩
    exact h H' ((g4.sx.trans (Same.x s46 x)).trans sx) hK
/-! ### wait -/
def spWait (CK CSt CSi CB : Addr) : Sp := fun vs H Q E => ∃ (k a : Addr) (rs : List Cp) (t u : Int) (ns : List Int) (v : V), vs = [.ref k, v] ∧ KAt CK CSt CSi H k rs a t u ns ∧
  ((∃ n, v = .int n ∧ 1 ≤ n ∧ n ≤ 1000 ∧ ∀ H', SameX k H H' → KAt CK CSt CSi H' k rs a (t + n) u ns → Q .non H') ∨
    ((NoInt K H v ∨ ∃ n, v = .int n ∧ ¬ (1 ≤ n ∧ n ≤ 1000)) ∧ mkBad CB v E H))
theorem scWt : FnScope ["self", "many"] ["self", "many"] (defScope s_Keeper_wait) := ⟨rfl, rfl, rfl, by decide +kernel, rfl, by decide +kernel, by decide +kernel⟩
theorem ok_wait {f CK CSt CSi CB CE fB : Addr} {fd fdB : FuncData} (F : Fun K "wait" "Keeper.wait" s_Keeper_wait f fd) (D : KDefs P w K mg base CK CSt CSi) (B : BadC K mg "BadCount" CB CE fB)
    (GB : FnOk P w K mg base CX0 2 fB fdB ["self", "value"] (spBadInit CB)) (bB : Binds K fdB ["self", "value"] []) : FnOk P w K mg base (L2.CX P w) 4 f fd ["self", "many"] (spWait (K := K) CK CSt CSi CB) := by
  refine F.okX scWt (fun vs H Q E h => ?_) (fun cdv A outer s H vs Q E hr h => ?_)
  · obtain ⟨_, _, _, _, _, _, _, rfl, _⟩ := h
    rfl
  · obtain ⟨k, a, rs, t, u, ns, v, rfl, ⟨dx, s0, ta, tb, fs, z, hk, hl, hh, hS, ezt, ezu, hnm, _, _⟩, hv⟩ := h
    have hr1 : Room 1 _ := hr.mono (by decide)
    have hr2 : Room 2 _ := hr.mono (by decide)
    have no : ∀ {k : Str}, k ∈ fKe → NoAttr K CK k := fun {k} m => D.O.no k m
    refine ⟨_, pss_cons (ps_if (pt_not (pt_val (pe_call D.gW hr2 rfl D.mW D.kW D.bW .nil pass0 (pa_cons (pv 1) (pa_cons pe_int (pa_cons pe_int pa_nil))))))
        (pss_one (ps_raise rfl (takes_of rfl rfl rfl rfl) (pmk_oex B.ox B.ini B.fn GB hr bB .nil pass0 rfl B.mgB (pa_cons (pv 1) pa_nil)))) pss_nil)
      (pss_one (ps_expr (pe_meth (pv 0) D.O.cl D.mBe D.gBe hr1 D.bBe .nil pass0 (pa_cons (pe_call D.gL hr rfl D.mL D.kL D.bL .nil pass0 (pa_cons (pe_fld (pv 0) rfl) (pa_cons (pv 1) pa_nil))) pa_nil)))), ?_⟩
    rcases hv with ⟨n, rfl, n1, n2, h⟩ | ⟨q, h⟩
    · refine ⟨_, rfl, _, 1, 1000, rfl, .inl ⟨n, rfl, _, rfl, ?_⟩⟩
      rw [decide_eq_true n1, decide_eq_true n2]
      refine iteF ?_
      refine ⟨_, rfl, k, dx, fs, rfl, hk, hnm _ (by decide), ?_⟩
      refine ⟨_, rfl, k, CK, dx, fs, _, rfl, hk, D.O.cl, no (by decide), hh.at_ 3 rfl, _, rfl, s0, n, z, rfl, hS.st, fun H1 y s1 hy o => ?_⟩
      refine ⟨k, y, dx, fs, { z with time := z.time + n }, rs, ns, a, rfl, s1 _ _ hk, KAt.few (CK := CK) (CSt := CSt) (CSi := CSi) hl hh, hnm, hh.at_ 4 rfl, ?_, fun H' sx hK => ?_⟩
      · have S1 := hS.same s1
        exact ⟨o, S1.asks, S1.told, S1.site, S1.asc, S1.low, S1.sml⟩
      · rw [show z.time + n = t + n by rw [ezt], show z.up = u from ezu] at hK
        exact h H' (fun b e nb q => sx b e nb (s1 _ _ q)) hK
    · rcases q with q | ⟨n, rfl, q⟩
      · exact ⟨_, rfl, _, 1, 1000, rfl, .inr ⟨q, _, rfl, iteT ⟨_, rfl, bad_mk h⟩⟩⟩
      · refine ⟨_, rfl, _, 1, 1000, rfl, .inl ⟨n, rfl, _, rfl, ?_⟩⟩
        have e : (decide (1 ≤ n) && decide (n ≤ 1000)) = false := by
          rw [Bool.eq_false_iff]
          intro y
          obtain ⟨y1, y2⟩ := Bool.and_eq_true_iff.mp y
          exact q ⟨of_decide_eq_true y1, of_decide_eq_true y2⟩
        rw [e]
        exact iteT ⟨_, rfl, bad_mk h⟩
/-! ### lost -/
def spLost (CK CSt CSi CB : Addr) : Sp := fun vs H Q E => ∃ (k a : Addr) (rs : List Cp) (t u : Int) (ns : List Int) (v : V) (o : Option Int), vs = [.ref k, v] ∧ KAt CK CSt CSi H k rs a t u ns ∧ NumV K H ns v o ∧
  (∀ n, o = some n → ∀ H', SameX k H H' → KAt CK CSt CSi H' k rs a (t + 1) u (ns.filter fun m => decide (m ≠ n)) → Q .non H') ∧ (o = none → mkBad CB v E H)
theorem scLo : FnScope ["self", "number"] ["self", "number"] (defScope s_Keeper_lost) := ⟨rfl, rfl, rfl, by decide +kernel, rfl, by decide +kernel, by decide +kernel⟩
theorem ok_lost {f gA gL CK CSt CSi CB : Addr} {fd fdA fdL : FuncData} (F : Fun K "lost" "Keeper.lost" s_Keeper_lost f fd) (D : KDefs P w K mg base CK CSt CSi)
    (GA : FnOk P w K mg base (L2.CX P w) 4 gA fdA ["state", "value"] (spCheckAsk (K := K) CB CSt)) (mgA : mg "check_ask" = some (.ref gA)) (kA : PySem.W.keepIn K (.ref gA) = true) (bA : Binds K fdA ["state", "value"] [])
    (GL : FnOk P w K mg base CX0 5 gL fdL ["state", "number"] (spAfterLoss CSt)) (mgL : mg "after_loss" = some (.ref gL)) (kL : PySem.W.keepIn K (.ref gL) = true) (bL : Binds K fdL ["state", "number"] []) :
    FnOk P w K mg base (L2.CX P w) 6 f fd ["self", "number"] (spLost (K := K) CK CSt CSi CB) := by
  refine F.okX scLo (fun vs H Q E h => ?_) (fun cdv A outer s H vs Q E hr h => ?_)
  · obtain ⟨_, _, _, _, _, _, _, _, rfl, _⟩ := h
    rfl
  · obtain ⟨k, a, rs, t, u, ns, v, o, rfl, ⟨dx, s0, ta, tb, fs, z, hk, hl, hh, hS, ezt, ezu, hnm, _, _⟩, hv, good, bad⟩ := h
    have hr1 : Room 1 _ := hr.mono (by decide)
    have hr4 : Room 4 _ := hr.mono (by decide)
    have no : ∀ {k : Str}, k ∈ fKe → NoAttr K CK k := fun {k} m => D.O.no k m
    obtain ⟨d, ed, hA⟩ := hS.asks
    have nd : ns.Nodup := hS.asc.imp fun h => Int.ne_of_lt h
    refine ⟨_, pss_cons (ps_expr (pe_call GA hr4 rfl mgA kA bA .nil (passes_call (takes_of rfl rfl rfl rfl) fun _ _ _ _ h => h) (pa_cons (pe_fld (pv 0) rfl) (pa_cons (pv 1) pa_nil))))
      (pss_one (ps_expr (pe_meth (pv 0) D.O.cl D.mBe D.gBe hr1 D.bBe .nil pass0 (pa_cons (pe_call GL hr rfl mgL kL bL .nil pass0 (pa_cons (pe_fld (pv 0) rfl) (pa_cons (pv 1) pa_nil))) pa_nil)))), ?_⟩
    refine ⟨_, rfl, k, CK, dx, fs, _, rfl, hk, D.O.cl, no (by decide), hh.at_ 3 rfl, _, rfl, s0, d, z, v, ns, o, rfl, hS.st, ed, hA, hv, fun ho => ?_, fun ho => bad (by cases o with | none => rfl | some _ => cases ho)⟩
    cases hv with
    | out n m => cases ho
    | no q => cases ho
    | yes n m =>
      refine ⟨_, rfl, k, dx, fs, rfl, hk, hnm _ (by decide), ?_⟩
      refine ⟨_, rfl, k, CK, dx, fs, _, rfl, hk, D.O.cl, no (by decide), hh.at_ 3 rfl, _, rfl, s0, d, n, z, ns, rfl, hS.st, ed, hA, nd, hS.sml, fun H1 y d' s1 hy hA1 o1 => ?_⟩
      refine ⟨k, y, dx, fs, { z with time := z.time + 1, asks := .ref d' }, rs, ns.filter fun m => decide (m ≠ n), a, rfl, s1 _ _ hk, KAt.few (CK := CK) (CSt := CSt) (CSi := CSi) hl hh, hnm, hh.at_ 4 rfl, ?_, fun H' sx hK => ?_⟩
      · have S1 := hS.same s1
        exact ⟨o1, ⟨d', rfl, hA1⟩, S1.told, S1.site, S1.asc.filter _, fun m mm => S1.low m ((List.mem_filter.mp mm).1), Nat.le_trans (List.length_filter_le _ _) S1.sml⟩
      · rw [show z.time + 1 = t + 1 by rw [ezt], show z.up = u from ezu] at hK
        exact good n rfl H' (fun b e nb q => sx b e nb (s1 _ _ q)) hK
end
end Sps
set_option Elab.async false
set_option linter.all false
set_option maxRecDepth 100000
set_option maxHeartbeats 4000000
/-! Keepers asking; a method called with keywords. -/
namespace Sps
open PySem PySem.Spec PyProof.Rows L2
/-! ### o.m(e, .., k = v, ..) -/
def tMethN (C : Addr) (m : Str) (n j : Nat) (sp : Sp) (gV : List V → List V → List V) (E : XK) (ta : TE) (t tk : TA) : TE := fun σ H Q => ta σ H fun x H1 => ∃ a dx fs, x = .ref a ∧ H1 a = some (.ins C dx fs) ∧ fs.lookup m = none ∧
  t σ H1 fun vs H2 => tk σ H2 fun zs H3 => vs.length = n ∧ zs.length = j ∧ sp (gV (x :: vs) zs) H3 Q E
theorem pe_methN {X : Cx} {CX : CXT} {k n : Nat} {f C : Addr} {fd : FuncData} {ps ks : List Str} {sp : Sp} {E : XK} {m : Str} {pos apos : Pos} {e o : Expr} {es : List Expr} {kws : List Keyword} {ta : TE} {t tk : TA} {g : List Value → List Value → List Value} {gV : List V → List V → List V} {pl : Sem Bool} (he : PE X o ta) (c : Cls X.K C) (hm : Meth X.K C m f)
    (F : FnOk X.prog X.w X.K X.mg X.base CX k f fd ps sp) (hr : Room k X.A) (hb : KBn X.K fd ps (n + 1) ks g gV) (hx : Passes CX X E) (ha : PA X (e :: es) t) (hkw : PK X kws tk)
    (hall : (backToKw pos (keywordEach kws X.env)).all (·.1.isSome) = true := by rfl) (hks : (backToKw pos (keywordEach kws X.env)).filterMap (·.1) = ks := by rfl)
    (hst : starEach (e :: es) X.env = (false, eval e X.env) :: starEach es X.env := by rfl) (hpl : ((backTo pos (starEach (e :: es) X.env)).any (·.1) || (backToKw pos (keywordEach kws X.env)).any (·.1.isNone)) = false := by rfl)
    (ht : eval (.Call (.Attribute o m apos) (e :: es) kws pos) X.env = (do
      let ov ← eval o X.env
      standAt apos.atName
      let (f, first) ← holding [ov] (getMethod ov m pl)
      callWith pos f first (backTo pos (starEach (e :: es) X.env)) (backToKw pos (keywordEach kws X.env))) := by rfl) :
    PE X (.Call (.Attribute o m apos) (e :: es) kws pos) (tMethN C m n ks.length sp gV E ta t tk) := by
  refine ⟨fun pins s σ H Q I h => ?_⟩
  refine PySem.W.methodCall_KW (pl := pl) (thn (he.run pins s σ H _ I h) fun u s1 ⟨x, H1, I1, rx, a, dx, fs, ex, ea, l, q⟩ => ?_) ht
  subst ex
  obtain rfl : u = Value.ref a := rx
  refine getmeth_ok I1 ea c hm l ?_
  refine PySem.W.callWith_KW (first := [.ref a]) (h₀ := X.base) I.ok.mod.kin hm.kp hall (thn (ha.run pos pins s1 σ H1 _ I1 q) fun us s2 ⟨vs, H2, I2, r, q2⟩ => ?_) hpl hst
  refine thn (hkw.run pos pins s2 σ H2 _ I2 q2) fun ws s3 ⟨zs, H3, I3, rz, l1, l2, q3⟩ => ⟨I3.kIn, ?_⟩
  rw [hks]
  exact run_fnN (us := .ref a :: us) (vs := .ref a :: vs) F hr hb hx I3 (.cons rfl r) rz (by rw [List.length_cons, l1]) l2 q3
section
variable {P : Program} {w : World} {K : PySem.W.Frag} {mg : Str → Option Value} {base : Heap}
/-- spans that may be handed in: none, or of the class, or not -/
inductive SpnV (K : PySem.W.Frag) (CS : Addr) (H : Hp) : V → Bool → Prop
  | non : SpnV K CS H .non true
  | of {v : V} {b : Bool} (n : v ≠ .non) (h : OfC K CS H v b) : SpnV K CS H v b
/-- a mark that may be asked for: none, or a word, or not -/
inductive OnlyV (K : PySem.W.Frag) (H : Hp) : V → Bool → Prop
  | non : OnlyV K H .non true
  | of {v : V} {o : Option Str} (n : v ≠ .non) (h : StrV K H v o) : OnlyV K H v (okS wordL o)
def spAsk (CK CSt CSi CS BC BS BW : Addr) : Sp := fun vs H Q E => ∃ (k a : Addr) (rs : List Cp) (t u : Int) (ns : List Int) (vc vsp vo : V) (o : Option Str) (b1 b2 : Bool), vs = [.ref k, vc, vsp, vo] ∧ KAt CK CSt CSi H k rs a t u ns ∧ ns.length < 1000 ∧ 0 ≤ u ∧ StrV K H vc o ∧ SpnV K CS H vsp b1 ∧ OnlyV K H vo b2 ∧
  (inName rs o = false → mkBad BC vc E H) ∧ (inName rs o = true → b1 = false → mkBad BS vsp E H) ∧ (inName rs o = true → b1 = true → b2 = false → mkBad BW vo E H) ∧
  (inName rs o = true → b1 = true → b2 = true → ∀ H', SameX k H H' → KAt CK CSt CSi H' k rs a (t + 1) (u + 1) (ns ++ [u]) → Q (.int u) H')
theorem StrV.same {H H' : Hp} {v : V} {o : Option Str} (h : StrV K H v o) (k : ∀ t, TyX K H v t → TyX K H' v t) : StrV K H' v o := by
  cases h with
  | yes z q => exact .yes z q
  | no ty e => exact .no (k _ ty) e
abbrev nKA : List Str := ["self", "copy", "spans", "only", "number"]
theorem scKA : FnScope nKA ["self", "copy", "spans", "only"] (defScope s_Keeper_ask) := ⟨rfl, rfl, rfl, by decide +kernel, rfl, by decide +kernel, by decide +kernel⟩
theorem ok_ask {f gC gP gW gA CK CSt CSi CS BC BS BW CE fW : Addr} {fd fdC fdP fdW fdA fdB : FuncData} {dv : List V} {kw : List (Str × V)} (F : FunD K "ask" "Keeper.ask" (defArgs s_Keeper_ask) (defBody s_Keeper_ask) (defScope s_Keeper_ask) dv kw f fd) (D : KDefs P w K mg base CK CSt CSi)
    (GC : FnOk P w K mg base (L2.CX P w) 4 gC fdC ["site", "value"] (spCheckCopy (K := K) BC CSi)) (mgC : mg "check_copy" = some (.ref gC)) (kC : PySem.W.keepIn K (.ref gC) = true) (bC : Binds K fdC ["site", "value"] [])
    (GP : FnOk P w K mg base (L2.CX P w) 4 gP fdP ["value"] (spCheckSpans (K := K) BS CS)) (mgP : mg "check_spans" = some (.ref gP)) (kP : PySem.W.keepIn K (.ref gP) = true) (bP : Binds K fdP ["value"] [])
    (GW : FnOk P w K mg base CX0 2 gW fdW ["value"] (spWord K)) (mgW : mg "is_word" = some (.ref gW)) (kW : PySem.W.keepIn K (.ref gW) = true) (bW : Binds K fdW ["value"] [])
    (GA : FnOk P w K mg base CX0 4 gA fdA ["state", "source", "spans", "only"] (spAfterAsk CSt)) (mgA : mg "after_ask" = some (.ref gA)) (kA : PySem.W.keepIn K (.ref gA) = true) (bA : Binds K fdA ["state", "source", "spans", "only"] [])
    (B : BadC K mg "BadWord" BW CE fW) (GB : FnOk P w K mg base CX0 2 fW fdB ["self", "value"] (spBadInit BW)) (bB : Binds K fdB ["self", "value"] []) :
    FnOk P w K mg base (L2.CX P w) 5 f fd ["self", "copy", "spans", "only"] (spAsk (K := K) CK CSt CSi CS BC BS BW) := by
  refine F.ok scKA (fun vs H Q E h => ?_) (fun cdv A outer s H vs Q E hr h => ?_)
  · obtain ⟨_, _, _, _, _, _, _, _, _, _, _, _, rfl, _⟩ := h
    rfl
  · obtain ⟨k, a, rs, t, u, ns, vc, vsp, vo, o, b1, b2, rfl, ⟨dx, s0, ta, tb, fs, z, hk, hl, hh, hS, ezt, ezu, hnm, _, _⟩, hns, hu0, hvc, hvs, hvo, badC, badS, badW, good⟩ := h
    have hr1 : Room 1 _ := hr.mono (by decide)
    have hr2 : Room 2 _ := hr.mono (by decide)
    have hr3 : Room 3 _ := hr.mono (by decide)
    have no : ∀ {k : Str}, k ∈ fKe → NoAttr K CK k := fun {k} m => D.O.no k m
    have noS : ∀ {k : Str}, k ∈ fSta → NoAttr K CSt k := fun {k} m => D.OS.no k m
    obtain ⟨dS, fsS, hs0, hsl, hsh⟩ := id hS.st
    obtain ⟨st, da, l, est, hst, hab⟩ := hS.site
    refine ⟨_, pss_cons (ps_expr (pe_call GC hr rfl mgC kC bC .nil (passes_call (takes_of rfl rfl rfl rfl) fun _ _ _ _ h => h) (pa_cons (pe_fld (pe_fld (pv 0) rfl) rfl) (pa_cons (pv 1) pa_nil))))
      (pss_cons (ps_if (pt_cmpR op_notN (pv 2) pe_non (nomark _)) (pss_one (ps_expr (pe_call GP hr rfl mgP kP bP .nil (passes_call (takes_of rfl rfl rfl rfl) fun _ _ _ _ h => h) (pa_cons (pv 2) pa_nil)))) pss_nil)
      (pss_cons (ps_if (PW.pt (pw_and (pt_cmpR op_notN (pv 3) pe_non (nomark _)) (pw_and1 (pt_not (pt_val (pe_call GW hr2 rfl mgW kW bW .nil pass0 (pa_cons (pv 3) pa_nil)))))))
        (pss_one (ps_raise rfl (takes_of rfl rfl rfl rfl) (pmk_oex B.ox B.ini B.fn GB hr3 bB .nil pass0 rfl B.mgB (pa_cons (pv 3) pa_nil)))) pss_nil)
      (pss_cons (ps_set (i := 4) scKA.nd rfl (Or.inl rfl) (pe_fld (pe_fld (pv 0) rfl) rfl))
      (pss_cons (ps_expr (pe_meth (pv 0) D.O.cl D.mBe D.gBe hr1 D.bBe .nil pass0 (pa_cons (pe_call GA hr rfl mgA kA bA .nil pass0 (pa_cons (pe_fld (pv 0) rfl) (pa_cons (pv 1) (pa_cons (pv 2) (pa_cons (pv 3) pa_nil))))) pa_nil)))
      (pss_one (ps_ret (pv 4))))))), ?_⟩
    refine ⟨_, rfl, k, CK, dx, fs, _, rfl, hk, D.O.cl, no (by decide), hh.at_ 3 rfl, s0, CSt, dS, fsS, _, rfl, hs0, D.OS.cl, noS (by decide), hsh.at_ 6 rfl, _, rfl, st, da, vc, o, rs, l, by rw [est]; rfl, hst, hab, hvc, fun c1 => ?_, badC⟩
    -- the spans
    have step2 : ∀ {tt : TS} {D' : Ends} {σ : L2.St}, (b1 = true → tt D' σ H) → (b1 = false → mkBad BS vsp E H) → True := fun _ _ => trivial
    have rest : b1 = true → ∀ (H1 : Hp), Same H H1 → (b2 = true → KSt CSt CSi H1 s0 z rs ns ∧ H1 k = some (.ins CK dx fs)) := fun _ H1 s1 _ => ⟨hS.same s1, s1 _ _ hk⟩
    have tail : ∀ (H1 : Hp), Same H H1 → b1 = true → b2 = true → (tSeq (tAsg (tFld K (tFld K (tVar 0) "state") "upcoming") (gName 4)) (tSeq (tDrop (tMeth CK "become" (spBecome CK CSt CSi) [] E0 (tVar 0) (tCons (tCall (spAfterAsk CSt) [] E0 (tCons (tFld K (tVar 0) "state") (tCons (tVar 1) (tCons (tVar 2) (tCons (tVar 3) tNil))))) tNil))) (tRet (tVar 4))))
        { nx := fun _ H' => Q .non H', rt := Q } (L2.start nKA [.ref k, vc, vsp, vo]) H1 := fun H1 s1 c2 c3 => by
      have S1 := hS.same s1
      obtain ⟨dS1, fsS1, hs1, hsl1, hsh1⟩ := id S1.st
      obtain ⟨d, ed, hA⟩ := S1.asks
      have hk1 := s1 _ _ hk
      refine ⟨_, rfl, k, CK, dx, fs, _, rfl, hk1, D.O.cl, no (by decide), hh.at_ 3 rfl, s0, CSt, dS1, fsS1, _, rfl, hs1, D.OS.cl, noS (by decide), hsh1.at_ 4 rfl, ?_⟩
      refine ⟨_, rfl, k, dx, fs, rfl, hk1, hnm _ (by decide), _, rfl, k, CK, dx, fs, _, rfl, hk1, D.O.cl, no (by decide), hh.at_ 3 rfl, _, rfl, _, rfl, _, rfl, s0, d, vc, vsp, vo, z, ns, rfl, S1.st, ed, hA, ?_, S1.sml, fun H2 y d' s2 hy hA2 o2 => ?_⟩
      · intro m
        have := (S1.low _ m).2
        omega
      · refine ⟨k, y, dx, fs, { z with time := z.time + 1, up := z.up + 1, asks := .ref d' }, rs, ns ++ [z.up], a, rfl, s2 _ _ hk1, KAt.few (CK := CK) (CSt := CSt) (CSi := CSi) hl hh, hnm, hh.at_ 4 rfl, ?_, fun H' sx hK => ?_⟩
        · have S2 := S1.same s2
          refine ⟨o2, ⟨d', rfl, hA2⟩, S2.told, S2.site, ?_, ?_, ?_⟩
          · refine List.pairwise_append.mpr ⟨S2.asc, List.pairwise_singleton _ _, fun x hx y hy => ?_⟩
            rw [List.mem_singleton.mp hy]
            exact (S2.low x hx).2
          · intro m hm
            show 0 ≤ m ∧ m < z.up + 1
            rcases List.mem_append.mp hm with q | q
            · have := S2.low m q
              omega
            · rw [List.mem_singleton.mp q]
              omega
          · rw [List.length_append]
            show ns.length + 1 ≤ 1000
            omega
        · refine ⟨_, rfl, ?_⟩
          rw [show z.time + 1 = t + 1 by rw [ezt], show z.up = u from ezu] at hK
          show Q (.int z.up) H'
          rw [ezu]
          exact good c1 c2 c3 H' (fun b e nb q => sx b e nb (s2 _ _ (s1 _ _ q))) hK
    -- the mark
    have mark : ∀ (c2 : b1 = true), (tSeq (tIfS (tAnd (tTest (tOp (fun x y H Q => y = .non ∧ Q (.bl (!decide (x = .non))) H) (tVar 3) (tC .non))) (tNot (tB (tCall (spWord K) [] E0 (tCons (tVar 3) tNil)))))
        (fun _ σ H => tMkO BW (spBadInit BW) [] (tCons (tVar 3) tNil) σ H fun cls d H' => E cls d H') tNext) (tSeq (tAsg (tFld K (tFld K (tVar 0) "state") "upcoming") (gName 4)) (tSeq (tDrop (tMeth CK "become" (spBecome CK CSt CSi) [] E0 (tVar 0) (tCons (tCall (spAfterAsk CSt) [] E0 (tCons (tFld K (tVar 0) "state") (tCons (tVar 1) (tCons (tVar 2) (tCons (tVar 3) tNil))))) tNil))) (tRet (tVar 4)))))
        { nx := fun _ H' => Q .non H', rt := Q } (L2.start nKA [.ref k, vc, vsp, vo]) H := fun c2 => by
      cases hvo with
      | non => exact ⟨_, rfl, rfl, _, rfl, iteNS rfl (iteF (tail H (Same.refl H) c2 rfl))⟩
      | @of _ ow nn hw =>
        refine ⟨_, rfl, rfl, _, rfl, iteNS_not nn ⟨_, rfl, vo, ow, rfl, hw, fun H1 s1 => ⟨_, rfl, ?_⟩⟩⟩
        cases q : okS wordL ow with
        | true => exact iteF (tail H1 s1 c2 q)
        | false => exact iteT ⟨_, rfl, bad_mk ((badW c1 c2 q).same s1)⟩
    cases hvs with
    | non => exact ⟨_, rfl, rfl, _, rfl, iteNS rfl (mark rfl)⟩
    | @of _ _ nn ho =>
      refine ⟨_, rfl, rfl, _, rfl, iteNS_not nn ⟨_, rfl, vsp, b1, rfl, ho, fun c2 => mark c2, fun c2 => badS c1 c2⟩⟩
end
end Sps
set_option Elab.async false
set_option linter.all false
set_option maxRecDepth 100000
set_option maxHeartbeats 4000000
/-! The law's drawing. -/
namespace Sps
open PySem PySem.Spec PyProof.Rows L2
/-- the pot of the drawing, after at most n draws by counting -/
def PotOk (n : Int) (H : Hp) (l : Addr) : Prop := ∃ a m c : Int, H l = some (.lst [.int a, .int m, .int c]) ∧ 0 ≤ m ∧ m < 2305843009213693951 ∧ 0 ≤ c ∧ c ≤ n
theorem PotOk.mono {n n' : Int} {H : Hp} {l : Addr} (h : PotOk n H l) (e : n ≤ n') : PotOk n' H l := let ⟨a, m, c, h1, h2, h3, h4, h5⟩ := h; ⟨a, m, c, h1, h2, h3, h4, Int.le_trans h5 e⟩
theorem PotOk.same {n : Int} {H H' : Hp} {l : Addr} (h : PotOk n H l) (s : Same H H') : PotOk n H' l := let ⟨a, m, c, h1, h2⟩ := h; ⟨a, m, c, s _ _ h1, h2⟩
def primes : List V := [.int 2147483647, .int 2147483629, .int 2147483587, .int 2147483579, .int 2147483563]
theorem prime_at (c : Int) : ∃ v : Int, atI primes (c % 5) = some (.int v) ∧ 0 < v ∧ v ≤ 2147483647 := by
  have h0 := Int.emod_nonneg c (by decide : (5 : Int) ≠ 0)
  have h1 := Int.emod_lt_of_pos c (by decide : (0 : Int) < 5)
  have cases5 : c % 5 = 0 ∨ c % 5 = 1 ∨ c % 5 = 2 ∨ c % 5 = 3 ∨ c % 5 = 4 := by omega
  rcases cases5 with e | e | e | e | e <;> rw [e]
  · exact ⟨2147483647, by decide +kernel, by decide, by decide⟩
  · exact ⟨2147483629, by decide +kernel, by decide, by decide⟩
  · exact ⟨2147483587, by decide +kernel, by decide, by decide⟩
  · exact ⟨2147483579, by decide +kernel, by decide, by decide⟩
  · exact ⟨2147483563, by decide +kernel, by decide, by decide⟩
/-- both ways of a conditional expression give a value of which the same is known -/
theorem if_read {c : Bool} {ta tb : TE} {σ : L2.St} {H : Hp} {Q : VK} {W : V → Prop} (h1 : c = true → ∀ Q' : VK, (∀ v, W v → Q' v H) → ta σ H Q') (h2 : ¬ c = true → ∀ Q' : VK, (∀ v, W v → Q' v H) → tb σ H Q') (h : ∀ v, W v → Q v H) :
    if c = true then ta σ H Q else tb σ H Q := ite2 (fun e => h1 e Q h) fun e => h2 e Q h
section
variable {P : Program} {w : World} {K : PySem.W.Frag} {mg : Str → Option Value} {base : Heap}
def spDraw : Sp := fun vs H Q _ => ∃ (l : Addr) (many n : Int), vs = [.ref l, .int many] ∧ PotOk n H l ∧ n ≤ 100000 ∧ 0 < many ∧ many < 1000000 ∧
  ∀ (H' : Hp) (r : Int), SameX l H H' → PotOk (n + 1) H' l → 0 ≤ r → r < many → Q (.int r) H'
theorem scD : FnScope ["_law_pot_here", "_law_many", "_law_digit", "_law_prime", "_law_made"] ["_law_pot_here", "_law_many"] (defScope s__law_draw) := ⟨rfl, rfl, rfl, by decide +kernel, rfl, by decide +kernel, by decide +kernel⟩
theorem ok_draw {f : Addr} {fd : FuncData} (F : Fun K "_law_draw" "_law_draw" s__law_draw f fd) (T : Names mg) : FnOk P w K mg base CX0 2 f fd ["_law_pot_here", "_law_many"] spDraw := by
  refine F.ok scD (fun vs H Q E h => ?_) (fun cdv A outer s H vs Q E hr h => ?_)
  · obtain ⟨l, many, n, rfl, _⟩ := h
    rfl
  · obtain ⟨l, many, n, rfl, ⟨a, m, c, hl, hm0, hm1, hc0, hc1⟩, hn, hm, hm2, k⟩ := h
    refine ⟨_, pss_cons (ps_if (pt_cmpR op_gt (pe_ix ix_list (pv 0) pe_int (fun _ _ => rfl)) pe_int (nomark _))
        (pss_cons (ps_set (i := 2) scD.nd rfl (Or.inl rfl) (pe_op op_mod (pe_callTy call_int1 (by rfl) T.int (by decide +kernel) (pa_cons (pe_ix ix_list (pv 0) pe_int (fun _ _ => rfl)) pa_nil)) (pv 1)))
        (pss_cons (ps_asg (pe_op op_fdiv (pe_ix ix_list (pv 0) pe_int (fun _ _ => rfl)) (pv 1)) (pg_sub (pv 0) pe_int set_list))
        (pss_one (ps_ret (pv 2))))) pss_nil)
      (pss_cons (ps_asg (pe_op op_add (pe_ix ix_list (pv 0) pe_int (fun _ _ => rfl)) pe_int) (pg_sub (pv 0) pe_int set_list))
      (pss_cons (ps_set (i := 3) scD.nd rfl (Or.inl rfl) (pe_ix ix_list (pe_lst (pa_cons pe_int (pa_cons pe_int (pa_cons pe_int (pa_cons pe_int (pa_cons pe_int pa_nil))))))
          (pe_op op_mod (pe_callTy call_int1 (by rfl) T.int (by decide +kernel) (pa_cons (pe_ix ix_list (pv 0) pe_int (fun _ _ => rfl)) pa_nil)) pe_int) (fun _ _ => rfl)))
      (pss_cons (ps_set (i := 4) scD.nd rfl (Or.inl rfl) (pe_op op_mod (pe_callTy call_int1 (by rfl) T.int (by decide +kernel) (pa_cons (pe_op op_pow (pe_op op_add (pe_op op_add (pe_ix ix_list (pv 0) pe_int (fun _ _ => rfl))
            (pe_op op_mul (pe_op op_mul pe_int (pe_ix ix_list (pv 0) pe_int (fun _ _ => rfl))) (pe_ix ix_list (pv 0) pe_int (fun _ _ => rfl)))) pe_int) pe_int) pa_nil)) (pv 3)))
      (pss_cons (ps_set (i := 4) scD.nd rfl (Or.inl rfl) (pe_op op_mod (pe_callTy call_int1 (by rfl) T.int (by decide +kernel) (pa_cons (pe_op op_mul (pv 4)
            (pe_op op_add (pe_op op_mod (pe_callTy call_int1 (by rfl) T.int (by decide +kernel) (pa_cons (pv 4) pa_nil)) pe_int) (pe_op op_mul pe_int (pe_ix ix_list (pv 0) pe_int (fun _ _ => rfl))))) pa_nil)) pe_int))
      (pss_one (ps_ret (pe_op op_mod (pe_callTy call_int1 (by rfl) T.int (by decide +kernel) (pa_cons (pe_op op_fdiv (pv 4) pe_int) pa_nil)) (pv 1)))))))), ?_⟩
    refine ⟨_, rfl, l, _, 0, _, rfl, rfl, SqL.of hl, atI_nat (j := 0) rfl, _, _, rfl, rfl, _, rfl, ?_⟩
    refine ite2 (fun _ => ?_) (fun _ => ?_)
    · refine ⟨_, rfl, l, _, 0, _, rfl, rfl, SqL.of hl, atI_nat (j := 0) rfl, .inl ⟨a, rfl, _, rfl, _, _, rfl, rfl, hm, ?_⟩⟩
      refine ⟨_, rfl, l, _, 0, _, rfl, rfl, SqL.of hl, atI_nat (j := 0) rfl, _, rfl, _, _, rfl, rfl, ⟨hm, by omega⟩, ?_⟩
      refine ⟨_, rfl, l, _, 0, 0, rfl, rfl, hl, (by show ixN 3 0 = some 0; decide +kernel), ?_⟩
      refine ⟨_, rfl, ?_⟩
      exact k _ _ SameX.upd ⟨a / many, m, c, upd_same, hm0, hm1, hc0, by omega⟩ (Int.emod_nonneg _ (by omega)) (Int.emod_lt_of_pos _ hm)
    · refine ⟨_, rfl, l, _, 2, _, rfl, rfl, SqL.of hl, atI_nat (j := 2) rfl, _, _, rfl, rfl, ?_⟩
      refine ⟨_, rfl, l, _, 2, 2, rfl, rfl, hl, (by show ixN 3 2 = some 2; decide +kernel), ?_⟩
      -- pot[2] is one greater
      have hl1 : (L2.upd H l (.lst [.int a, .int m, .int (c + 1)])) l = some (.lst [.int a, .int m, .int (c + 1)]) := upd_same
      refine ⟨by show 5 ≤ sizeLine; decide, fun p hp => ?_⟩
      have pl : l ≠ p := ne_of_none hl1 hp
      have hl2 : (L2.upd (L2.upd H l (.lst [.int a, .int m, .int (c + 1)])) p (.lst primes)) l = some (.lst [.int a, .int m, .int (c + 1)]) := by rw [upd_ne pl]; exact hl1
      obtain ⟨v, hv, v0, v1⟩ := prime_at (c + 1)
      refine ⟨_, rfl, l, _, 2, _, rfl, rfl, SqL.of hl2, atI_nat (j := 2) rfl, .inl ⟨c + 1, rfl, _, _, rfl, rfl, (by show (0 : Int) < 5; decide), ?_⟩⟩
      refine ⟨p, primes, _, _, rfl, rfl, SqL.of upd_same, hv, ?_⟩
      have c1 : 0 ≤ c + 1 := by omega
      have c2 : c + 1 ≤ 100001 := by omega
      have sq1 : 0 ≤ (c + 1) * (c + 1) := Int.mul_nonneg c1 c1
      have sq2 : (c + 1) * (c + 1) ≤ 100001 * 100001 := Int.mul_le_mul c2 c2 c1 (by decide)
      have e99 : 99991 * (c + 1) * (c + 1) = 99991 * ((c + 1) * (c + 1)) := Int.mul_assoc _ _ _
      refine ⟨_, rfl, l, _, 1, _, rfl, rfl, SqL.of hl2, atI_nat (j := 1) rfl, _, rfl, l, _, 2, _, rfl, rfl, SqL.of hl2, atI_nat (j := 2) rfl, _, _, rfl, rfl, .inl (by constructor <;> omega),
        _, rfl, l, _, 2, _, rfl, rfl, SqL.of hl2, atI_nat (j := 2) rfl, _, _, rfl, rfl, .inl (by constructor <;> omega), _, _, rfl, rfl, _, _, rfl, rfl, _, _, rfl, rfl, ⟨by decide, by decide, by omega⟩, ?_⟩
      refine .inl ⟨_, rfl, _, rfl, _, _, rfl, rfl, v0, ?_⟩
      generalize hx : (m + 99991 * (c + 1) * (c + 1) + 61) ^ (3 : Int).toNat % v = x
      have x0 : 0 ≤ x := by rw [← hx]; exact Int.emod_nonneg _ (by omega)
      have x1 : x < v := by rw [← hx]; exact Int.emod_lt_of_pos _ v0
      refine ⟨_, rfl, _, rfl, .inl ⟨_, rfl, _, _, rfl, rfl, (by show (0 : Int) < 10007; decide), _, rfl, l, _, 2, _, rfl, rfl, SqL.of hl2, atI_nat (j := 2) rfl, _, _, rfl, rfl, .inl (by constructor <;> omega), _, _, rfl, rfl,
        _, _, rfl, rfl, .inl (by constructor <;> omega), ?_⟩⟩
      refine .inl ⟨_, rfl, _, _, rfl, rfl, (by show (0 : Int) < 2305843009213693907; decide), ?_⟩
      refine ⟨_, rfl, _, _, rfl, rfl, ⟨by decide, by decide⟩, .inl ⟨_, rfl, _, rfl, _, _, rfl, rfl, hm, ?_⟩⟩
      refine k _ _ (SameX.trans SameX.upd (Same.x (Same.upd hp) l)) ⟨a, m, c + 1, hl2, hm0, hm1, c1, by omega⟩ (Int.emod_nonneg _ (by omega)) (Int.emod_lt_of_pos _ hm)

def spAny : Sp := fun vs H Q _ => ∃ (l : Addr) (n : Int) (v : V), vs = [.ref l, v] ∧ PotOk n H l ∧ n ≤ 100000 ∧
  ((∃ (a : Addr) (xs : List V), v = .ref a ∧ a ≠ l ∧ H a = some (.lst xs) ∧ 0 < xs.length ∧ xs.length < 1000 ∧ ∀ (H' : Hp) (x : V), SameX l H H' → PotOk (n + 1) H' l → x ∈ xs → Q x H') ∨
    ∃ z : Str, v = .str z ∧ 0 < z.length ∧ z.length < 1000 ∧ ∀ (H' : Hp) (c : Nat), SameX l H H' → PotOk (n + 1) H' l → c ∈ z.cps.toList → Q (.str ⟨#[c]⟩) H')
theorem scY : FnScope ["_law_pot_here", "_law_items"] ["_law_pot_here", "_law_items"] (defScope s__law_any) := ⟨rfl, rfl, rfl, by decide +kernel, rfl, by decide +kernel, by decide +kernel⟩
theorem ok_any {f g : Addr} {fd fdG : FuncData} (F : Fun K "_law_any" "_law_any" s__law_any f fd) (T : Names mg) (G : FnOk P w K mg base CX0 2 g fdG ["_law_pot_here", "_law_many"] spDraw) (mgG : mg "_law_draw" = some (.ref g)) (kG : PySem.W.keepIn K (.ref g) = true) (bG : Binds K fdG ["_law_pot_here", "_law_many"] []) :
    FnOk P w K mg base CX0 3 f fd ["_law_pot_here", "_law_items"] spAny := by
  refine F.ok scY (fun vs H Q E h => ?_) (fun cdv A outer s H vs Q E hr h => ?_)
  · obtain ⟨l, n, v, rfl, _⟩ := h
    rfl
  · obtain ⟨l, n, v, rfl, hp, hn, h⟩ := h
    refine ⟨_, pss_one (ps_ret (pe_ix (ix_list.or ix_str) (pv 1) (pe_call G hr rfl mgG kG bG .nil pass0 (pa_cons (pv 0) (pa_cons (pe_callB (call_len_seq.or call_len_str) (by rfl) T.len PySem.boot_len (pa_cons (pv 1) pa_nil)) pa_nil))) (fun _ _ => rfl))), ?_⟩
    rcases h with ⟨a, xs, rfl, hal, ha, h0, h1, k⟩ | ⟨z, rfl, h0, h1, k⟩
    · refine ⟨_, rfl, _, rfl, _, rfl, .inl ⟨a, xs, rfl, .inl (SqL.of ha), l, xs.length, n, rfl, hp, hn, by omega, by omega, fun H' r sx hp' r0 r1 => ?_⟩⟩
      have hlt : r.toNat < xs.length := by omega
      refine .inl ⟨a, xs, r, xs[r.toNat], rfl, rfl, SqL.of (sx _ _ hal ha), at_of (j := r.toNat) (by omega) (List.getElem?_eq_getElem hlt), ?_⟩
      exact k H' _ sx hp' (List.getElem_mem hlt)
    · have hz : z.length ≤ sizeLine := Nat.le_trans (Nat.le_of_lt h1) (by decide)
      refine ⟨_, rfl, _, rfl, _, rfl, .inr ⟨z, rfl, hz, l, z.length, n, rfl, hp, hn, by omega, by omega, fun H' r sx hp' r0 r1 => ?_⟩⟩
      obtain ⟨j, rfl⟩ := Int.eq_ofNat_of_zero_le r0
      have hlt : j < z.cps.toList.length := by
        rw [Array.length_toList]
        show j < z.length
        omega
      refine .inr ⟨z, _, z.cps.toList[j], rfl, rfl, hz, atI_nat (j := j) (List.getElem?_eq_getElem hlt), ?_⟩
      exact k H' _ sx hp' (List.getElem_mem hlt)
def spPot (K : PySem.W.Frag) : Sp := fun vs H Q _ => ∃ (a : Addr) (ns : List Int) (k : Int), vs = [.ref a, .int k] ∧ SqL K H a (ns.map V.int) ∧ 0 ≤ k ∧ k < 1000 ∧
  ∀ (H' : Hp) (l : Addr), Same H H' → H l = none → PotOk 0 H' l → Q (.ref l) H'
theorem scPt : FnScope ["_law_script", "_law_k", "_law_cell", "_law_own"] ["_law_script", "_law_k"] (defScope s__law_pot) := ⟨rfl, rfl, rfl, by decide +kernel, rfl, by decide +kernel, by decide +kernel⟩
theorem ok_pot {f : Addr} {fd : FuncData} (F : Fun K "_law_pot" "_law_pot" s__law_pot f fd) (T : Names mg) : FnOk P w K mg base CX0 2 f fd ["_law_script", "_law_k"] (spPot K) := by
  refine F.ok scPt (fun vs H Q E h => ?_) (fun cdv A outer s H vs Q E hr h => ?_)
  · obtain ⟨a, ns, k, rfl, _⟩ := h
    rfl
  · obtain ⟨a, ns, k, rfl, ha, h0, h1, q⟩ := h
    refine ⟨_, pss_cons (ps_set (i := 2) scPt.nd rfl (Or.inl rfl) (pe_ifExp (pt_cmpR op_lt (pv 1) (pe_callB call_len_seq (by rfl) T.len PySem.boot_len (pa_cons (pv 0) pa_nil)) (nomark _)) (pe_ix ix_list (pv 0) (pv 1) (fun _ _ => rfl))
          (pe_op op_add (pe_op op_mul pe_int (pv 1)) pe_int)))
      (pss_cons (ps_set (i := 3) scPt.nd rfl (Or.inl rfl) (pe_op op_mul (pe_op op_mod (pe_callTy call_int1 (by rfl) T.int (by decide +kernel) (pa_cons (pe_callB call_abs (by rfl) T.abs (by decide +kernel) (pa_cons (pv 2) pa_nil)) pa_nil))
            (pe_op op_powW (pe_op op_pow pe_int pe_int) pe_int))
          (pe_callTy call_int1 (by rfl) T.int (by decide +kernel) (pa_cons (pe_cmpR op_ge (pe_callB call_abs (by rfl) T.abs (by decide +kernel) (pa_cons (pv 2) pa_nil)) (pe_op op_pow pe_int pe_int) (nomark _)) pa_nil))))
      (pss_one (ps_ret (pe_lst (pa_cons (pv 3) (pa_cons (pe_op op_mod (pe_callTy call_int1 (by rfl) T.int (by decide +kernel) (pa_cons (pe_op op_add (pe_op op_add
          (pe_op op_mul (pe_op op_mod (pe_callTy call_int1 (by rfl) T.int (by decide +kernel) (pa_cons (pv 2) pa_nil)) pe_int) pe_int) (pe_op op_mul (pe_op op_mul pe_int (pv 1)) (pv 1))) pe_int) pa_nil)) pe_int) (pa_cons pe_int pa_nil))))))), ?_⟩
    refine ⟨_, rfl, _, rfl, a, _, rfl, .inl ha, _, _, rfl, rfl, _, rfl, ?_⟩
    refine if_read (W := fun v => ∃ c, v = V.int c) (fun c Q' hq => ?_) (fun c Q' hq => ?_) (fun v ⟨c, ec⟩ => ?_)
    · have c' : k < ((ns.map V.int).length : Int) := of_decide_eq_true c
      rw [List.length_map] at c'
      have hlt : k.toNat < ns.length := by omega
      refine ⟨_, rfl, _, rfl, a, _, k, .int ns[k.toNat], rfl, rfl, ha, at_of (j := k.toNat) (by omega) ?_, hq _ ⟨_, rfl⟩⟩
      rw [List.getElem?_map, List.getElem?_eq_getElem hlt]
      rfl
    · exact ⟨_, rfl, _, _, rfl, rfl, .inl ⟨by decide, by decide⟩, _, _, rfl, rfl, hq _ ⟨_, rfl⟩⟩
    · subst ec
      refine ⟨_, rfl, _, rfl, .inl ⟨_, rfl, _, _, rfl, rfl, ⟨by decide, by decide, by decide⟩, _, _, rfl, rfl, ⟨by decide, by decide +kernel⟩, _, _, rfl, rfl, (by show (0 : Int) < ((10 : Int) ^ Int.toNat 60) ^ Int.toNat 5; decide +kernel), ?_⟩⟩
      refine ⟨_, rfl, _, rfl, _, _, rfl, rfl, ⟨by decide, by decide, by decide⟩, _, _, rfl, rfl, .inr ⟨_, rfl, _, _, rfl, rfl, .inr ?_, ?_⟩⟩
      · have z : ∀ b : Bool, -(2 ^ 64) < (if b = true then (1 : Int) else 0) ∧ (if b = true then (1 : Int) else 0) < 2 ^ 64 := by decide
        exact z _
      refine ⟨_, rfl, _, rfl, .inl ⟨c, rfl, _, _, rfl, rfl, (by show (0 : Int) < 2305843009213693951; decide), _, _, rfl, rfl, .inr ⟨by decide, by decide⟩, _, rfl, _, _, rfl, rfl, .inl ⟨by decide, by decide⟩, _, rfl, _, _, rfl, rfl, .inl ⟨by omega, by omega⟩, _, _, rfl, rfl, _, _, rfl, rfl,
        .inl ⟨_, rfl, _, _, rfl, rfl, (by show (0 : Int) < 2305843009213693921; decide), (by show 3 ≤ sizeLine; decide), fun l hl => ?_⟩⟩⟩
      refine q _ l (Same.upd hl) hl ⟨_, _, 0, upd_same, Int.emod_nonneg _ (by decide), ?_, Int.le_refl _, Int.le_refl _⟩
      refine Int.lt_trans (Int.emod_lt_of_pos _ (by decide)) (by decide)
end
end Sps
set_option Elab.async false
set_option linter.all false
set_option maxRecDepth 100000
set_option maxHeartbeats 4000000
/-! The law's words. -/
namespace Sps
open PySem PySem.Spec PyProof.Rows L2
def c1 (c : Nat) : Str := ⟨#[c]⟩
theorem cps_app (a b : Str) : (a ++ b).cps.toList = a.cps.toList ++ b.cps.toList := by
  show (a.cps ++ b.cps).toList = _
  simp
theorem join_c1 : ∀ zs : List Nat, (Str.join "" (zs.map c1)).cps.toList = zs
  | [] => rfl
  | [c] => rfl
  | c :: d :: r => by
    show ((c1 c) ++ ("" : Str) ++ Str.join "" ((d :: r).map c1)).cps.toList = _
    rw [cps_app, cps_app, join_c1 (d :: r)]
    rfl
theorem alpha_at (i : Nat) (h : i < 26) : alphaL.cps.toList[i]? = some (97 + i) := by
  have h2 : ∀ i : Fin 26, alphaL.cps.toList[i.val]? = some (97 + i.val) := by decide +kernel
  exact h2 ⟨i, h⟩
theorem len_cps (z : Str) : z.length = z.cps.toList.length := by rw [Array.length_toList]; rfl
def wd (stem : Str) (s : Int) (c : Nat) : Str := (cutS stem none (some s) ++ c1 c) ++ cutS stem (some s) none
theorem wd_tl {stem : Str} {s : Nat} (h : s ≤ stem.length) (c : Nat) : (wd stem (s : Int) c).cps.toList = stem.cps.toList.take s ++ c :: stem.cps.toList.drop s := by
  unfold wd
  rw [cps_app, cps_app]
  have e1 : (cutS stem none (some (s : Int))).cps.toList = stem.cps.toList.take s := by
    unfold cutS
    rw [HT.sIx_nat, HT.sIx_none, Nat.min_eq_left h]
    simp
  have e2 : (cutS stem (some (s : Int)) none).cps.toList = stem.cps.toList.drop s := by
    unfold cutS
    rw [HT.sIx_nat, HT.sIx_none, Nat.min_eq_left h]
    show List.take _ _ = _
    rw [List.take_of_length_le]
    rw [List.length_drop, ← len_cps]
    exact Nat.le_refl _
  rw [e1, e2]
  show (List.take s _ ++ [c]) ++ _ = _
  simp
theorem wd_ok {stem : Str} {s : Nat} (h : s ≤ stem.length) (hl : stem.length ≤ 7) (ha : ∀ c ∈ stem.cps.toList, c ∈ alphaL.cps.toList) {c : Nat} (hc : c ∈ alphaL.cps.toList) : lettersOk alphaL (wd stem (s : Int) c) = true := by
  have e := wd_tl h c
  have l : (wd stem (s : Int) c).length = stem.length + 1 := by
    rw [len_cps, e, List.length_append, List.length_cons, List.length_take, List.length_drop, ← len_cps]
    omega
  unfold lettersOk
  rw [l, e, Bool.and_eq_true_iff, Bool.and_eq_true_iff]
  refine ⟨⟨decide_eq_true (by omega), decide_eq_true (by omega)⟩, List.all_eq_true.mpr fun d m => decide_eq_true ?_⟩
  rcases List.mem_append.mp m with q | q
  · exact ha d (List.mem_of_mem_take q)
  · rcases List.mem_cons.mp q with q | q
    · rw [q]; exact hc
    · exact ha d (List.mem_of_mem_drop q)
theorem wd_inj {stem : Str} {s : Nat} (h : s ≤ stem.length) {c d : Nat} (e : wd stem (s : Int) c = wd stem (s : Int) d) : c = d := by
  have e2 := congrArg (fun z : Str => z.cps.toList) e
  have e3 : stem.cps.toList.take s ++ c :: stem.cps.toList.drop s = stem.cps.toList.take s ++ d :: stem.cps.toList.drop s := by rw [← wd_tl h c, ← wd_tl h d]; exact e2
  have e4 := List.append_cancel_left e3
  injection e4
/-- the letter of the word k -/
def letter (f : Int) (k : Nat) : Nat := 97 + ((f + 3 * (0 + (k : Int))) % 26).toNat
theorem letter_at (f : Int) (k : Nat) : atI alphaL.cps.toList ((f + 3 * (0 + (k : Int))) % 26) = some (letter f k) := by
  have h0 : 0 ≤ (f + 3 * (0 + (k : Int))) % 26 := Int.emod_nonneg _ (by decide)
  have h1 : (f + 3 * (0 + (k : Int))) % 26 < 26 := Int.emod_lt_of_pos _ (by decide)
  unfold letter
  generalize (f + 3 * (0 + (k : Int))) % 26 = x at h0 h1
  obtain ⟨j, rfl⟩ := Int.eq_ofNat_of_zero_le h0
  exact atI_nat (j := j) (alpha_at j (by omega))
theorem letter_mem (f : Int) (k : Nat) : letter f k ∈ alphaL.cps.toList := by
  have h1 : (f + 3 * (0 + (k : Int))) % 26 < 26 := Int.emod_lt_of_pos _ (by decide)
  have h0 : 0 ≤ (f + 3 * (0 + (k : Int))) % 26 := Int.emod_nonneg _ (by decide)
  exact List.mem_of_getElem? (alpha_at ((f + 3 * (0 + (k : Int))) % 26).toNat (by omega))
theorem letter_inj {f : Int} {i j : Nat} (hi : i < 8) (hj : j < 8) (e : letter f i = letter f j) : i = j := by
  unfold letter at e
  omega
theorem PotOk.ne {n : Int} {H : Hp} {l D : Addr} (h : PotOk n H l) (hD : H D = none) : l ≠ D := by
  obtain ⟨a, m, c, e, _⟩ := h
  exact ne_of_none e hD
theorem PotOk.upd {n : Int} {H : Hp} {l D : Addr} {o : HO} (h : PotOk n H l) (ne : l ≠ D) : PotOk n (L2.upd H D o) l := by
  obtain ⟨a, m, c, e, r⟩ := h
  exact ⟨a, m, c, by rw [upd_ne ne]; exact e, r⟩
theorem nodup_map {α β : Type} {f : α → β} : ∀ {l : List α}, l.Nodup → (∀ i ∈ l, ∀ j ∈ l, f i = f j → i = j) → (l.map f).Nodup
  | [], _, _ => .nil
  | a :: l, h, k => by
    obtain ⟨h1, h2⟩ := List.nodup_cons.mp h
    rw [List.map_cons]
    refine List.nodup_cons.mpr ⟨fun m => ?_, nodup_map h2 fun i hi j hj => k i (List.mem_cons_of_mem _ hi) j (List.mem_cons_of_mem _ hj)⟩
    obtain ⟨b, mb, e⟩ := List.mem_map.mp m
    exact h1 (k b (List.mem_cons_of_mem _ mb) a List.mem_cons_self e ▸ mb)
section
variable {P : Program} {w : World} {K : PySem.W.Frag} {mg : Str → Option Value} {base : Heap}
def spWords : Sp := fun vs H Q _ => ∃ (l : Addr) (n : Int) (m : Nat), vs = [.ref l, .int m] ∧ PotOk n H l ∧ n ≤ 90000 ∧ m < 8 ∧
  ∀ (H' : Hp) (a : Addr) (ws : List Str), SameX l H H' → PotOk (n + 10) H' l → H a = none → a ≠ l → H' a = some (.lst (ws.map V.str)) → ws.length = m → ws.Nodup → (∀ z ∈ ws, lettersOk alphaL z = true) → Q (.ref a) H'
abbrev nWo : List Str := ["_law_pot_here", "_law_many", "_law_small", "_law_stem", "_law_turn", "_law_spot", "_law_first", "_law_k"]
theorem scWo : FnScope nWo ["_law_pot_here", "_law_many"] (defScope s__law_words) := ⟨rfl, rfl, rfl, by decide +kernel, rfl, by decide +kernel, by decide +kernel⟩
theorem ok_words {f gD gA : Addr} {fd fdD fdA : FuncData} (F : Fun K "_law_words" "_law_words" s__law_words f fd) (T : Names mg)
    (D : FnOk P w K mg base CX0 2 gD fdD ["_law_pot_here", "_law_many"] spDraw) (mD : mg "_law_draw" = some (.ref gD)) (kD : PySem.W.keepIn K (.ref gD) = true) (bD : Binds K fdD ["_law_pot_here", "_law_many"] [])
    (A : FnOk P w K mg base CX0 3 gA fdA ["_law_pot_here", "_law_items"] spAny) (mA : mg "_law_any" = some (.ref gA)) (kA : PySem.W.keepIn K (.ref gA) = true) (bA : Binds K fdA ["_law_pot_here", "_law_items"] []) : FnOk P w K mg base CX0 4 f fd ["_law_pot_here", "_law_many"] spWords := by
  refine F.ok scWo (fun vs H Q E h => ?_) (fun cdv Ar outer s H vs Q E hr h => ?_)
  · obtain ⟨_, _, _, rfl, _⟩ := h
    rfl
  · obtain ⟨l, n, m, rfl, hp, hn, hm, h⟩ := h
    have hr2 : Room 2 _ := hr.mono (by decide)
    refine ⟨_, pss_cons (ps_set (i := 2) scWo.nd rfl (Or.inr rfl) pe_str)
      (pss_cons (ps_set (i := 3) scWo.nd rfl (Or.inr rfl) (pe_join pe_str (pe_lc (own := [("_law_turn", 4)]) (g := gName 4) (tt := tYes) rfl scWo.nd (pi_range1 rfl T.range (pa_cons (pe_call D hr2 rfl mD kD bD .nil pass0 (pa_cons (pv 0) (pa_cons pe_int pa_nil))) pa_nil)) (blkOk_by (own := [("_law_turn", 4)]) (N := nWo) (sc := defScope s__law_words) (by decide +kernel))
          (fun _ _ _ _ _ => pg_name (i := 4) scWo.nd rfl (Or.inl rfl)) (fun _ _ _ _ _ => pts_nil) (fun _ _ _ _ _ => pe_call A hr rfl mA kA bA .nil pass0 (pa_cons (pv 0) (pa_cons (pv 2) pa_nil))))))
      (pss_cons (ps_asg (pe_tup (pa_cons (pe_call D hr2 rfl mD kD bD .nil pass0 (pa_cons (pv 0) (pa_cons (pe_op op_add (pe_callB call_len_str (by rfl) T.len PySem.boot_len (pa_cons (pv 3) pa_nil)) pe_int) pa_nil))) (pa_cons (pe_call D hr2 rfl mD kD bD .nil pass0 (pa_cons (pv 0) (pa_cons pe_int pa_nil))) pa_nil)))
          (pg_tup rfl (pgs_cons (pg_name (i := 5) scWo.nd rfl (Or.inr rfl)) (pgs_cons (pg_name (i := 6) scWo.nd rfl (Or.inr rfl)) pgs_nil))))
      (pss_one (ps_ret (pe_lc (own := [("_law_k", 7)]) (g := gName 7) (tt := tYes) rfl scWo.nd (pi_range1 rfl T.range (pa_cons (pv 1) pa_nil)) (blkOk_by (own := [("_law_k", 7)]) (N := nWo) (sc := defScope s__law_words) (by decide +kernel))
          (fun _ _ _ _ _ => pg_name (i := 7) scWo.nd rfl (Or.inl rfl)) (fun _ _ _ _ _ => pts_nil)
          (fun _ _ _ _ _ => pe_op op_add_str (pe_op op_add_str (pe_slice sl_str (pv 3) po_none (po_some (pv 5))) (pe_ix ix_str (pv 2) (pe_op op_mod (pe_callTy call_int1 (by rfl) T.int (by decide +kernel) (pa_cons (pe_op op_add (pv 6) (pe_op op_mul pe_int (pv 7))) pa_nil)) pe_int) (fun _ _ => rfl)))
            (pe_slice sl_str (pv 3) (po_some (pv 5)) po_none))))))), ?_⟩
    -- the stem
    have sxH : ∀ {H1 H' : Hp}, SameX l H H1 → SameX l H1 H' → SameX l H H' := fun a b => a.trans b
    refine ⟨⟨_, rfl⟩, _, rfl, l, 8, n, rfl, hp, by omega, by decide, by decide, fun H1 r x1 hp1 r0 r1 => ?_⟩
    obtain ⟨j, rfl⟩ := Int.eq_ofNat_of_zero_le r0
    refine ⟨(j : Int), rfl, by omega, by omega, fun D1 hD1 => ?_⟩
    have nl1 : l ≠ D1 := hp1.ne hD1
    refine lc_it (walk_range (lo := 0) (n := ((j : Int)).toNat)) (fun i H' => ∃ zs : List Nat, SameX l H1 H' ∧ H' D1 = some (.lst (zs.map fun c => V.str (c1 c))) ∧ zs.length = i ∧ (∀ c ∈ zs, c ∈ alphaL.cps.toList) ∧ PotOk (n + 1 + i) H' l) ⟨[], Same.x (Same.upd hD1) l, upd_same, rfl, fun _ m => (List.not_mem_nil m).elim, (hp1.upd nl1).mono (by omega)⟩ (fun _ _ _ _ => trivial) ?_ ?_
    · rintro i x H2 H3 hi ⟨zs, sx, hD, hz, ha, hp2⟩ y
      obtain ⟨rfl, rfl⟩ := y
      refine ⟨rfl, ?_⟩
      refine ⟨_, rfl, _, rfl, l, n + 1 + i, _, rfl, hp2, by omega, .inr ⟨alphaL, rfl, by decide +kernel, by decide +kernel, fun H4 c x4 hp4 mc => ?_⟩⟩
      refine ⟨_, x4 _ _ nl1.symm hD, ?_, zs ++ [c], fun b o nb e => ?_, ?_, ?_, ?_, ?_⟩
      · rw [List.length_map, hz]
        exact Nat.lt_of_lt_of_le hi (Nat.le_trans (by omega : ((j : Int)).toNat ≤ 8) (by decide))
      · rw [upd_ne (ne_of_none e hD1)]
        exact (sx.trans x4) b o nb e
      · rw [upd_same, List.map_append]
        rfl
      · rw [List.length_append, hz]
        rfl
      · intro d md
        rcases List.mem_append.mp md with q | q
        · exact ha d q
        · rw [List.mem_singleton.mp q]; exact mc
      · exact (hp4.upd nl1).mono (by push_cast; omega)
    · rintro H2 ⟨zs, sx, hD, hz, ha, hp2⟩
      have hzl : zs.length ≤ 7 := by omega
      have ezs : (zs.map fun c => V.str (c1 c)) = (zs.map c1).map V.str := by rw [List.map_map]; rfl
      rw [ezs] at hD
      have hst := join_c1 zs
      refine ⟨"", D1, zs.map c1, rfl, rfl, .inl (SqL.of hD), ?_, ?_⟩
      · have : ((zs.map c1).map (·.length)).sum = zs.length := by
          clear hst ezs hD ha hz hzl
          induction zs with
          | nil => rfl
          | cons c r ih =>
            rw [List.map_cons, List.map_cons, List.sum_cons, ih, List.length_cons]
            show 1 + _ = _
            omega
        rw [this, List.length_map]
        show zs.length + zs.length * 0 ≤ _
        omega
      rw [TL.join_eq]
      generalize eS : Str.join "" (zs.map c1) = stem at hst
      have hsl : stem.length ≤ 7 := by rw [len_cps, hst]; exact hzl
      have hsa : ∀ c ∈ stem.cps.toList, c ∈ alphaL.cps.toList := by rw [hst]; exact ha
      have hs16 : stem.length ≤ sizeLine := Nat.le_trans hsl (by decide)
      -- the spot, the first letter
      refine ⟨_, rfl, _, rfl, stem, rfl, hs16, _, _, rfl, rfl, l, _, _, rfl, hp2, by omega, by omega, by omega, fun H3 s0 x3 hp3 s0a s0b => ?_⟩
      obtain ⟨s, rfl⟩ := Int.eq_ofNat_of_zero_le s0a
      refine ⟨_, rfl, l, 26, _, rfl, hp3, by omega, by decide, by decide, fun H4 f x4 hp4 f0 f1 => ?_⟩
      refine ⟨(by show 2 ≤ sizeLine; decide), fun t ht => ?_⟩
      refine ⟨t, _, rfl, tupAt upd_same, rfl, _, _, rfl, _, _, rfl, rfl, ?_⟩
      have hss : s ≤ stem.length := by omega
      -- the words
      have x14 : SameX l H (L2.upd H4 t (.tup [.int (s : Int), .int f])) := ((x1.trans sx).trans (x3.trans x4)).trans (Same.x (Same.upd ht) l)
      have hp5 : PotOk (n + 10) (L2.upd H4 t (.tup [.int (s : Int), .int f])) l := (hp4.upd (hp4.ne ht)).mono (by omega)
      generalize eH : L2.upd H4 t (.tup [.int (s : Int), .int f]) = H5 at x14 hp5
      refine ⟨_, rfl, (m : Int), rfl, by omega, by omega, fun D2 hD2 => lc_vals (walk_range (lo := 0) (n := ((m : Int)).toNat)) (fun i => V.str (wd stem (s : Int) (letter f i))) (Nat.lt_of_le_of_lt (by omega : ((m : Int)).toNat ≤ 8) (by decide)) hD2 (fun _ _ => trivial) (fun i x H6 H7 Nx hi s6 y k => ?_) (fun H6 s6 hL => ?_)⟩
      · obtain ⟨rfl, rfl⟩ := y
        refine ⟨rfl, ?_⟩
        have hc1 : (c1 (letter f i)).length = 1 := rfl
        have l1 := cutS_length stem none (some (s : Int))
        have l2 := cutS_length stem (some (s : Int)) none
        have sz : (30 : Nat) ≤ sizeLine := by decide
        have lapp : ∀ a b : Str, (a ++ b).length = a.length + b.length := fun a b => by rw [len_cps, cps_app, List.length_append, ← len_cps, ← len_cps]
        refine ⟨_, rfl, _, rfl, _, rfl, stem, rfl, hs16, _, rfl, _, rfl, _, rfl, _, _, rfl, rfl, .inl ⟨by decide, by decide⟩, _, _, rfl, rfl, .inl ⟨_, rfl, _, _, rfl, rfl, (by show (0 : Int) < 26; decide), alphaL, _, letter f i, rfl, rfl, by decide +kernel, letter_at f i, ?_⟩⟩
        refine ⟨_, _, rfl, rfl, ?_, _, rfl, _, rfl, _, rfl, stem, rfl, hs16, _, _, rfl, rfl, ?_, k _ _ rfl (Same.refl _)⟩
        · show (cutS stem none (some (s : Int))).length + (c1 (letter f i)).length ≤ _
          omega
        · show (cutS stem none (some (s : Int)) ++ c1 (letter f i)).length + (cutS stem (some (s : Int)) none).length ≤ _
          rw [lapp]
          omega
      · have em : ((m : Int)).toNat = m := by omega
        rw [em] at hL
        have eW : ((List.range m).map fun i => V.str (wd stem (s : Int) (letter f i))) = ((List.range m).map fun i => wd stem (s : Int) (letter f i)).map V.str := by rw [List.map_map]; rfl
        rw [eW] at hL
        have nD2 : l ≠ D2 := hp5.ne hD2
        have hD2H : H D2 = none := by
          cases q : H D2 with
          | none => rfl
          | some o => rw [x14 _ _ nD2.symm q] at hD2; cases hD2
        refine h H6 D2 _ (x14.trans (Same.x s6 l)) (hp5.same s6) hD2H nD2.symm hL (by rw [List.length_map, List.length_range]) ?_ ?_
        · refine nodup_map List.nodup_range ?_
          intro i hi j hj e
          exact letter_inj (by have := List.mem_range.mp hi; omega) (by have := List.mem_range.mp hj; omega) (wd_inj hss e)
        · intro z mz
          obtain ⟨i, _, rfl⟩ := List.mem_map.mp mz
          exact wd_ok hss hsl hsa (letter_mem f i)
end
end Sps
set_option Elab.async false
set_option linter.all false
set_option maxRecDepth 100000
set_option maxHeartbeats 4000000
/-! The law's copies. -/
namespace Sps
open PySem PySem.Spec PyProof.Rows L2
theorem ascB_of {rs : List Cp} (h : rs.Pairwise fun a b => ltS a.1 b.1 = true) : ascB rs = true := by
  refine List.all_eq_true.mpr fun i hi => ?_
  have hi2 := List.mem_range.mp hi
  have h1 : i < rs.length := by omega
  have h2 : i + 1 < rs.length := by omega
  rw [nm_at (List.getElem?_eq_getElem h1), nm_at (List.getElem?_eq_getElem h2)]
  exact List.pairwise_iff_getElem.mp h i (i + 1) h1 h2 (Nat.lt_succ_self _)
theorem look_nd : ∀ {rs : List Cp} {r : Cp}, (rs.map (·.1)).Nodup → r ∈ rs → look rs r.1 = some r.2
  | [], _, _, m => by cases m
  | x :: rs, r, nd, m => by
    rw [List.map_cons, List.nodup_cons] at nd
    rw [look_cons]
    rcases List.mem_cons.mp m with e | m
    · rw [if_pos (by rw [e]), e]
    · rw [if_neg (fun e => nd.1 (by rw [e]; exact List.mem_map.mpr ⟨r, m, rfl⟩))]
      exact look_nd nd.2 m
/-- each follows none or an earlier one -/
def Back (ls : List Cp) : Prop := ∀ (j : Nat) (r : Cp), ls[j]? = some r → r.2 = none ∨ ∃ (i : Nat) (q : Cp), i < j ∧ ls[i]? = some q ∧ r.2 = some q.1
theorem back_good {ls rs : List Cp} (hb : Back ls) (hp : rs.Perm ls) (nd : (ls.map (·.1)).Nodup) (hs : rs.Pairwise fun a b => ltS a.1 b.1 = true) : goodB rs = true := by
  have ndr : (rs.map (·.1)).Nodup := (hp.map _).nodup_iff.mpr nd
  have lk : ∀ {j : Nat} {r : Cp}, ls[j]? = some r → look rs r.1 = some r.2 := fun {j r} e => look_nd ndr (hp.mem_iff.mpr (List.mem_of_getElem? e))
  have hlead : ∀ (j k : Nat) (r : Cp), ls[j]? = some r → j < k → lead rs k r.1 = true := by
    intro j
    induction j using Nat.strongRecOn with
    | _ j ih =>
      intro k r e hk
      obtain ⟨k, rfl⟩ : ∃ k', k = k' + 1 := ⟨k - 1, by omega⟩
      unfold lead
      rw [lk e]
      rcases hb j r e with q | ⟨i, q, hi, hq, e2⟩
      · rw [q]
      · rw [e2]
        exact ih i hi k q hq (by omega)
  have at_ : ∀ {r : Cp}, r ∈ rs → ∃ j : Nat, ls[j]? = some r ∧ j < ls.length := fun {r} m => by
    obtain ⟨j, hj⟩ := List.mem_iff_getElem?.mp (hp.mem_iff.mp m)
    exact ⟨j, hj, (List.getElem?_eq_some_iff.mp hj).1⟩
  unfold goodB
  rw [ascB_of hs, Bool.true_and, Bool.and_eq_true_iff]
  refine ⟨List.all_eq_true.mpr fun r m => ?_, List.all_eq_true.mpr fun r m => ?_⟩
  · obtain ⟨j, hj, _⟩ := at_ m
    unfold follB
    rcases hb j r hj with q | ⟨i, q, hi, hq, e2⟩
    · rw [q]
    · rw [e2]
      show (look rs q.1).isSome = true
      rw [lk hq]
      rfl
  · obtain ⟨j, hj, hl⟩ := at_ m
    exact hlead j _ r hj (by rw [hp.length_eq]; exact hl)
section
variable {P : Program} {w : World} {K : PySem.W.Frag} {mg : Str → Option Value} {base : Heap}
def spCopies : Sp := fun vs H Q _ => ∃ (l : Addr) (n : Int), vs = [.ref l, .int 6] ∧ PotOk n H l ∧ n ≤ 80000 ∧
  ∀ (H' : Hp) (a : Addr) (rs : List Cp), SameX l H H' → PotOk (n + 50) H' l → RowsAt H' a rs → 1 ≤ rs.length → rs.length ≤ 6 → (∀ r ∈ rs, okRow r) → goodB rs = true → Q (.ref a) H'
abbrev nCp : List Str := ["_law_pot_here", "_law_most", "_law_words_here", "_law_found", "_law_spot", "_law_word"]
theorem scCp : FnScope nCp ["_law_pot_here", "_law_most"] (defScope s__law_copies) := ⟨rfl, rfl, rfl, by decide +kernel, rfl, by decide +kernel, by decide +kernel⟩
theorem ok_copies {f gD gW : Addr} {fd fdD fdW : FuncData} (F : Fun K "_law_copies" "_law_copies" s__law_copies f fd) (T : Names mg)
    (D : FnOk P w K mg base CX0 2 gD fdD ["_law_pot_here", "_law_many"] spDraw) (mD : mg "_law_draw" = some (.ref gD)) (kD : PySem.W.keepIn K (.ref gD) = true) (bD : Binds K fdD ["_law_pot_here", "_law_many"] [])
    (W : FnOk P w K mg base CX0 4 gW fdW ["_law_pot_here", "_law_many"] spWords) (mW : mg "_law_words" = some (.ref gW)) (kW : PySem.W.keepIn K (.ref gW) = true) (bW : Binds K fdW ["_law_pot_here", "_law_many"] []) : FnOk P w K mg base CX0 5 f fd ["_law_pot_here", "_law_most"] spCopies := by
  refine F.ok scCp (fun vs H Q E h => ?_) (fun cdv Ar outer s H vs Q E hr h => ?_)
  · obtain ⟨_, _, rfl, _⟩ := h
    rfl
  · obtain ⟨l, n, rfl, hp, hn, h⟩ := h
    have hr2 : Room 2 _ := hr.mono (by decide)
    refine ⟨_, pss_cons (ps_par (i := 2) (j := 3) rfl scCp.nd rfl rfl (by decide) rfl rfl (pa_cons (pe_call W hr rfl mW kW bW .nil pass0 (pa_cons (pv 0) (pa_cons (pe_op op_add pe_int (pe_call D hr2 rfl mD kD bD .nil pass0 (pa_cons (pv 0) (pa_cons (pv 1) pa_nil)))) pa_nil))) (pa_cons (pe_lst pa_nil) pa_nil)) (by rfl))
      (pss_cons (ps_for PassesOwn.never rfl (pi_enum (by rfl) T.enumerate (pa_cons (pv 2) pa_nil)) (pg_tup rfl (pgs_cons (pg_name (i := 4) scCp.nd rfl (Or.inl rfl)) (pgs_cons (pg_name (i := 5) scCp.nd rfl (Or.inl rfl)) pgs_nil)))
        (pss_one (ps_expr (pe_bm PySem.F.plainAttrs_list PySem.F.slot_list_append PySem.F.type_list_append mt_append (pv 3) (pa_cons (pe_tup (pa_cons (pv 5) (pa_cons (pe_ifExp (PW.pt (pw_or (pt_cmpR op_eq (pv 4) pe_int (nomark _))
            (pw_or1 (pt_cmpR op_eq (pe_call D hr2 rfl mD kD bD .nil pass0 (pa_cons (pv 0) (pa_cons pe_int pa_nil))) pe_int (nomark _))))) pe_non (pe_ix ix_list (pv 2) (pe_call D hr2 rfl mD kD bD .nil pass0 (pa_cons (pv 0) (pa_cons (pv 4) pa_nil))) (fun _ _ => rfl))) pa_nil))) pa_nil)))))
      (pss_one (ps_ret (pe_callTy call_tupF (by rfl) T.tuple (by decide +kernel) (pa_cons (pe_callB cr_sortRows (by rfl) T.sorted (by decide +kernel) (pa_cons (pv 3) pa_nil)) pa_nil))))), ?_⟩
    refine ⟨_, rfl, _, rfl, _, rfl, l, 6, n, rfl, hp, by omega, by decide, by decide, fun H1 r x1 hp1 r0 r1 => ⟨_, _, rfl, rfl, ?_⟩⟩
    obtain ⟨m, rfl⟩ := Int.eq_ofNat_of_zero_le r0
    refine ⟨l, n + 1, m + 1, by push_cast; rw [Int.add_comm]; rfl, hp1, by omega, by omega, fun H2 A ws x2 hp2 hA1 nAl hA hwl hnd hok => ?_⟩
    refine ⟨(by show 0 ≤ sizeLine; decide), fun Fd hFd => ⟨_, _, rfl, ?_⟩⟩
    have nAF : A ≠ Fd := ne_of_none hA hFd
    have nlF : l ≠ Fd := hp2.ne hFd
    have s2 : Same H2 (L2.upd H2 Fd (.lst [])) := Same.upd hFd
    have hF3 : (L2.upd H2 Fd (.lst [])) Fd = some (.lst []) := upd_same
    have x13 := (x1.trans x2).trans (Same.x s2 l)
    have hp3 := hp2.same s2
    have hA3 := s2 _ _ hA
    have hFH : H Fd = none := by
      cases q : H Fd with
      | none => rfl
      | some o => rw [(x1.trans x2) _ _ nlF.symm q] at hFd; cases hFd
    generalize eH : L2.upd H2 Fd (.lst []) = H3 at x13 hp3 hA3 hF3
    refine ⟨_, rfl, A, _, rfl, lstAt hA3, for_it (walk_enum (K := K) (a := A) (xs := ws.map V.str)) (fun i σ H' => ∃ (rws : List Rw) (y4 y5 : Option V), σ = [some (.ref l), some (.int 6), some (.ref A), some (.ref Fd), y4, y5] ∧ SameX l H H' ∧ PotOk (n + 11 + 2 * i) H' l ∧ H' A = some (.lst (ws.map V.str)) ∧
        H' Fd = some (.lst (rws.map rwV)) ∧ rws.length = i ∧ (∀ r ∈ rws, RwAt H' r) ∧ (rws.map (·.2.1)) = ws.take i ∧ Back (rws.map (·.2))) ⟨[], none, none, rfl, x13, hp3.mono (by omega), hA3, hF3, rfl, (fun _ m => (List.not_mem_nil m).elim), rfl, fun j r e => by simp at e⟩ (fun i σ H' _ ⟨_, _, _, _, _, _, hA', _⟩ => lstAt hA') ?_ ?_⟩
    · rintro i x σ H4 H4' hi ⟨rws, y4, y5, rfl, sx, hp4, hA4, hF4, hrl, hrw, hnm, hbk⟩ y
      obtain ⟨Te, xi, xw, rfl, hTe, rfl, exi, exw⟩ := y
      have exi : xi = .int (i : Nat) := (Option.some.inj exi).symm
      subst exi
      have exw : (ws.map V.str)[i]? = some xw := exw
      rw [List.getElem?_map] at exw
      obtain ⟨z, hz, rfl⟩ : ∃ z, ws[i]? = some z ∧ V.str z = xw := by
        cases q : ws[i]? with
        | none => rw [q] at exw; cases exw
        | some z => rw [q] at exw; exact ⟨z, rfl, Option.some.inj exw⟩
      have sT := Same.upd (o := .tup [.int (i : Nat), .str z]) hTe
      have hil : i < ws.length := (List.getElem?_eq_some_iff.mp hz).1
      have hi8 : i < 8 := by omega
      have tk : ws.take (i + 1) = ws.take i ++ [z] := by rw [List.take_succ, hz]; rfl
      have hpT := hp4.same sT
      have hAT := sT _ _ hA4
      have hFT := sT _ _ hF4
      have rowT : ∀ r ∈ rws, RwAt (L2.upd H4 Te (.tup [.int (i : Nat), .str z])) r := fun r m => sT _ _ (hrw r m)
      refine ⟨Te, _, rfl, tupAt upd_same, rfl, _, _, rfl, _, _, rfl, rfl, ?_⟩
      have xT := sx.trans (Same.x sT l)
      generalize eT : L2.upd H4 Te (.tup [.int (i : Nat), .str z]) = H5 at hpT hAT hFT rowT xT
      -- what the word follows
      have key : ∀ Q' : VK, (∀ (H6 : Hp) (o : Option Str), SameX l H5 H6 → PotOk (n + 11 + 2 * ((i + 1 : Nat) : Int)) H6 l → (o = none ∨ ∃ (j : Nat) (q : Str), j < i ∧ ws[j]? = some q ∧ o = some q) → Q' (optV o) H6) →
          tIf (tOr (tTest (tOp rEq (tVar 4) (tC (.int 0)))) (tTest (tOp rEq (tCall spDraw [] E0 (tCons (tVar 0) (tCons (tC (.int 3)) tNil))) (tC (.int 0))))) (tC .non) (tOp (rIxL K) (tVar 2) (tCall spDraw [] E0 (tCons (tVar 0) (tCons (tVar 4) tNil))))
            [some (.ref l), some (.int 6), some (.ref A), some (.ref Fd), some (.int (i : Nat)), some (.str z)] H5 Q' := fun Q' k => by
        refine ⟨_, rfl, rfl, _, rfl, ?_⟩
        by_cases h0 : i = 0
        · refine ite_t (by rw [h0]; rfl) (iteT ?_)
          exact k H5 none (SameX.refl H5 l) (hpT.mono (by push_cast; omega)) (.inl rfl)
        · refine ite_f (fun e => h0 (by have := V.int.inj e; omega)) ?_
          refine ⟨_, rfl, l, 3, _, rfl, hpT, by omega, by decide, by decide, fun H6 r x6 hp6 r0 r1 => ⟨rfl, _, rfl, ?_⟩⟩
          by_cases e : r = 0
          · rw [decide_eq_true (show V.int r = V.int 0 by rw [e])]
            refine iteT ?_
            exact k H6 none x6 (hp6.mono (by push_cast; omega)) (.inl rfl)
          · rw [decide_eq_false (show ¬ V.int r = V.int 0 from fun q => e (V.int.inj q))]
            refine iteF ?_
            refine ⟨_, rfl, _, rfl, _, rfl, l, (i : Nat), _, rfl, hp6, by omega, by omega, by omega, fun H7 r2 x7 hp7 q0 q1 => ?_⟩
            obtain ⟨j, rfl⟩ := Int.eq_ofNat_of_zero_le q0
            have hj : j < i := by omega
            have hjl : j < ws.length := by omega
            refine ⟨A, ws.map V.str, _, V.str ws[j], rfl, rfl, SqL.of ((x6.trans x7) _ _ nAl hAT), atI_nat (j := j) (by rw [List.getElem?_map, List.getElem?_eq_getElem hjl]; rfl), ?_⟩
            exact k H7 (some ws[j]) (x6.trans x7) (hp7.mono (by push_cast; omega)) (.inr ⟨j, _, hj, List.getElem?_eq_getElem hjl, rfl⟩)
      refine ⟨_, rfl, .inl ⟨rfl, _, lstAt hFT⟩, _, rfl, key _ fun H6 o x6 hp6 ho => ⟨(by show 2 ≤ sizeLine; decide), fun p hp => ?_⟩⟩
      have hF6 := x6 _ _ nlF.symm hFT
      have nFp : Fd ≠ p := ne_of_none hF6 hp
      have nlp : l ≠ p := hp6.ne hp
      refine ⟨Fd, _, _, rfl, rfl, (by rw [upd_ne nFp]; exact hF6), ?_, ?_⟩
      · rw [List.length_map, hrl]
        exact Nat.lt_of_lt_of_le hi8 (by decide)
      · refine ⟨rws ++ [(p, z, o)], _, _, rfl, fun b u nb e => ?_, (hp6.upd nlp).upd nlF, ?_, ?_, ?_, ?_, ?_, ?_⟩
        · have e5 := xT b u nb e
          have e6 := x6 b u nb e5
          rw [upd_ne (fun q => by rw [q, hFH] at e; cases e), upd_ne (ne_of_none e6 hp)]
          exact e6
        · have e6 := x6 _ _ nAl hAT
          rw [upd_ne nAF, upd_ne (ne_of_none e6 hp)]
          exact e6
        · rw [upd_same, List.map_append]
          rfl
        · rw [List.length_append, hrl]
          rfl
        · intro r mr
          rcases List.mem_append.mp mr with q | q
          · have e5 := rowT r q
            have nrl : r.1 ≠ l := by
              obtain ⟨a1, a2, a3, ea, _⟩ := hpT
              exact fun w => by unfold RwAt at e5; rw [w, ea] at e5; cases e5
            have e6 := x6 _ _ nrl e5
            unfold RwAt
            rw [upd_ne (ne_of e6 hF6 (by intro w; cases w)), upd_ne (ne_of_none e6 hp)]
            exact e6
          · rw [List.mem_singleton.mp q]
            unfold RwAt
            rw [upd_ne (fun w => nFp w.symm), upd_same]
        · rw [List.map_append, hnm, tk]
          rfl
        · intro j r e
          rw [List.map_append] at e
          by_cases hj : j < i
          · rw [List.getElem?_append_left (by rw [List.length_map, hrl]; exact hj)] at e
            rcases hbk j r e with q | ⟨i2, q, h1, h2, h3⟩
            · exact .inl q
            · exact .inr ⟨i2, q, h1, by rw [List.map_append, List.getElem?_append_left (by rw [List.length_map, hrl]; omega)]; exact h2, h3⟩
          · have ej : j = i := by
              have hlt := (List.getElem?_eq_some_iff.mp e).1
              rw [List.length_append, List.length_map, hrl] at hlt
              simp at hlt
              omega
            subst ej
            rw [List.getElem?_append_right (by rw [List.length_map, hrl]; exact Nat.le_refl _), List.length_map, hrl, Nat.sub_self] at e
            have er : (z, o) = r := Option.some.inj e
            subst er
            rcases ho with q | ⟨j2, q, h1, h2, h3⟩
            · exact .inl q
            · have hm : (rws.map (·.2.1))[j2]? = some q := by rw [hnm, List.getElem?_take_of_lt h1]; exact h2
              rw [List.getElem?_map] at hm
              cases hr2 : rws[j2]? with
              | none => rw [hr2] at hm; cases hm
              | some r2 =>
                rw [hr2] at hm
                have hq : r2.2.1 = q := Option.some.inj hm
                refine .inr ⟨j2, r2.2, h1, ?_, by rw [hq]; exact h3⟩
                rw [List.map_append, List.getElem?_append_left (by rw [List.length_map, hrl]; exact h1), List.getElem?_map, hr2]
                rfl
    · rintro σ H4 ⟨rws, y4, y5, rfl, sx, hp4, hA4, hF4, hrl, hrw, hnm, hbk⟩
      rw [List.length_map] at hrl hnm hp4
      rw [List.take_of_length_le (Nat.le_refl _)] at hnm
      refine ⟨_, rfl, Fd, rws, rfl, hF4, by omega, hrw, by rw [hnm]; exact hnd, fun ss p hperm hsrt hpn => ?_⟩
      refine ⟨p, _, rfl, lstAt upd_same, fun a o ha hod => ?_⟩
      have s5 : Same H4 (L2.upd (L2.upd H4 p (.lst (ss.map rwV))) a (.frz o (.tup (ss.map rwV)))) := (Same.upd hpn).trans (Same.upd ha)
      have hlen : ss.length = m + 1 := by rw [hperm.length_eq, hrl, hwl]
      have hpr : Paired (fun (t : Addr) (r : Cp) => (L2.upd (L2.upd H4 p (.lst (ss.map rwV))) a (.frz o (.tup (ss.map rwV)))) t = some (.tup [.str r.1, optV r.2])) (ss.map (·.1)) (ss.map (·.2)) := by
        have aux : ∀ (l : List Rw), (∀ r ∈ l, RwAt H4 r) → Paired (fun (t : Addr) (r : Cp) => (L2.upd (L2.upd H4 p (.lst (ss.map rwV))) a (.frz o (.tup (ss.map rwV)))) t = some (.tup [.str r.1, optV r.2])) (l.map (·.1)) (l.map (·.2)) := fun l => by
          induction l with
          | nil => intro _; exact .nil
          | cons r l ih => intro hk; exact .cons (s5 _ _ (hk r List.mem_cons_self)) (ih fun q mq => hk q (List.mem_cons_of_mem _ mq))
        exact aux ss fun r mr => hrw r (hperm.mem_iff.mp mr)
      have ndl : ((rws.map (·.2)).map (·.1)).Nodup := by
        rw [List.map_map]
        show (rws.map (·.2.1)).Nodup
        rw [hnm]
        exact hnd
      refine h _ a (ss.map (·.2)) (sx.trans (Same.x s5 l)) ((hp4.same s5).mono (by omega)) ⟨o, ss.map (·.1), by rw [upd_same, List.map_map]; rfl, hod, hpr⟩ (by rw [List.length_map]; omega) (by rw [List.length_map]; omega) ?_ ?_
      · intro r mr
        obtain ⟨w0, mw, rfl⟩ := List.mem_map.mp mr
        have mw2 := hperm.mem_iff.mp mw
        have inW : ∀ {q : Rw}, q ∈ rws → q.2.1 ∈ ws := fun {q} mq => by rw [← hnm]; exact List.mem_map.mpr ⟨q, mq, rfl⟩
        refine ⟨hok _ (inW mw2), fun f ef => ?_⟩
        obtain ⟨j, hj⟩ := List.mem_iff_getElem?.mp mw2
        rcases hbk j w0.2 (by rw [List.getElem?_map, hj]; rfl) with q | ⟨i2, q, _, h2, h3⟩
        · rw [q] at ef; cases ef
        · rw [ef] at h3
          have e3 : f = q.1 := Option.some.inj h3
          rw [e3]
          rw [List.getElem?_map] at h2
          cases hr2 : rws[i2]? with
          | none => rw [hr2] at h2; cases h2
          | some r2 =>
            rw [hr2] at h2
            have hq : r2.2 = q := Option.some.inj h2
            rw [← hq]
            exact hok _ (inW (List.mem_of_getElem? hr2))
      · exact back_good hbk (hperm.map _) ndl (List.pairwise_map.mpr hsrt)
end
end Sps
set_option Elab.async false
set_option linter.all false
set_option maxRecDepth 100000
set_option maxHeartbeats 4000000
/-! Several except clauses, named or not; _law_caught. -/
namespace Sps
open PySem PySem.Spec PyProof.Rows L2
/-- what the clauses wish, one after the other; those that are marked bind the name at slot i -/
def wManyAs (K : PySem.W.Frag) (i : Nat) (Wout : WX) (D : Ends) : List (Bool × Value × (Addr → Value → Option Addr → TS)) → WX
  | [] => Wout
  | (false, c, ts) :: r => fun cls d σ H => ∃ b, PySem.W.exmOne K cls c = some b ∧ (b = true → ∀ a, H a = none → ts a cls d D σ H) ∧ (b = false → wManyAs K i Wout D r cls d σ H)
  | (true, c, ts) :: r => fun cls d σ H => ∃ b, PySem.W.exmOne K cls c = some b ∧ (b = true → ∀ a, H a = none → ts a cls d { nx := fun σ' H' => D.nx (σ'.set i none) H', rt := D.rt, bk := fun σ' H' => D.bk (σ'.set i none) H', ct := fun σ' H' => D.ct (σ'.set i none) H' } (σ.set i (some (.ref a))) H) ∧ (b = false → wManyAs K i Wout D r cls d σ H)
inductive HdsAs (X : Cx) (i : Nat) (n : Str) : List ExceptHandler → List (Bool × Value × (Addr → Value → Option Addr → TS)) → Prop
  | nil : HdsAs X i n [] []
  | plain {x : Str} {c : Value} {ts : Addr → Value → Option Addr → TS} {b₀ : Stmt} {suite : List Stmt} {np pos' : Pos} {hds : List ExceptHandler} {l : List (Bool × Value × (Addr → Value → Option Addr → TS))} (hc : L2.Names X x c)
      (hsu : ∀ (a : Addr) (oe : Obj) (cls : Value) (d : Option Addr) (pn : List (Addr × Obj)), Zc cls d oe → (∃ vs, oe.data = .fields vs) → PSs (X.suite a ((a, oe) :: pn)) (b₀ :: suite) (ts a cls d)) (r : HdsAs X i n hds l) :
      HdsAs X i n (.ExceptHandler (some (.Name x np)) none (b₀ :: suite) pos' :: hds) ((false, c, ts) :: l)
  | as {x : Str} {c : Value} {ts : Addr → Value → Option Addr → TS} {b₀ : Stmt} {suite : List Stmt} {np pos' : Pos} {hds : List ExceptHandler} {l : List (Bool × Value × (Addr → Value → Option Addr → TS))} (hc : L2.Names X x c)
      (hsu : ∀ (a : Addr) (oe : Obj) (cls : Value) (d : Option Addr) (pn : List (Addr × Obj)), Zc cls d oe → (∃ vs, oe.data = .fields vs) → PSs (X.suite a ((a, oe) :: pn)) (b₀ :: suite) (ts a cls d)) (r : HdsAs X i n hds l) :
      HdsAs X i n (.ExceptHandler (some (.Name x np)) (some n) (b₀ :: suite) pos' :: hds) ((true, c, ts) :: l)
section
variable {X : Cx} {body : List Stmt} {i : Nat} {n : Str} {h₀ : ExceptHandler} {hds : List ExceptHandler} {l : List (Bool × Value × (Addr → Value → Option Addr → TS))} {pos : Pos} {tb : WX → TS} {Wout : WX}
theorem ps_try_manyAs (hN : X.N.Nodup) (hi : X.N[i]? = some n) (hln : X.env.kindOf n = some .local) (hs : X.stack = X.env :: X.outer) (hf : X.env.frame = some X.env.locals) (tk : Takes X Wout)
    (hb : ∀ (W : WX) (pn : List (Addr × Obj)) (xe : Value → Shared → Prop), Takes (X.tr pn xe) W → PassesOwn (model X.prog X.w) X.A X.env xe → PSs (X.tr pn xe) body (tb W))
    (hh : HdsAs X i n (h₀ :: hds) l) : PS X (.Try body (h₀ :: hds) [] [] pos) (fun D σ H => tb (wManyAs X.K i Wout D l) D σ H) := by
  refine ⟨fun pins s σ H D I h => ?_⟩
  have ok := I.ok
  have hloc : Loc X.env.scope n := .inl hln
  have hfr : X.A.frames = some (X.env :: X.outer) := by rw [ok.frames, hs]
  refine wpAny_Try_except ?_
  refine wpAny_mono ((hb (wManyAs X.K i Wout D l) (X.pn ++ pins) (fun e s₁ => wpAny (model X.prog X.w) X.A (noteFrame e X.env) (fun _ s₂ => wpAny (model X.prog X.w) X.A (setFlight e none) (fun _ s₃ =>
    wpAny (model X.prog X.w) X.A (handleBy e X.env (h₀ :: hds)) (SP X pins D) X.xe s₃) X.xe s₂) X.xe s₁) (fun u s' xx => ?_) PassesOwn.looking).run [] s σ H D (I.toTry _) h) (fun f s1 hsp => ?_) (fun e s1 he => he)
  · -- the catch
    obtain ⟨a, B, sI, pins', σ', H', cls, d, rfl, J', nb, up, sky, na, os, ag, w⟩ := xx
    have J : Inv X pins σ' H' sI := J'.ofTry ok
    have sky' : Sky B (X.env :: X.outer) a (Zc cls d) X.env.locals s'.heap := by rw [← hs]; exact sky
    show wpAny (model X.prog X.w) X.A (noteFrame (.ref a) X.env) _ _ _
    refine Sky.land Zc.steady hfr hf sky' fun h3 fl3 up3 => ?_
    have J3 : Inv X pins σ' H' { s' with heap := h3 } := J.landed nb fl3.1 (up.trans up3) os ag
    obtain ⟨oe3, vs3, he3, hz3, hd3⟩ := fl3.there
    have notFr : ∀ {h : Heap} {o : Obj} {vs : Array Value}, h.FunFrames B (X.env :: X.outer) → h.get? a = some o → o.data = .fields vs → a ∉ frs (X.env :: X.outer) := fun {h o vs} ff e dd hm => by
      obtain ⟨_, o', e', hnf⟩ := ff.mem hm
      rw [e] at e'; cases e'
      exact hnf _ dd
    have nfr := notFr fl3.2.2.1 he3 hd3
    have nL : a ≠ X.env.locals := fun z => nfr (List.mem_filterMap.mpr ⟨X.env, List.mem_cons_self, by rw [hf, z]⟩)
    have nF : a ∉ X.fs := fun hm => by
      obtain ⟨e, he, q⟩ := List.mem_filterMap.mp hm
      exact nfr (List.mem_filterMap.mpr ⟨e, List.mem_cons_of_mem _ he, q⟩)
    have S3 := J3.suite he3 hd3 na nL nF
    have go : ∀ {hds' : List ExceptHandler} {l' : List (Bool × Value × (Addr → Value → Option Addr → TS))}, HdsAs X i n hds' l' → wManyAs X.K i Wout D l' cls d σ' H' →
        wpAny (model X.prog X.w) X.A (handleBy (.ref a) X.env hds') (SP X pins D) X.xe { s' with heap := h3 } := by
      intro hds' l' hk
      induction hk with
      | nil =>
        intro w
        refine wpAny_handleBy_nil ?_
        obtain ⟨k1, k2, k3, oe, vs, T, oT, ts', he, hz, hd, h1, hr⟩ := id fl3
        unfold PySem.passOn
        refine wpAny_bind (wpAny_field he hd h1 ?_)
        rw [if_neg (show ¬ ((Value.ref T == Value.none) = true) from by simp)]
        have fin : wpAny (model X.prog X.w) X.A (setFlight (.ref a) X.env.frame) (fun _ s4 => wpAny (model X.prog X.w) X.A (throw (.ref a) : Sem Flow) (SP X pins D) X.xe s4) X.xe { s' with heap := h3 } := by
          rw [hf]
          refine HandSPX.setFlight_upZ fl3 fun h4 hh4 up4 => wpAny_throw (tk _ _ ?_)
          exact ⟨a, B, sI, pins, σ', H', cls, d, rfl, J, nb, (up.trans up3).trans up4, .inr (.inr (by rw [hs]; exact hh4)), na, os, ag, w⟩
        first
          | exact wpAny_bind (wpAny_pure (wpAny_bind fin))
          | exact wpAny_bind fin
      | @plain x c ts b₀ suite np pos' hds2 l2 hc hsu r ih =>
        intro w
        obtain ⟨b, hb1, hyes, hno⟩ := w
        refine wpAny_handleBy_cons (codeAny_handlers_test ?_) (by intro q; cases q)
        have LT : PySem.W.Looks (model X.prog X.w) h3 (typeOf (.ref a)) cls := fun A Q E s k q => wpAny_typeOf_ref (k _ _ he3) (by rw [hz3.1]; exact q)
        have LM := PySem.W.exm_one (M := model X.prog X.w) (J3.kIn) LT hb1
        have test : ∀ {Q : Value → Shared → Prop} {E : Value → Shared → Prop}, Q c { s' with heap := h3 } → wpAny (model X.prog X.w) (X.A.mark (some (.ref a))) (eval (.Name x np) X.env) Q E { s' with heap := h3 } := fun {Q E} q => by
          obtain ⟨hg, hdbg, hm | ⟨hm, hv, hnn⟩⟩ := hc
          · exact ld_glob (X := X.suite a ((a, oe3) :: (X.pn ++ pins))) S3 hg hm q hdbg
          · exact ld_blt (X := X.suite a ((a, oe3) :: (X.pn ++ pins))) S3 hg hm hv q hnn hdbg
        refine test (LM.here ?_)
        cases b with
        | true =>
          refine codeAny_handlers_suite ?_
          refine HandSPX.lands_againZ fl3 fun h4 fl4 up4 => ?_
          have J4 : Inv X pins σ' H' { s' with heap := h4 } := J.landed nb fl4.1 ((up.trans up3).trans up4) os ag
          obtain ⟨oe4, vs4, he4, hz4, hd4⟩ := fl4.there
          have S4 := J4.suite he4 hd4 na nL nF
          refine wpAny_mono ((hsu a oe4 cls d (X.pn ++ pins) hz4 ⟨_, hd4⟩).run [] _ _ H' _ S4 (hyes rfl a na)) (fun f s6 hsp => ?_) (fun _ _ z => False.elim z)
          cases f with
          | next =>
            obtain ⟨σ6, H6, S6, q6⟩ := hsp
            exact ⟨_, _, S6.unsuite ok, q6⟩
          | brk =>
            obtain ⟨σ6, H6, S6, q6⟩ := hsp
            exact ⟨_, _, S6.unsuite ok, q6⟩
          | cont =>
            obtain ⟨σ6, H6, S6, q6⟩ := hsp
            exact ⟨_, _, S6.unsuite ok, q6⟩
          | ret u =>
            obtain ⟨v6, σ6, H6, S6, r6, q6⟩ := hsp
            exact ⟨_, _, _, S6.unsuite ok, r6, q6⟩
        | false =>
          show wpAny _ X.A (handleBy (.ref a) X.env hds2) _ _ _
          exact ih (hno rfl)
      | @as x c ts b₀ suite np pos' hds2 l2 hc hsu r ih =>
        intro w
        obtain ⟨b, hb1, hyes, hno⟩ := w
        refine wpAny_handleBy_cons (codeAny_handlers_test ?_) (by intro q; cases q)
        have LT : PySem.W.Looks (model X.prog X.w) h3 (typeOf (.ref a)) cls := fun A Q E s k q => wpAny_typeOf_ref (k _ _ he3) (by rw [hz3.1]; exact q)
        have LM := PySem.W.exm_one (M := model X.prog X.w) (J3.kIn) LT hb1
        have test : ∀ {Q : Value → Shared → Prop} {E : Value → Shared → Prop}, Q c { s' with heap := h3 } → wpAny (model X.prog X.w) (X.A.mark (some (.ref a))) (eval (.Name x np) X.env) Q E { s' with heap := h3 } := fun {Q E} q => by
          obtain ⟨hg, hdbg, hm | ⟨hm, hv, hnn⟩⟩ := hc
          · exact ld_glob (X := X.suite a ((a, oe3) :: (X.pn ++ pins))) S3 hg hm q hdbg
          · exact ld_blt (X := X.suite a ((a, oe3) :: (X.pn ++ pins))) S3 hg hm hv q hnn hdbg
        refine test (LM.here ?_)
        cases b with
        | true =>
          refine codeAny_handlers_suite_as ?_
          refine HandSPX.lands_againZ fl3 fun h4 fl4 up4 => ?_
          have J4 : Inv X pins σ' H' { s' with heap := h4 } := J.landed nb fl4.1 ((up.trans up3).trans up4) os ag
          obtain ⟨oe4, vs4, he4, hz4, hd4⟩ := fl4.there
          have S4 := J4.suite he4 hd4 na nL nF
          refine store_ok (X := X.suite a ((a, oe4) :: (X.pn ++ pins))) (v := .ref a) S4 hN hi hloc rfl (fun s5 S5 => ?_) (.inr hln)
          refine wpAny_mono ((hsu a oe4 cls d (X.pn ++ pins) hz4 ⟨_, hd4⟩).run [] s5 _ H' _ S5 (hyes rfl a na)) (fun f s6 hsp => ?_) (fun _ _ z => False.elim z)
          have end_ : ∀ {σ6 : L2.St} {H6 : Hp} {Q : Shared → Prop}, Inv (X.suite a ((a, oe4) :: (X.pn ++ pins))) [] σ6 H6 s6 → (∀ s7, Inv X pins (σ6.set i none) H6 s7 → Q s7) →
              wpAny (model X.prog X.w) X.A (do bindName X.env n .none; unbindBehindTheSuite X.env n pos') (fun _ s7 => Q s7) X.xe s6 := fun {σ6 H6 Q} S6 hq => gone_ok (S6.unsuite ok) hN hi hln hq
          cases f with
          | next =>
            obtain ⟨σ6, H6, S6, q6⟩ := hsp
            exact end_ S6 fun s7 J7 => ⟨_, _, J7, q6⟩
          | brk =>
            obtain ⟨σ6, H6, S6, q6⟩ := hsp
            exact end_ S6 fun s7 J7 => ⟨_, _, J7, q6⟩
          | cont =>
            obtain ⟨σ6, H6, S6, q6⟩ := hsp
            exact end_ S6 fun s7 J7 => ⟨_, _, J7, q6⟩
          | ret u =>
            obtain ⟨v6, σ6, H6, S6, r6, q6⟩ := hsp
            exact end_ S6 fun s7 J7 => ⟨_, _, _, J7, r6, q6⟩
        | false =>
          show wpAny _ X.A (handleBy (.ref a) X.env hds2) _ _ _
          exact ih (hno rfl)
    exact go hh w
  · cases f with
    | next =>
      obtain ⟨σ', H', J', q⟩ := hsp
      exact wpAny_execs_nil ⟨σ', H', J'.ofTry ok, q⟩
    | brk =>
      obtain ⟨σ', H', J', q⟩ := hsp
      exact ⟨σ', H', J'.ofTry ok, q⟩
    | cont =>
      obtain ⟨σ', H', J', q⟩ := hsp
      exact ⟨σ', H', J'.ofTry ok, q⟩
    | ret u =>
      obtain ⟨v, σ', H', J', r, q⟩ := hsp
      exact ⟨v, σ', H', J'.ofTry ok, r, q⟩
end
end Sps
set_option Elab.async false
set_option linter.all false
set_option maxRecDepth 100000
set_option maxHeartbeats 4000000
/-! _law_caught. -/
namespace Sps
open PySem PySem.Spec PyProof.Rows L2
/-- what may come of a call that is caught: the classes and their words -/
def EC (K : PySem.W.Frag) (Q : VK) : List (Addr × Str) → XK
  | [] => fun _ _ _ => False
  | (C, tag) :: r => fun cls d H => ∃ b, PySem.W.exmOne K cls (.ref C) = some b ∧ (b = true → cls = .ref C ∧ ∃ (dd : Addr) (v : V), d = some dd ∧ H dd = some (.xd [("value", v)]) ∧ ∀ p, H p = none → Q (.ref p) (L2.upd H p (.tup [.str tag, v]))) ∧ (b = false → EC K Q r cls d H)
def TTc (K : PySem.W.Frag) (cs : List (Addr × Str)) : (XK → Hp → VK → Prop) → Hp → VK → Prop := fun tl H Q => tl (EC K Q cs) H fun v H' => [V.str "told", v].length ≤ sizeLine ∧ ∀ p, H' p = none → Q (.ref p) (L2.upd H' p (.tup [.str "told", v]))
/-- the caught classes -/
structure CaC (K : PySem.W.Frag) (mg : Str → Option Value) (nm : Str) (C : Addr) : Prop where
  mgC : mg nm = some (.ref C)
  xf : XfC K C
  noV : PySem.W.findIn K (.ref C) "value" = some none
abbrev nCa : List Str := ["_law_call", "error"]
theorem scCaught : FnScope nCa ["_law_call"] (defScope s__law_caught) := ⟨rfl, rfl, rfl, by decide +kernel, rfl, by decide +kernel, by decide +kernel⟩
theorem set_at {σ : L2.St} {o : Option V} (h : σ.length = 2) : (σ.set 1 o)[1]? = some o := by
  match σ, h with
  | [a, b], _ => rfl
theorem caught_gives {X : Cx} {q : Str} {g C1 C2 C3 C4 C5 CK : Addr} {cdg : Value} (h1 : CaC X.K X.mg "NoCopy" C1) (h2 : CaC X.K X.mg "BadSpans" C2) (h3 : CaC X.K X.mg "BadWord" C3) (h4 : CaC X.K X.mg "NoAsk" C4) (h5 : CaC X.K X.mg "BadCount" C5) (h6 : X.mg "KeeperError" = some (.ref CK)) :
    LamX.GivesTo X nCa "_law_caught" (defScope s__law_caught) g cdg (defBody s__law_caught) "_law_call" q (TTc X.K [(C1, "copy"), (C2, "spans"), (C3, "word"), (C4, "ask"), (C5, "count")]) := by
  intro f c' s H Q tl act hc h
  refine ⟨_, pss_one (ps_try_manyAs (X := (cxOf C8.CX0 X.prog X.w X.K X.mg X.base nCa "_law_caught" (defScope s__law_caught) g cdg X.A X.stack s H C8.E0).nox) (i := 1) (n := "error") (tb := fun W D σ H => ∃ Ech : XK, (∀ cls d (σ' : L2.St) H', σ'.length = 2 → Ech cls d H' → W cls d σ' H') ∧ σ[0]? = some (some (.ref f)) ∧ H c' = some (LamX.CodeO c' q) ∧ tl Ech H fun v H1 => ([V.str "told", v].length ≤ sizeLine ∧ ∀ p, H1 p = none → D.rt (.ref p) (L2.upd H1 p (.tup [.str "told", v]))))
      scCaught.nd rfl rfl rfl rfl takes0 (fun W pn xe tk _ => ?_)
      (.as ⟨rfl, rfl, .inl h1.mgC⟩ (fun a oe cls d pn hz hf => pss_one (ps_ret (pe_tup (pa_cons pe_str (pa_cons (pe_xf h1.xf h1.noV hz hf (pv 1)) pa_nil)))))
      (.as ⟨rfl, rfl, .inl h2.mgC⟩ (fun a oe cls d pn hz hf => pss_one (ps_ret (pe_tup (pa_cons pe_str (pa_cons (pe_xf h2.xf h2.noV hz hf (pv 1)) pa_nil)))))
      (.as ⟨rfl, rfl, .inl h3.mgC⟩ (fun a oe cls d pn hz hf => pss_one (ps_ret (pe_tup (pa_cons pe_str (pa_cons (pe_xf h3.xf h3.noV hz hf (pv 1)) pa_nil)))))
      (.as ⟨rfl, rfl, .inl h4.mgC⟩ (fun a oe cls d pn hz hf => pss_one (ps_ret (pe_tup (pa_cons pe_str (pa_cons (pe_xf h4.xf h4.noV hz hf (pv 1)) pa_nil)))))
      (.as ⟨rfl, rfl, .inl h5.mgC⟩ (fun a oe cls d pn hz hf => pss_one (ps_ret (pe_tup (pa_cons pe_str (pa_cons (pe_xf h5.xf h5.noV hz hf (pv 1)) pa_nil)))))
      (.plain ⟨rfl, rfl, .inl h6⟩ (fun a oe cls d pn hz hf => pss_never) .nil))))))), ?_⟩
  · refine ⟨fun pins s' σ H' D I h' => ?_⟩
    obtain ⟨Ech, hW, q1, q2, q3⟩ := h'
    have tk' : Takes (((cxOf C8.CX0 X.prog X.w X.K X.mg X.base nCa "_law_caught" (defScope s__law_caught) g cdg X.A X.stack s H C8.E0).nox).tr pn xe) (fun cls d σ H => σ.length = 2 → W cls d σ H) :=
      fun u s2 ⟨a, B, sI, pins, σ, H, cls, d, e, I, nb, up, sky, na, os, ag, w⟩ => tk u s2 ⟨a, B, sI, pins, σ, H, cls, d, e, I, nb, up, sky, na, os, ag, w I.len⟩
    have hp := fun (p1 p2 : Pos) => act _ pn xe Ech p1 p2 tk' (fun cls d σ' H' e l => hW cls d σ' H' l e)
    exact PSs.run (pss_one (ps_ret (pe_tup (pa_cons pe_str (pa_cons (hp _ _) pa_nil))))) pins s' σ H' D I ⟨q1, q2, q3⟩
  · refine ⟨EC X.K Q [(C1, "copy"), (C2, "spans"), (C3, "word"), (C4, "ask"), (C5, "count")], fun cls d σ' H' hl e => ?_, rfl, hc, ?_⟩
    · have look : ∀ v : V, ([("value", v)] : List (Str × V)).lookup ("value" : Str) = some v := fun v => by rw [List.lookup_cons, beq_self_eq_true]
      have one : ∀ {C : Addr} {tag : Str} {a : Addr}, (cls = .ref C ∧ ∃ (dd : Addr) (v : V), d = some dd ∧ H' dd = some (.xd [("value", v)]) ∧ ∀ p, H' p = none → Q (.ref p) (L2.upd H' p (.tup [.str tag, v]))) →
          tRet (tTup (tCons (tC (.str tag)) (tCons (tXf a cls d C "value" (tVar 1)) tNil))) { nx := fun σ2 H2 => ({ nx := fun _ H' => Q .non H', rt := Q } : Ends).nx (σ2.set 1 none) H2, rt := Q, bk := fun σ2 H2 => ({ nx := fun _ H' => Q .non H', rt := Q } : Ends).bk (σ2.set 1 none) H2, ct := fun σ2 H2 => ({ nx := fun _ H' => Q .non H', rt := Q } : Ends).ct (σ2.set 1 none) H2 } (σ'.set 1 (some (.ref a))) H' := fun {C tag a} ⟨ec, dd, v, ed, hd, k⟩ => by
        exact ⟨_, set_at hl, rfl, ec, dd, _, v, ed, hd, look v, (by show 2 ≤ sizeLine; decide), fun p hp => k p hp⟩
      obtain ⟨b1, e1, y1, n1⟩ := e
      refine ⟨b1, e1, fun hb a _ => one (y1 hb), fun hb => ?_⟩
      obtain ⟨b2, e2, y2, n2⟩ := n1 hb
      refine ⟨b2, e2, fun hb a _ => one (y2 hb), fun hb => ?_⟩
      obtain ⟨b3, e3, y3, n3⟩ := n2 hb
      refine ⟨b3, e3, fun hb a _ => one (y3 hb), fun hb => ?_⟩
      obtain ⟨b4, e4, y4, n4⟩ := n3 hb
      refine ⟨b4, e4, fun hb a _ => one (y4 hb), fun hb => ?_⟩
      obtain ⟨b5, e5, y5, n5⟩ := n4 hb
      exact ⟨b5, e5, fun hb a _ => one (y5 hb), fun hb => (n5 hb).elim⟩
    · exact h
end Sps
set_option Elab.async false
set_option linter.all false
set_option maxRecDepth 100000
set_option maxHeartbeats 4000000
/-! Values of any kind as data, their texts. -/
namespace Sps
open PySem PySem.Spec PyProof.Rows L2
mutual
/-- the data of a value, no part of it at a place of B -/
inductive Dr (B : Addr → Prop) (H : Hp) : V → PyData → Prop
  | non : Dr B H .non .none
  | bl (b : Bool) : Dr B H (.bl b) (.bool b)
  | int (i : Int) : Dr B H (.int i) (.int i)
  | str (x : Str) : Dr B H (.str x) (.str x)
  | lst {a : Addr} {xs : List V} {ds : List PyData} (h : H a = some (.lst xs)) (n : ¬ B a) (q : DrAll B H xs ds) : Dr B H (.ref a) (.list ds)
  | tup {a : Addr} {xs : List V} {ds : List PyData} (h : H a = some (.tup xs)) (n : ¬ B a) (q : DrAll B H xs ds) : Dr B H (.ref a) (.tuple ds)
  | emp {a : Addr} (h : H a = some (.dK [])) (n : ¬ B a) : Dr B H (.ref a) (.dict [])
inductive DrAll (B : Addr → Prop) (H : Hp) : List V → List PyData → Prop
  | nil : DrAll B H [] []
  | cons {v : V} {vs : List V} {d : PyData} {ds : List PyData} (q : Dr B H v d) (r : DrAll B H vs ds) : DrAll B H (v :: vs) (d :: ds)
end
/-- all but what stands at B and the tables stays -/
def KeepB (B : Addr → Prop) (H H' : Hp) : Prop := ∀ b o, ¬ B b → (∀ ps, o ≠ .tbl ps) → H b = some o → H' b = some o
theorem Same.kb {B : Addr → Prop} {H H' : Hp} (s : Same H H') : KeepB B H H' := fun b o _ _ e => s b o e
theorem KeepB.trans {B : Addr → Prop} {H H1 H2 : Hp} (a : KeepB B H H1) (b : KeepB B H1 H2) : KeepB B H H2 := fun c o n t e => b c o n t (a c o n t e)
theorem KeepB.refl (B : Addr → Prop) (H : Hp) : KeepB B H H := fun _ _ _ _ e => e
theorem SameX.kb {B : Addr → Prop} {l : Addr} {H H' : Hp} (s : SameX l H H') (h : B l) : KeepB B H H' := fun b o n _ e => s b o (fun z => n (by rw [z]; exact h)) e
mutual
theorem Dr.go {B : Addr → Prop} {H H' : Hp} (s : KeepB B H H') : ∀ {v : V} {d : PyData}, Dr B H v d → Dr B H' v d
  | _, _, .non => .non
  | _, _, .bl b => .bl b
  | _, _, .int i => .int i
  | _, _, .str x => .str x
  | _, _, .lst h n q => .lst (s _ _ n (fun _ z => by cases z) h) n (DrAll.go s q)
  | _, _, .tup h n q => .tup (s _ _ n (fun _ z => by cases z) h) n (DrAll.go s q)
  | _, _, .emp h n => .emp (s _ _ n (fun _ z => by cases z) h) n
theorem DrAll.go {B : Addr → Prop} {H H' : Hp} (s : KeepB B H H') : ∀ {vs : List V} {ds : List PyData}, DrAll B H vs ds → DrAll B H' vs ds
  | _, _, .nil => .nil
  | _, _, .cons q r => .cons (Dr.go s q) (DrAll.go s r)
end
/-! ### room -/
theorem tupText_len (ts : List Str) : (tupleText ts).length ≤ piled ts + 3 := by
  have e : (tupleText ts).length ≤ 1 + (Str.join ", " ts).length + 2 := by
    unfold tupleText
    rw [strLen_append, strLen_append]
    have : ((if ts.length == 1 then ",)" else ")" : String) : Str).length ≤ 2 := by split <;> decide
    have e1 : (("(" : String) : Str).length = 1 := rfl
    omega
  by_cases h : ts = []
  · subst h
    decide +kernel
  · have := join_length_add ts h
    omega
theorem lstText_len (ts : List Str) : (listText ts).length ≤ piled ts + 2 := by
  cases ts with
  | nil => decide +kernel
  | cons t r =>
    have hX : (listText (t :: r)).length = (textFrom 0 "[" (t :: r)).length + 1 := by
      unfold listText
      rw [strLen_append]
      rfl
    have h := textFrom_length_pos r 1 (("[" : Str) ++ (if (0 : Nat) > 0 then ", " else "" : String) ++ t) (Nat.succ_pos 0)
    have e2 : (("[" : Str) ++ (if (0 : Nat) > 0 then ", " else "" : String) ++ t).length = 1 + t.length := by
      rw [strLen_append, strLen_append]
      rfl
    have h2 : (textFrom 0 "[" (t :: r)).length = 1 + t.length + piled r := by
      show (textFrom 1 _ r).length = _
      rw [h, e2]
    rw [hX, h2, piled_cons]
    omega
def strOf : PyData → Option Str
  | .str z => some z
  | _ => none
structure Rm (d : PyData) : Prop where
  show_ : d.showable = true
  deep : d.depth ≤ 3
  len : d.shown.length ≤ 400
  txt : ∀ z, strOf d = some z → z.length ≤ 20
def rm0 (d : PyData) : Bool := d.showable && decide (d.depth ≤ 3) && decide (d.shown.length ≤ 400) && (match strOf d with | some z => decide (z.length ≤ 20) | none => true)
theorem Rm.of {d : PyData} (h : rm0 d = true) : Rm d := by
  unfold rm0 at h
  simp only [Bool.and_eq_true, decide_eq_true_eq] at h
  refine ⟨h.1.1.1, h.1.1.2, h.1.2, fun z e => ?_⟩
  have h2 := h.2
  rw [e] at h2
  exact of_decide_eq_true h2
theorem Rm.str {z : Str} (h : z.length ≤ 20) (hc : ∀ c ∈ z.cps.toList, c < 16 ^ 8) : Rm (.str z) := by
  refine ⟨by simp [PyData.showable], by simp [PyData.depth], ?_, fun y e => by have := Option.some.inj e; rw [← this]; exact h⟩
  have := StrLaws.reprText_len z hc
  simp only [PyData.shown]
  omega
theorem Rm.tup1 {z : Str} (h : z.length ≤ 20) (hc : ∀ c ∈ z.cps.toList, c < 16 ^ 8) : Rm (.tuple [.str z]) := by
  refine ⟨by simp [PyData.showable, PyData.showableAll], by simp [PyData.depth, PyData.depthAll], ?_, fun y e => by cases e⟩
  have := StrLaws.reprText_len z hc
  have l := tupText_len [(PyData.str z).shown]
  rw [piled_cons, piled_nil] at l
  simp only [PyData.shown, PyData.shownAll] at l ⊢
  omega
theorem Rm.lst1 {z : Str} (h : z.length ≤ 20) (hc : ∀ c ∈ z.cps.toList, c < 16 ^ 8) : Rm (.list [.str z]) := by
  refine ⟨by simp [PyData.showable, PyData.showableAll], by simp [PyData.depth, PyData.depthAll], ?_, fun y e => by cases e⟩
  have := StrLaws.reprText_len z hc
  have l := lstText_len [(PyData.str z).shown]
  rw [piled_cons, piled_nil] at l
  simp only [PyData.shown, PyData.shownAll] at l ⊢
  omega
theorem Rm.int {i : Int} (h : i.natAbs < 10 ^ 40) : Rm (.int i) := by
  refine ⟨?_, by simp [PyData.depth], ?_, fun y e => by cases e⟩
  · simp only [PyData.showable]
    refine decide_eq_true ?_
    by_cases z : i.natAbs = 0
    · rw [z]; decide
    · have : i.natAbs < 2 ^ 1920 := Nat.lt_of_lt_of_le h (Nat.le_trans (by decide : 10 ^ 40 ≤ 2 ^ 140) (Nat.pow_le_pow_right (by decide) (by decide)))
      exact (Nat.log2_lt z).mpr this
  · have := int_text_length_le10 (a := i) (k := 40) (by decide) h
    show (Str.ofString (toString i)).length ≤ 400
    rw [PySem.ofString_length]
    omega
/-- the told pair may be shown -/
structure Shw (d : PyData) : Prop where
  show_ : d.showable = true
  deep : d.depth ≤ 30
  len : d.shown.length ≤ sizeLine
theorem Rm.pair {d : PyData} (h : Rm d) {tag : Str} (ht : tag.length ≤ 20) (hc : ∀ c ∈ tag.cps.toList, c < 16 ^ 8) : Shw (.tuple [.str tag, d]) := by
  refine ⟨by simp [PyData.showable, PyData.showableAll, h.show_], ?_, ?_⟩
  · have := h.deep
    simp only [PyData.depth, PyData.depthAll]
    omega
  · have := StrLaws.reprText_len tag hc
    have l := tupText_len [(PyData.str tag).shown, d.shown]
    rw [piled_cons, piled_cons, piled_nil] at l
    have h3 := h.len
    simp only [PyData.shown, PyData.shownAll] at l ⊢
    rw [sizeLine_eq]
    omega
/-! ### repr -/
section
variable {X : Cx} {pins : List (Addr × Obj)} {σ : L2.St} {H : Hp} {s : Shared} {B : Addr → Prop}
mutual
theorem Dr.reads (I : Inv X pins σ H s) (hm : H sysModules = none) : ∀ {v : V} {d : PyData} {u : Value}, Dr B H v d → RelV v u → ∃ as, Reads s.heap u d as ∧ sysModules ∉ as
  | _, _, _, .non, r => by cases r; exact ⟨_, Reads.none, by simp⟩
  | _, _, _, .bl b, r => by cases r; exact ⟨_, Reads.bool b, by simp⟩
  | _, _, _, .int i, r => by obtain ⟨t, rfl⟩ := r; exact ⟨_, Reads.int i t, by simp⟩
  | _, _, _, .str x, r => by obtain ⟨t, rfl⟩ := r; exact ⟨_, Reads.str x t, by simp⟩
  | _, _, _, .lst h n q, r => by
    cases r
    obtain ⟨its, rv, ⟨o, k, ho, hc, _, hd⟩, _⟩ := I.list (SqL.of h)
    obtain ⟨as, hr, na⟩ := DrAll.reads I hm q rv
    refine ⟨_, Reads.list ho hc hd hr, fun z => ?_⟩
    rcases List.mem_cons.mp z with e | z
    · rw [← e, hm] at h
      cases h
    · exact na z
  | _, _, _, .tup h n q, r => by
    cases r
    obtain ⟨its, rv, ⟨o, ho, hc, k, hd⟩, _⟩ := I.tuple (tupAt (K := X.K) h)
    obtain ⟨as, hr, na⟩ := DrAll.reads I hm q rv
    exact ⟨_, Reads.tuple ho hc hd hr, na⟩
  | _, _, _, .emp h n, r => by
    cases r
    obtain ⟨_, hs, vs, kv, o, es, ep, ho, hx, hd, _, pr, _⟩ := dk_of I.hok h
    cases kv
    generalize he : es.toList = el at pr
    cases pr
    refine ⟨_, Reads.dict ho hx.1 hd (by rw [he]; exact .nil) (by rw [he]; exact .nil), fun z => ?_⟩
    rcases List.mem_cons.mp z with e | z
    · rw [← e, hm] at h
      cases h
    · simp at z
theorem DrAll.reads (I : Inv X pins σ H s) (hm : H sysModules = none) : ∀ {vs : List V} {ds : List PyData} {us : List Value}, DrAll B H vs ds → Vals vs us → ∃ as, ReadsAll s.heap us ds as ∧ sysModules ∉ as
  | _, _, _, .nil, r => by cases r; exact ⟨_, ReadsAll.nil, by simp⟩
  | _, _, _, .cons q qs, r => by
    cases r with
    | cons r1 r2 =>
      obtain ⟨as, h1, n1⟩ := Dr.reads I hm q r1
      obtain ⟨bs, h2, n2⟩ := DrAll.reads I hm qs r2
      exact ⟨_, ReadsAll.cons h1 h2, fun z => (List.mem_append.mp z).elim n1 n2⟩
end
end
def rRepr (B : Addr → Prop) : List V → Hp → VK → Prop := fun xs H Q => ∃ a d, xs = [.ref a] ∧ Dr B H (.ref a) d ∧ Shw d ∧ Q (.str d.shown) H
theorem call_reprD {X : Cx} {B : Addr → Prop} (hg : X.A.guards = some []) (hu : X.A.units + 64 < cLine) (hb : ∃ o, X.base.get? sysModules = some o) : CallR X (.builtin "repr") (rRepr B) := by
  intro pins s σ H xs us Q I r h
  obtain ⟨a, d, rfl, hd, S, q⟩ := h
  obtain ⟨u, rfl, ru⟩ := vals1 r
  obtain rfl : u = Value.ref a := ru
  obtain ⟨o, ho⟩ := hb
  have hm : H sysModules = none := (I.bs _ _ ho).2
  obtain ⟨as, hr, na⟩ := hd.reads I hm (show RelV (.ref a) (.ref a) from rfl)
  exact repr_of_reads' hr S.show_ (fun _ => na) hg (by have := S.deep; omega) (fun _ _ e => e) (fun h' u tk hk => ⟨.str _, H, I.kept (t' := tk) hk, ⟨_, rfl⟩, q⟩) S.len
/-! ### what a value is -/
theorem Dr.noInt {K : PySem.W.Frag} {B : Addr → Prop} {H : Hp} {x : V} {d : PyData} (h : Dr B H x d) (n : ∀ i, x ≠ .int i) : NoInt K H x := by
  cases h with
  | non => exact ⟨_, .base .non, .inl (kit_ty (by decide +kernel))⟩
  | bl b => exact ⟨_, .base (.bl b), .inr ⟨kit_ty (by decide +kernel), kit_ty (by decide +kernel)⟩⟩
  | int i => exact absurd rfl (n i)
  | str x => exact ⟨_, .base (.str x), .inl (kit_ty (by decide +kernel))⟩
  | lst h _ _ => exact ⟨_, .base (.lst h), .inl (kit_ty (by decide +kernel))⟩
  | tup h _ _ => exact ⟨_, .base (.tup h), .inl (kit_ty (by decide +kernel))⟩
  | emp h _ => exact ⟨_, .base (.dK h), .inl (kit_ty (by decide +kernel))⟩
theorem Dr.strV {K : PySem.W.Frag} {B : Addr → Prop} {H : Hp} {x : V} {d : PyData} (h : Dr B H x d) (r : Rm d) : StrV K H x (strOf d) := by
  cases h with
  | non => exact .no (.base .non) (kit_ty (by decide +kernel))
  | bl b => exact .no (.base (.bl b)) (kit_ty (by decide +kernel))
  | int i => exact .no (.base (.int i)) (kit_ty (by decide +kernel))
  | str x => exact .yes x (Nat.le_trans (r.txt x rfl) (by decide))
  | lst h _ _ => exact .no (.base (.lst h)) (kit_ty (by decide +kernel))
  | tup h _ _ => exact .no (.base (.tup h)) (kit_ty (by decide +kernel))
  | emp h _ => exact .no (.base (.dK h)) (kit_ty (by decide +kernel))
/-- isinstance of what is no instance -/
structure NoSp (K : PySem.W.Frag) (CS : Addr) : Prop where
  non : PySem.W.kitOne K (.type "NoneType") (.ref CS) = some false
  bl : PySem.W.kitOne K (.type "bool") (.ref CS) = some false
  int : PySem.W.kitOne K (.type "int") (.ref CS) = some false
  str : PySem.W.kitOne K (.type "str") (.ref CS) = some false
  lst : PySem.W.kitOne K (.type "list") (.ref CS) = some false
  tup : PySem.W.kitOne K (.type "tuple") (.ref CS) = some false
  dct : PySem.W.kitOne K (.type "dict") (.ref CS) = some false
theorem Dr.ofC {K : PySem.W.Frag} {CS : Addr} (N : NoSp K CS) {B : Addr → Prop} {H : Hp} {x : V} {d : PyData} (h : Dr B H x d) : OfC K CS H x false := by
  cases h with
  | non => exact ⟨_, .base .non, N.non⟩
  | bl b => exact ⟨_, .base (.bl b), N.bl⟩
  | int i => exact ⟨_, .base (.int i), N.int⟩
  | str x => exact ⟨_, .base (.str x), N.str⟩
  | lst h _ _ => exact ⟨_, .base (.lst h), N.lst⟩
  | tup h _ _ => exact ⟨_, .base (.tup h), N.tup⟩
  | emp h _ => exact ⟨_, .base (.dK h), N.dct⟩
end Sps
set_option Elab.async false
set_option linter.all false
set_option maxRecDepth 100000
set_option maxHeartbeats 4000000
/-! The law's own tests of words and numbers; data that is written. -/
namespace Sps
open PySem PySem.Spec PyProof.Rows L2
section
variable {P : Program} {w : World} {K : PySem.W.Frag} {mg : Str → Option Value} {base : Heap}
theorem scLW : FnScope ["_law_thing", "_law_sign"] ["_law_thing"] (defScope s__law_is_word) := ⟨rfl, rfl, rfl, by decide +kernel, rfl, by decide +kernel, by decide +kernel⟩
theorem ok_lawWord {f : Addr} {fd : FuncData} (F : Fun K "_law_is_word" "_law_is_word" s__law_is_word f fd) (T : Names mg) : FnOk P w K mg base CX0 1 f fd ["_law_thing"] (spWord K) := by
  refine F.ok scLW (fun vs H Q E h => ?_) (fun cdv A outer s H vs Q E hr h => ?_)
  · obtain ⟨_, _, rfl, _⟩ := h
    rfl
  · obtain ⟨x, o, rfl, hx, h⟩ := h
    have eL : wordL = wordL := rfl
    skip
    refine ⟨_, pss_cons (ps_if (PW.pt (pw_or (pt_not (pt_val (pe_callB call_isi (by rfl) T.isinstance (by decide +kernel) (pa_cons (pv 0) (pa_cons (pe_bltn (v := .ty "str") (by rfl) T.str (by decide +kernel) rfl) pa_nil)))))
      (pw_or1 (pt_not (pt_chain op_lt op_lt pe_int (pe_callB call_len_str (by rfl) T.len PySem.boot_len (pa_cons (pv 0) pa_nil)) pe_int))))) (pss_one (ps_ret pe_bl)) pss_nil)
      (pss_one (ps_ret (pe_callB (cr_all rfl) (by rfl) T.all (by decide +kernel) (pa_cons (pe_lc (own := [("_law_sign", 1)]) (g := gName 1) (tt := tYes) rfl scLW.nd (pi_str (pv 0)) (blkOk_by (own := [("_law_sign", 1)]) (N := ["_law_thing", "_law_sign"]) (sc := defScope s__law_is_word) (by decide +kernel))
        (fun _ _ _ _ _ => pg_name (i := 1) scLW.nd rfl (Or.inl rfl)) (fun _ _ _ _ _ => pts_nil) (fun _ _ _ _ _ => pe_cmpR op_in_sign (pv 1) pe_str rfl)) pa_nil)))), ?_⟩
    cases hx with
    | no ty k =>
      refine ⟨_, rfl, _, _, _, _, false, rfl, .ty "str", ty, k, false, rfl, ?_⟩
      exact iteT (iteT (h H (Same.refl H)))
    | yes z hz =>
      refine ⟨_, rfl, _, _, _, _, true, rfl, .ty "str", .base (.str z), kit_ss K, true, rfl, ?_⟩
      refine iteF ?_
      have len : okS wordL (some z) = ((decide ((0 : Int) < (z.length : Int)) && decide ((z.length : Int) < 9)) && z.cps.toList.all fun c => decide (c ∈ wordL.cps.toList)) := by
        show lettersOk wordL z = _
        unfold lettersOk
        congr 2
        · exact decide_eq_decide.mpr (by omega)
        · exact decide_eq_decide.mpr (by omega)
      have no : (decide ((0 : Int) < (z.length : Int)) && decide ((z.length : Int) < 9)) = false → Q (.bl false) H := fun e => by
        have q := h H (Same.refl H)
        rw [len, e, Bool.false_and] at q
        exact q
      refine ⟨_, rfl, z, rfl, hz, _, _, rfl, rfl, _, rfl, ?_⟩
      refine ite2 (fun c1 => ?_) (fun c1 => ?_)
      · refine ⟨_, _, rfl, rfl, _, rfl, ?_⟩
        refine ite2 (fun c2 => ?_) (fun c2 => ?_)
        · refine no ?_
          have : decide ((z.length : Int) < 9) = false := by simpa using c2
          rw [this, Bool.and_false]
        · have c2' : decide ((z.length : Int) < 9) = true := by simpa using c2
          have h8 : z.length ≤ 8 := by have := of_decide_eq_true c2'; omega
          refine ⟨_, rfl, z, rfl, fun D hD => lc_vals walk_str (fun i => V.bl (sgn wordL z i)) ?_ hD (fun _ _ => trivial) (fun i x H1 H2 Nx hi sH y k => ?_) (fun H1 sH hL => ?_)⟩
          · exact Nat.lt_of_le_of_lt (Nat.le_trans (show z.cps.size ≤ 8 from h8) (by decide)) (by decide : 8 < sizeLine)
          · obtain ⟨rfl, c, hc, rfl⟩ := y
            refine ⟨rfl, ?_⟩
            refine ⟨_, rfl, c, wordL, rfl, rfl, ?_⟩
            refine k _ _ ?_ (Same.refl _)
            unfold sgn
            rw [hc]
          · have el : (List.range z.cps.size).map (fun i => V.bl (sgn wordL z i)) = ((List.range z.cps.size).map (sgn wordL z)).map V.bl := by rw [List.map_map]; rfl
            rw [el] at hL
            refine ⟨D, _, rfl, SqL.of hL, ?_⟩
            rw [all_range (l := z.cps.toList) (g := fun c => decide (c ∈ wordL.cps.toList)) (by simp) (fun i c e => by rw [Array.getElem?_toList] at e; unfold sgn; rw [e])]
            have q := h H1 sH
            rw [len, c1, c2', Bool.true_and] at q
            exact q
      · refine ⟨false, rfl, iteT (no ?_)⟩
        have : decide ((0 : Int) < (z.length : Int)) = false := by simpa using c1
        rw [this, Bool.false_and]

def spNum (K : PySem.W.Frag) : Sp := fun vs H Q _ => ∃ (x : V) (l m : Int), vs = [x, .int l, .int m] ∧ ((∃ v, x = .int v ∧ Q (.bl (decide (l ≤ v) && decide (v ≤ m))) H) ∨ (NoInt K H x ∧ Q (.bl false) H))
abbrev pLN : List Str := ["_law_thing", "_law_least", "_law_most"]
theorem scLN : FnScope pLN pLN (defScope s__law_is_number) := ⟨rfl, rfl, rfl, by decide +kernel, rfl, by decide +kernel, by decide +kernel⟩
theorem ok_lawNum {f : Addr} {fd : FuncData} (F : Fun K "_law_is_number" "_law_is_number" s__law_is_number f fd) (T : Names mg) : FnOk P w K mg base CX0 1 f fd pLN (spNum K) := by
  refine F.ok scLN (fun vs H Q E h => ?_) (fun cdv A outer s H vs Q E hr h => ?_)
  · obtain ⟨x, l, m, rfl, _⟩ := h
    rfl
  · obtain ⟨x, l, m, rfl, h⟩ := h
    refine ⟨_, pss_one (ps_ret (pe_and (pe_callB call_isi (by rfl) T.isinstance (by decide +kernel) (pa_cons (pv 0) (pa_cons (pe_bltn (v := .ty "int") (by rfl) T.int (by decide +kernel) rfl) pa_nil)))
      (pe_and (pe_not (pe_callB call_isi (by rfl) T.isinstance (by decide +kernel) (pa_cons (pv 0) (pa_cons (pe_bltn (v := .ty "bool") (by rfl) T.bool (by decide +kernel) rfl) pa_nil))))
      (pe_one (pe_chain op_le op_le (pv 1) (pv 0) (pv 2)))))), ?_⟩
    rcases h with ⟨v, rfl, h⟩ | ⟨⟨t, ty, hb⟩, h⟩
    · refine ⟨_, rfl, _, _, _, _, true, rfl, .ty "int", .base (.int v), kit_ty (by decide +kernel), true, rfl, ?_⟩
      refine iteT ?_
      refine ⟨_, rfl, _, _, _, _, false, rfl, .ty "bool", .base (.int v), kit_ty (by decide +kernel), false, rfl, _, rfl, ?_⟩
      refine iteT ?_
      refine ⟨_, rfl, _, rfl, _, _, rfl, rfl, _, rfl, ?_⟩
      refine ite2 (fun c => ?_) (fun c => ?_)
      · refine ⟨_, rfl, _, _, rfl, rfl, ?_⟩
        rw [c] at h
        exact h
      · have c' : decide (l ≤ v) = false := by simpa using c
        rw [c'] at h
        exact h
    · rcases hb with hi | ⟨hi, hb⟩
      · refine ⟨_, rfl, _, _, _, _, false, rfl, .ty "int", ty, hi, false, rfl, ?_⟩
        exact iteF h
      · refine ⟨_, rfl, _, _, _, _, true, rfl, .ty "int", ty, hi, true, rfl, ?_⟩
        refine iteT ?_
        refine ⟨_, rfl, _, _, _, _, true, rfl, .ty "bool", ty, hb, true, rfl, _, rfl, ?_⟩
        exact iteF h
end
/-! ### data that is written -/
section
variable {B : Addr → Prop} {C : Hp → Prop} {σ : L2.St} {te : TE} {t : TA} {d : PyData} {ds : List PyData}
/-- what the reading knows of the heap -/
structure Cnd (B : Addr → Prop) (C : Hp → Prop) : Prop where
  mono : ∀ {H H'}, C H → Same H H' → C H'
  out : ∀ {H}, C H → ∀ b, B b → H b ≠ none
theorem Cnd.fresh {H : Hp} (k : Cnd B C) (h : C H) {p : Addr} (hp : H p = none) : ¬ B p := fun b => k.out h p b hp
def LitS (B : Addr → Prop) (C : Hp → Prop) (σ : L2.St) (te : TE) (d : PyData) : Prop := ∀ (H : Hp) (Q : VK), C H → (∀ (H' : Hp) (v : V), Same H H' → Dr B H' v d → Q v H') → te σ H Q
def LitSA (B : Addr → Prop) (C : Hp → Prop) (σ : L2.St) (t : TA) (ds : List PyData) : Prop := ∀ (H : Hp) (R : List V → Hp → Prop), C H → (∀ (H' : Hp) (vs : List V), Same H H' → DrAll B H' vs ds → R vs H') → t σ H R
theorem LitS.non : LitS B C σ (tC .non) .none := fun H Q _ k => k H _ (Same.refl H) .non
theorem LitS.bl {b : Bool} : LitS B C σ (tC (.bl b)) (.bool b) := fun H Q _ k => k H _ (Same.refl H) (.bl b)
theorem LitS.int {i : Int} : LitS B C σ (tC (.int i)) (.int i) := fun H Q _ k => k H _ (Same.refl H) (.int i)
theorem LitS.str {x : Str} : LitS B C σ (tC (.str x)) (.str x) := fun H Q _ k => k H _ (Same.refl H) (.str x)
theorem LitS.neg {i : Int} : LitS B C σ (tUn (rU fun i => .int (-i)) (tC (.int i))) (.int (-i)) := fun H Q _ k => ⟨i, rfl, k H _ (Same.refl H) (.int (-i))⟩
theorem LitS.emp (c : Cnd B C) : LitS B C σ tDNewK (.dict []) := fun H Q h k p hp => k _ _ (Same.upd hp) (.emp upd_same (c.fresh h hp))
theorem LitSA.nil : LitSA B C σ tNil [] := fun H R _ k => k H _ (Same.refl H) .nil
theorem LitSA.cons (c : Cnd B C) (h : LitS B C σ te d) (r : LitSA B C σ t ds) : LitSA B C σ (tCons te t) (d :: ds) := fun H R hc k =>
  h H _ hc fun H1 v s1 q1 => r H1 _ (c.mono hc s1) fun H2 vs s2 q2 => k H2 _ (s1.trans s2) (.cons (q1.go (Same.kb s2)) q2)
theorem DrAll.length {H : Hp} : ∀ {vs : List V} {ds : List PyData}, DrAll B H vs ds → vs.length = ds.length
  | _, _, .nil => rfl
  | _, _, .cons _ r => congrArg (· + 1) r.length
theorem LitS.tup (c : Cnd B C) (h : LitSA B C σ t ds) (z : ds.length ≤ 1000) : LitS B C σ (tTup t) (.tuple ds) := fun H Q hc k =>
  h H _ hc fun H1 vs s1 q1 => ⟨by rw [q1.length, sizeLine_eq]; omega, fun p hp => k _ _ (Same.upd' s1 hp) (.tup upd_same (c.fresh (c.mono hc s1) hp) (q1.go (Same.kb (Same.upd hp))))⟩
theorem LitS.lst (c : Cnd B C) (h : LitSA B C σ t ds) (z : ds.length ≤ 1000) : LitS B C σ (tLst t) (.list ds) := fun H Q hc k =>
  h H _ hc fun H1 vs s1 q1 => ⟨by rw [q1.length, sizeLine_eq]; omega, fun p hp => k _ _ (Same.upd' s1 hp) (.lst upd_same (c.fresh (c.mono hc s1) hp) (q1.go (Same.kb (Same.upd hp))))⟩
/-! ### lists of values of which something is known -/
def ItemS (C : Hp → Prop) (σ : L2.St) (P : Hp → V → Prop) (te : TE) : Prop := ∀ (H : Hp) (Q : VK), C H → (∀ (H' : Hp) (v : V), Same H H' → P H' v → Q v H') → te σ H Q
def ItemsS (C : Hp → Prop) (σ : L2.St) (P : Hp → V → Prop) (t : TA) (n : Nat) : Prop := ∀ (H : Hp) (R : List V → Hp → Prop), C H → (∀ (H' : Hp) (vs : List V), Same H H' → vs.length = n → (∀ v ∈ vs, P H' v) → R vs H') → t σ H R
variable {P : Hp → V → Prop}
theorem ItemsS.nil : ItemsS C σ P tNil 0 := fun H R _ k => k H [] (Same.refl H) rfl (fun _ m => (List.not_mem_nil m).elim)
theorem ItemsS.cons {n : Nat} (c : Cnd B C) (pm : ∀ {H H' v}, P H v → Same H H' → P H' v) (h : ItemS C σ P te) (r : ItemsS C σ P t n) : ItemsS C σ P (tCons te t) (n + 1) := fun H R hc k =>
  h H _ hc fun H1 v s1 q1 => r H1 _ (c.mono hc s1) fun H2 vs s2 hl q2 => k H2 _ (s1.trans s2) (by rw [List.length_cons, hl]) fun x m => by
    rcases List.mem_cons.mp m with e | m
    · rw [e]; exact pm q1 s2
    · exact q2 x m
theorem ItemsS.lst {n : Nat} (pm : ∀ {H H' v}, P H v → Same H H' → P H' v) (h : ItemsS C σ P t n) (z : n ≤ 1000) (H : Hp) (Q : VK) (hc : C H) (k : ∀ (H' : Hp) (p : Addr) (vs : List V), Same H H' → H p = none → H' p = some (.lst vs) → vs.length = n → (∀ v ∈ vs, P H' v) → Q (.ref p) H') : tLst t σ H Q :=
  h H _ hc fun H1 vs s1 hl q1 => ⟨by rw [hl, sizeLine_eq]; omega, fun p hp => k _ p vs (Same.upd' s1 hp) (s1.free hp) upd_same hl fun v m => pm (q1 v m) (Same.upd hp)⟩
/-- data with room -/
def I0 (B : Addr → Prop) (H : Hp) (v : V) : Prop := ∃ d, Dr B H v d ∧ Rm d
theorem I0.kb {H H' : Hp} {v : V} (h : I0 B H v) (s : KeepB B H H') : I0 B H' v := let ⟨d, q, r⟩ := h; ⟨d, q.go s, r⟩
theorem LitS.item (h : LitS B C σ te d) (r : Rm d) : ItemS C σ (I0 B) te := fun H Q hc k => h H Q hc fun H' v s q => k H' v s ⟨d, q, r⟩
theorem ItemS.imp {P' : Hp → V → Prop} (h : ItemS C σ P te) (k : ∀ {H v}, P H v → P' H v) : ItemS C σ P' te := fun H Q hc q => h H Q hc fun H' v s p => q H' v s (k p)
end
end Sps
set_option Elab.async false
set_option linter.all false
set_option maxRecDepth 100000
set_option maxHeartbeats 4000000
/-! What the law's defs keep: the pot, the keeper, the model, the tables. -/
namespace Sps
open PySem PySem.Spec PyProof.Rows L2
theorem SameX.ext {x : Addr} {H H1 : Hp} {o : HO} (n : ∀ ps, o ≠ .tbl ps) (e : LamX.ExtN H H1) (h : H x = some o) : H1 x = some o := e _ _ h n
/-! ### kept through a lambda's making -/
def KeepX (H H' : Hp) : Prop := ∀ b o, (∀ ps, o ≠ .tbl ps) → H b = some o → H' b = some o
theorem extX {H H' : Hp} (e : LamX.ExtN H H') : KeepX H H' := fun b o n h => e b o h n
theorem KeepX.kb {B : Addr → Prop} {H H' : Hp} (s : KeepX H H') : KeepB B H H' := fun b o _ n e => s b o n e
theorem IsO.ext {C : Addr} {H H' : Hp} {x : Addr} {l : List (Str × V)} (h : IsO C H x l) (s : KeepX H H') : IsO C H' x l := let ⟨dx, fs, e, k, q⟩ := h; ⟨dx, fs, s _ _ (fun _ z => by cases z) e, k, q⟩
theorem AskAt.ext {H H' : Hp} {d : Addr} {ns : List Int} (h : AskAt H d ns) (s : KeepX H H') : AskAt H' d ns := let ⟨kvs, e, q⟩ := h; ⟨kvs, s _ _ (fun _ z => by cases z) e, q⟩
theorem AboveAt.ext {H H' : Hp} {d : Addr} {rs : List Cp} (h : AboveAt H d rs) (s : KeepX H H') : AboveAt H' d rs := let ⟨us, h1, h2, h3⟩ := h; ⟨us, h1, s _ _ (fun _ z => by cases z) h2, paired_imp (fun _ _ e => s _ _ (fun _ z => by cases z) e) h3⟩
theorem RowsAt.ext {H H' : Hp} {a : Addr} {rs : List Cp} (h : RowsAt H a rs) (s : KeepX H H') : RowsAt H' a rs := let ⟨o, ts, h1, h2, h3⟩ := h; ⟨o, ts, s _ _ (fun _ z => by cases z) h1, h2, paired_imp (fun _ _ e => s _ _ (fun _ z => by cases z) e) h3⟩
theorem KSt.ext {CSt CSi : Addr} {H H' : Hp} {s : Addr} {z : StV} {rs : List Cp} {ns : List Int} (k : KSt CSt CSi H s z rs ns) (e : KeepX H H') : KSt CSt CSi H' s z rs ns :=
  ⟨k.st.ext e, let ⟨d, h1, h2⟩ := k.asks; ⟨d, h1, h2.ext e⟩, let ⟨d, h1, h2⟩ := k.told; ⟨d, h1, e _ _ (fun _ z => by cases z) h2⟩, let ⟨t, da, l, h1, h2, h3⟩ := k.site; ⟨t, da, l, h1, h2.ext e, h3.ext e⟩, k.asc, k.low, k.sml⟩
theorem KAt.ext {CK CSt CSi : Addr} {H H' : Hp} {k : Addr} {rs : List Cp} {a : Addr} {t u : Int} {ns : List Int} (h : KAt CK CSt CSi H k rs a t u ns) (e : KeepX H H') : KAt CK CSt CSi H' k rs a t u ns :=
  let ⟨dx, s, ta, tb, fs, z, h1, h2, h3, h4, h5, h6, h7, h8, h9⟩ := h.ex; ⟨dx, s, ta, tb, fs, z, e _ _ (fun _ z => by cases z) h1, h2, h3, h4.ext e, h5, h6, h7, e _ _ (fun _ z => by cases z) h8, e _ _ (fun _ z => by cases z) h9⟩
theorem same_X {H H' : Hp} (s : Same H H') : KeepX H H' := fun b o _ e => s b o e
theorem KAt.same {CK CSt CSi : Addr} {H H' : Hp} {k : Addr} {rs : List Cp} {a : Addr} {t u : Int} {ns : List Int} (h : KAt CK CSt CSi H k rs a t u ns) (e : Same H H') : KAt CK CSt CSi H' k rs a t u ns := h.ext (same_X e)
/-! ### kept while a list is written -/
/-- all but the list at l stays -/
def KeepL (l : Addr) (H H' : Hp) : Prop := (∃ xs, H l = some (.lst xs)) ∧ SameX l H H'
theorem KeepL.get {l b : Addr} {H H' : Hp} {o : HO} (k : KeepL l H H') (n : ∀ xs, o ≠ .lst xs) (e : H b = some o) : H' b = some o := by
  obtain ⟨⟨xs, hl⟩, s⟩ := k
  exact s _ _ (ne_of e hl (n xs)) e
theorem IsO.lw {l C : Addr} {H H' : Hp} {x : Addr} {ls : List (Str × V)} (h : IsO C H x ls) (s : KeepL l H H') : IsO C H' x ls := let ⟨dx, fs, e, k, q⟩ := h; ⟨dx, fs, s.get (fun _ z => by cases z) e, k, q⟩
theorem AskAt.lw {l : Addr} {H H' : Hp} {d : Addr} {ns : List Int} (h : AskAt H d ns) (s : KeepL l H H') : AskAt H' d ns := let ⟨kvs, e, q⟩ := h; ⟨kvs, s.get (fun _ z => by cases z) e, q⟩
theorem AboveAt.lw {l : Addr} {H H' : Hp} {d : Addr} {rs : List Cp} (h : AboveAt H d rs) (s : KeepL l H H') : AboveAt H' d rs := let ⟨us, h1, h2, h3⟩ := h; ⟨us, h1, s.get (fun _ z => by cases z) h2, paired_imp (fun _ _ e => s.get (fun _ z => by cases z) e) h3⟩
theorem RowsAt.lw {l : Addr} {H H' : Hp} {a : Addr} {rs : List Cp} (h : RowsAt H a rs) (s : KeepL l H H') : RowsAt H' a rs := let ⟨o, ts, h1, h2, h3⟩ := h; ⟨o, ts, s.get (fun _ z => by cases z) h1, h2, paired_imp (fun _ _ e => s.get (fun _ z => by cases z) e) h3⟩
theorem KSt.lw {l CSt CSi : Addr} {H H' : Hp} {s : Addr} {z : StV} {rs : List Cp} {ns : List Int} (k : KSt CSt CSi H s z rs ns) (e : KeepL l H H') : KSt CSt CSi H' s z rs ns :=
  ⟨k.st.lw e, let ⟨d, h1, h2⟩ := k.asks; ⟨d, h1, h2.lw e⟩, let ⟨d, h1, h2⟩ := k.told; ⟨d, h1, e.get (fun _ z => by cases z) h2⟩, let ⟨t, da, l, h1, h2, h3⟩ := k.site; ⟨t, da, l, h1, h2.lw e, h3.lw e⟩, k.asc, k.low, k.sml⟩
theorem KAt.lw {l CK CSt CSi : Addr} {H H' : Hp} {k : Addr} {rs : List Cp} {a : Addr} {t u : Int} {ns : List Int} (h : KAt CK CSt CSi H k rs a t u ns) (e : KeepL l H H') : KAt CK CSt CSi H' k rs a t u ns :=
  let ⟨dx, s, ta, tb, fs, z, h1, h2, h3, h4, h5, h6, h7, h8, h9⟩ := h.ex; ⟨dx, s, ta, tb, fs, z, e.get (fun _ z => by cases z) h1, h2, h3, h4.lw e, h5, h6, h7, e.get (fun _ z => by cases z) h8, e.get (fun _ z => by cases z) h9⟩
theorem tabs_lw {l : Addr} {T : List (Addr × Str)} {H H' : Hp} (t : LamX.Tabs T H) (e : KeepL l H H') : LamX.Tabs T H' := fun p hp => by
  obtain ⟨ps, h1, h2, h3⟩ := t p hp
  refine ⟨ps, e.get (fun _ z => by cases z) h1, h2, fun pos cv hc => ?_⟩
  obtain ⟨c, e1, e2⟩ := h3 pos cv hc
  exact ⟨c, e1, e.get (fun _ z => by unfold LamX.CodeO at z; cases z) e2⟩
theorem tabs_x {k C dk : Addr} {fk : List (Str × V)} {T : List (Addr × Str)} {H H' : Hp} (t : LamX.Tabs T H) (hk : H k = some (.ins C dk fk)) (s : SameX k H H') : LamX.Tabs T H' := fun p hp => by
  obtain ⟨ps, h1, h2, h3⟩ := t p hp
  refine ⟨ps, s _ _ (ne_of h1 hk (fun z => by cases z)) h1, h2, fun pos cv hc => ?_⟩
  obtain ⟨c, e1, e2⟩ := h3 pos cv hc
  exact ⟨c, e1, s _ _ (ne_of e2 hk (fun z => by unfold LamX.CodeO at z; cases z)) e2⟩
theorem tabs_same {T : List (Addr × Str)} {H H' : Hp} (t : LamX.Tabs T H) (s : Same H H') : LamX.Tabs T H' := t.ext s
/-- places that the law writes: the pot, the keeper, the model -/
def Bs (l k m : Addr) : Addr → Prop := fun b => b = l ∨ b = k ∨ b = m
structure Wd (CK CSt CSi : Addr) (T : List (Addr × Str)) (H : Hp) (l k m a : Addr) (rs : List Cp) (n t u : Int) (ns : List Int) : Prop where
  pot : PotOk n H l
  keep : KAt CK CSt CSi H k rs a t u ns
  rows : RowsAt H a rs
  r1 : 1 ≤ rs.length
  r6 : rs.length ≤ 6
  rok : ∀ r ∈ rs, okRow r
  mod : ∃ lm, H m = some (.lst [.int t, .int u, .ref lm]) ∧ H lm = some (.lst (ns.map V.int)) ∧ lm ≠ l ∧ lm ≠ m
  nlm : l ≠ m
  u0 : 0 ≤ u
  nsu : (ns.length : Int) ≤ u
  tabs : LamX.Tabs T H
section
variable {CK CSt CSi : Addr} {T : List (Addr × Str)} {H H' : Hp} {l k m a : Addr} {rs : List Cp} {n t u : Int} {ns : List Int}
theorem Wd.kl (w : Wd CK CSt CSi T H l k m a rs n t u ns) : ∃ xs, H l = some (.lst xs) := let ⟨a, b, c, e, _⟩ := w.pot; ⟨_, e⟩
theorem Wd.same (w : Wd CK CSt CSi T H l k m a rs n t u ns) (s : Same H H') : Wd CK CSt CSi T H' l k m a rs n t u ns :=
  ⟨w.pot.same s, w.keep.same s, w.rows.same s, w.r1, w.r6, w.rok, let ⟨lm, h1, h2, h3⟩ := w.mod; ⟨lm, s _ _ h1, s _ _ h2, h3⟩, w.nlm, w.u0, w.nsu, tabs_same w.tabs s⟩
/-- a draw -/
theorem Wd.draw {n' : Int} (w : Wd CK CSt CSi T H l k m a rs n t u ns) (s : SameX l H H') (p : PotOk n' H' l) : Wd CK CSt CSi T H' l k m a rs n' t u ns :=
  have kl : KeepL l H H' := ⟨w.kl, s⟩
  ⟨p, w.keep.lw kl, w.rows.lw kl, w.r1, w.r6, w.rok, let ⟨lm, h1, h2, h3, h4⟩ := w.mod; ⟨lm, s _ _ w.nlm.symm h1, s _ _ h3 h2, h3, h4⟩, w.nlm, w.u0, w.nsu, tabs_lw w.tabs kl⟩
theorem Wd.mono {n' : Int} (w : Wd CK CSt CSi T H l k m a rs n t u ns) (e : n ≤ n') : Wd CK CSt CSi T H l k m a rs n' t u ns :=
  ⟨w.pot.mono e, w.keep, w.rows, w.r1, w.r6, w.rok, w.mod, w.nlm, w.u0, w.nsu, w.tabs⟩
theorem Wd.ext (w : Wd CK CSt CSi T H l k m a rs n t u ns) (s : KeepX H H') (tb : LamX.Tabs T H') : Wd CK CSt CSi T H' l k m a rs n t u ns :=
  ⟨let ⟨a, b, c, e, r⟩ := w.pot; ⟨a, b, c, s _ _ (fun _ z => by cases z) e, r⟩, w.keep.ext s, w.rows.ext s, w.r1, w.r6, w.rok, let ⟨lm, h1, h2, h3⟩ := w.mod; ⟨lm, s _ _ (fun _ z => by cases z) h1, s _ _ (fun _ z => by cases z) h2, h3⟩, w.nlm, w.u0, w.nsu, tb⟩
theorem Wd.kins (w : Wd CK CSt CSi T H l k m a rs n t u ns) : ∃ dk fk, H k = some (.ins CK dk fk) := let ⟨dx, _, _, _, fs, _, h1, _⟩ := w.keep.ex; ⟨dx, fs, h1⟩
theorem Wd.out (w : Wd CK CSt CSi T H l k m a rs n t u ns) : ∀ b, Bs l k m b → H b ≠ none := fun b hb e => by
  rcases hb with z | z | z
  · obtain ⟨xs, q⟩ := w.kl
    rw [z, q] at e; cases e
  · obtain ⟨_, _, q⟩ := w.kins
    rw [z, q] at e; cases e
  · obtain ⟨_, q, _⟩ := w.mod
    rw [z, q] at e; cases e
/-- the lists of C := Same H -/
theorem Wd.cnd (w : Wd CK CSt CSi T H l k m a rs n t u ns) : Cnd (Bs l k m) (Same H) := ⟨fun a b => a.trans b, fun s b hb e => w.out b hb (s.free e)⟩
/-- the keeper has gone on by itself -/
theorem Wd.kept {n' t' u' : Int} {ns' : List Int} (w : Wd CK CSt CSi T H l k m a rs n t u ns) (s : SameX k H H') (kp : KAt CK CSt CSi H' k rs a t' u' ns') :
    PotOk n H' l ∧ RowsAt H' a rs ∧ (∃ lm, H' m = some (.lst [.int t, .int u, .ref lm]) ∧ H' lm = some (.lst (ns.map V.int)) ∧ lm ≠ l ∧ lm ≠ m) ∧ LamX.Tabs T H' := by
  obtain ⟨dk, fk, hk⟩ := w.kins
  obtain ⟨a1, b1, c1, e, r⟩ := w.pot
  obtain ⟨o, ts, h1, h2, h3⟩ := w.rows
  obtain ⟨lm, m1, m2, m3⟩ := w.mod
  exact ⟨⟨a1, b1, c1, s _ _ (ne_of e hk (fun z => by cases z)) e, r⟩, ⟨o, ts, s _ _ (ne_of h1 hk (fun z => by cases z)) h1, h2, paired_imp (fun _ _ e => s _ _ (ne_of e hk (fun z => by cases z)) e) h3⟩,
    ⟨lm, s _ _ (ne_of m1 hk (fun z => by cases z)) m1, s _ _ (ne_of m2 hk (fun z => by cases z)) m2, m3⟩, tabs_x w.tabs hk s⟩
end
end Sps
set_option Elab.async false
set_option linter.all false
set_option maxRecDepth 100000
set_option maxHeartbeats 4000000
/-! Defs that run where no repr is under way. -/
namespace Sps
open PySem PySem.Spec PyProof.Rows L2
structure FnG (P : Program) (w : World) (K : PySem.W.Frag) (mg : Str → Option Value) (base : Heap) (k : Nat) (f : Addr) (fd : FuncData) (ps : List Str) (sp : Sp) : Prop where
  len : ∀ vs H Q E, sp vs H Q E → vs.length = ps.length
  run : ∀ (A : Around) (outer : List Env) (s : Shared) (H : Hp) (args : Args) (us : List Value) (vs : List V) (Q : VK) (E : XK), Room k A → A.guards = some [] → Env0 P w K mg base A outer s H → BindsTo s fd args (ps.zip us) → Vals vs us → sp vs H Q E →
    codeAny (model P w) A (.call (.ref f) args) (CR CX0 outer P w H s Q E) s
theorem guards_deeper {A : Around} {env : Env} (h : A.guards = some []) : (A.deeper env).guards = some [] := h
theorem fnG_of {P : Program} {w : World} {K : PySem.W.Frag} {mg : Str → Option Value} {base : Heap} {k : Nat} {f : Addr} {x qual : Str} {st : Stmt} {fd : FuncData} {N ps : List Str} {sp : Sp} (F : Fun K x qual st f fd) (S : FnScope N ps (defScope st))
    (len : ∀ vs H Q E, sp vs H Q E → vs.length = ps.length)
    (hbody : ∀ (cdv : Value), fd.code = cdv → ∀ (A : Around) (outer : List Env) (s : Shared) (H : Hp) (vs : List V) (Q : VK) (E : XK), Room k (A.deeper (envOfC qual (defScope st) s.heap.objs.size f cdv)) → (A.deeper (envOfC qual (defScope st) s.heap.objs.size f cdv)).guards = some [] → sp vs H Q E →
      ∃ t, PSs (cxOf CX0 P w K mg base N qual (defScope st) f cdv A outer s H E) (defBody st) t ∧ t { nx := fun _ H' => Q .non H', rt := Q } (start N vs) H) :
    FnG P w K mg base (k + 1) f fd ps sp := by
  obtain ⟨oc, od, kV, doc, pm, an, cdv, ct, osl, rfl, lk, hcd⟩ := F.ex
  refine ⟨len, fun A outer s H args us vs Q E hr hg e0 hb r hsp => ?_⟩
  have hl := len _ _ _ _ hsp
  have KX : K.In s.heap := e0.mod.kin.keeps fun b o e => (e0.bs b o e).1
  have lim : s.heap.NoLimit := e0.mod.nolimit.keeps fun b o e => (e0.bs b o e).1
  have hkind : ∀ y ∈ ps.zip us, (defScope st).names.lookup y.1 = some .local ∨ ((defScope st).names.lookup y.1 = some .cell ∧ ((cellsFrom (s.heap.objs.size + 1) (defScope st).names []).lookup y.1).isSome = true) := fun ⟨n, v⟩ hy => by
    rcases S.par n (List.of_mem_zip hy).1 with q | q
    · exact .inl q
    · exact .inr ⟨q, PySem.W.cellsFrom_some _ _ _ (.inl q)⟩
  refine codeAny_call_function hr.depth (KX _ _ lk) rfl S.co S.gen rfl (PySem.W.codeRec_of KX hcd) (hb _ _ _ _ ?_)
  refine wpAny_newFunctionEnv_cells S.kind hkind fun env he s1 x => ?_
  subst he
  refine ⟨lim.keeps x.toInCall.keep, codeAny_func ?_⟩
  obtain ⟨t, ht, hq⟩ := hbody cdv rfl A outer s H vs Q E (hr.deeper _) (guards_deeper hg) hsp
  have I : Inv (cxOf CX0 P w K mg base N qual (defScope st) f cdv A outer s H E) [] (start N vs) H s1 := inv_start S hr.hd e0 hl r x
  refine wpAny_mono (ht.run [] s1 (start N vs) H _ I hq) (fun fl s' hs => ?_) fun e s' hs => hs
  have fin : ∀ {σ' : L2.St} {H' : Hp} {v : V} {u : Value}, Inv (cxOf CX0 P w K mg base N qual (defScope st) f cdv A outer s H E) [] σ' H' s' → RelV v u → Q v H' → CE outer P w H s Q u s' :=
    fun {σ' H' v u} J rv q => ⟨v, H', J.os, J.bare, J.base, J.hok, rv, q⟩
  cases fl with
  | ret u =>
    obtain ⟨v, σ', H', J, rv, q⟩ := hs
    exact fin J rv q
  | next =>
    obtain ⟨σ', H', J, q⟩ := hs
    exact fin (v := V.non) (u := Value.none) J rfl q
  | brk =>
    obtain ⟨_, _, _, q⟩ := hs
    exact False.elim q
  | cont =>
    obtain ⟨_, _, _, q⟩ := hs
    exact False.elim q
section
variable {X : Cx} {k : Nat} {f : Addr} {fd : FuncData} {ps : List Str} {sp : Sp} {x : Str} {p pos : Pos} {e : Expr} {es : List Expr} {t : TA}
theorem pe_callG (F : FnG X.prog X.w X.K X.mg X.base k f fd ps sp) (hr : Room k X.A) (hgd : X.A.guards = some []) (hg : Gl X x) (hm : X.mg x = some (.ref f)) (hk : PySem.W.keepIn X.K (.ref f) = true) (hb : Binds X.K fd ps [])
    (ha : PA X (e :: es) t) (hdb : (x == ("__debug__" : Str)) = false := by decide) (he : starEach (e :: es) X.env = (false, eval e X.env) :: starEach es X.env := by rfl) (hpl : (backTo pos (starEach es X.env)).any (·.1) = false := by rfl) :
    PE X (.Call (.Name x p) (e :: es) [] pos) (tCall sp [] E0 t) := by
  refine ⟨fun pins s σ H Q I h => ?_⟩
  refine wpAny_Call_Name_kw (ld_glob I hg hm ?_ hdb)
  refine PySem.W.callWith_K (h₀ := X.base) I.ok.mod.kin hk (thn (ha.run pos pins s σ H _ I h) fun us s1 ⟨vs, H1, I1, r, q⟩ => ⟨I1.kIn, ?_⟩) he hpl
  have q2 : sp vs H1 Q E0 := by
    have q3 : sp (vs ++ []) H1 Q E0 := q
    rw [List.append_nil] at q3
    exact q3
  have hl : us.length = ps.length := by rw [← r.length]; exact F.len _ _ _ _ q2
  have b := hb s1 us I1.kIn (by rw [List.append_nil]; exact hl)
  rw [List.append_nil] at b
  refine wpAny_call (codeAny_mono (F.run X.A X.stack s1 H1 ⟨us, []⟩ us vs Q E0 hr hgd I1.env0 b r q2) fun r s' hq => ?_)
  cases r with
  | error e => exact False.elim hq
  | ok fl =>
    cases fl with
    | ret u => exact I1.after hq
    | next => exact False.elim hq
    | brk => exact False.elim hq
    | cont => exact False.elim hq
end

theorem inV_str : ∀ {z : Str} {ws : List Str}, inV (.str z) (ws.map V.str) = decide (z ∈ ws)
  | z, [] => rfl
  | z, w :: ws => by
    have ih := inV_str (z := z) (ws := ws)
    unfold inV at ih ⊢
    rw [List.map_cons, List.any_cons, ih]
    have e1 : eqV (V.str w) (V.str z) = decide (w = z) := by
      show (w == z) = decide (w = z)
      rw [Bool.eq_iff_iff]
      simp
    rw [e1]
    by_cases e : w = z
    · subst e; simp
    · simp [e, Ne.symm e]
theorem seq_join {t v : TS} {D : Ends} {σ : L2.St} {H : Hp} (W : L2.St → Hp → Prop) (h1 : ∀ σ2 H2, W σ2 H2 → v D σ2 H2) (h2 : (∀ σ2 H2, W σ2 H2 → v D σ2 H2) → t { D with nx := v D } σ H) : tSeq t v D σ H := h2 h1
end Sps
set_option Elab.async false
set_option linter.all false
set_option maxRecDepth 100000
set_option maxHeartbeats 4000000
/-! _law_asked_right. -/
namespace Sps
open PySem PySem.Spec PyProof.Rows L2
/-- what the law's defs use of the program -/
structure LDefs (P : Program) (w : World) (K : PySem.W.Frag) (mg : Str → Option Value) (base : Heap) (CK CSt CSi CS BC BS BW BA BN CE : Addr) where
  T : Names mg
  clK : Cls K CK
  noK : ∀ x ∈ fKe, NoAttr K CK x
  -- drawing
  aD : Addr
  dD : FuncData
  gD : FnOk P w K mg base CX0 2 aD dD ["_law_pot_here", "_law_many"] spDraw
  mD : mg "_law_draw" = some (.ref aD)
  kD : PySem.W.keepIn K (.ref aD) = true
  bD : Binds K dD ["_law_pot_here", "_law_many"] []
  aA : Addr
  dA : FuncData
  gA : FnOk P w K mg base CX0 3 aA dA ["_law_pot_here", "_law_items"] spAny
  mA : mg "_law_any" = some (.ref aA)
  kA : PySem.W.keepIn K (.ref aA) = true
  bA : Binds K dA ["_law_pot_here", "_law_items"] []
  -- tests
  aW : Addr
  dW : FuncData
  gW : FnOk P w K mg base CX0 1 aW dW ["_law_thing"] (spWord K)
  mW : mg "_law_is_word" = some (.ref aW)
  kW : PySem.W.keepIn K (.ref aW) = true
  bW : Binds K dW ["_law_thing"] []
  aN : Addr
  dN : FuncData
  gN : FnOk P w K mg base CX0 1 aN dN pLN (spNum K)
  mN : mg "_law_is_number" = some (.ref aN)
  kN : PySem.W.keepIn K (.ref aN) = true
  bN : Binds K dN pLN []
  -- spans
  fS : Addr
  mkS : Mk K CS fS
  gS : FnR P w K mg base CX0 4 fS (spNew CS)
  mS : mg "Spans" = some (.ref CS)
  noS : NoSp K CS
  isS : PySem.W.kitOne K (.ref CS) (.ref CS) = some true
  spC : SpCls K mg CS
  -- the caught calls
  aC : Addr
  dC : FuncData
  fC : Fun K "_law_caught" "_law_caught" s__law_caught aC dC
  mC : mg "_law_caught" = some (.ref aC)
  kC : PySem.W.keepIn K (.ref aC) = true
  bC : Binds K dC ["_law_call"] []
  h1 : CaC K mg "NoCopy" BC
  h2 : CaC K mg "BadSpans" BS
  h3 : CaC K mg "BadWord" BW
  h4 : CaC K mg "NoAsk" BA
  h5 : CaC K mg "BadCount" BN
  h6 : mg "KeeperError" = some (.ref CE)
  exm : ∀ i j : Nat, ∀ C D : Addr, [BC, BS, BW, BA, BN][i]? = some C → [BC, BS, BW, BA, BN][j]? = some D → PySem.W.exmOne K (.ref C) (.ref D) = some (decide (i = j))
  -- the keeper's methods
  aAsk : Addr
  dAsk : FuncData
  gAsk : FnOk P w K mg base (L2.CX P w) 5 aAsk dAsk ["self", "copy", "spans", "only"] (spAsk (K := K) CK CSt CSi CS BC BS BW)
  oAsk : Meth K CK "ask" aAsk
  kbAsk : ∃ g, KBn K dAsk ["self", "copy", "spans", "only"] 3 ["only"] g (fun vs zs => vs ++ zs)
  aLo : Addr
  dLo : FuncData
  gLo : FnOk P w K mg base (L2.CX P w) 6 aLo dLo ["self", "number"] (spLost (K := K) CK CSt CSi BA)
  oLo : Meth K CK "lost" aLo
  bLo : Binds K dLo ["self", "number"] []
  aWt : Addr
  dWt : FuncData
  gWt : FnOk P w K mg base (L2.CX P w) 4 aWt dWt ["self", "many"] (spWait (K := K) CK CSt CSi BN)
  oWt : Meth K CK "wait" aWt
  bWt : Binds K dWt ["self", "many"] []
  noM : ∀ fs : List (Str × V), NoM fs → ∀ x ∈ mKe, fs.lookup x = none
theorem range_nm (rs : List Cp) : ((List.range rs.length).map fun i => V.str (nm rs i)) = (rs.map (·.1)).map V.str := by
  apply List.ext_getElem
  · simp
  · intro i h1 h2
    have hl : i < rs.length := by simpa using h1
    simp [nm_at (List.getElem?_eq_getElem hl)]
theorem low_cps {L z : Str} (hL : ∀ c ∈ L.cps.toList, c < 16 ^ 8) (h : lettersOk L z = true) : z.length ≤ 8 ∧ ∀ c ∈ z.cps.toList, c < 16 ^ 8 := by
  unfold lettersOk at h
  obtain ⟨h1, h2⟩ := Bool.and_eq_true_iff.mp h
  refine ⟨of_decide_eq_true (Bool.and_eq_true_iff.mp h1).2, fun c m => hL c (of_decide_eq_true (List.all_eq_true.mp h2 c m))⟩
theorem alpha_low : ∀ c ∈ alphaL.cps.toList, c < 16 ^ 8 := by decide +kernel
/-- data, or an instance of the class at CS -/
def I1 (B : Addr → Prop) (CS : Addr) (H : Hp) (v : V) : Prop := I0 B H v ∨ ∃ (x dx : Addr) (fs : List (Str × V)), v = .ref x ∧ H x = some (.ins CS dx fs) ∧ ¬ B x
theorem I1.kb {B : Addr → Prop} {CS : Addr} {H H' : Hp} {v : V} (h : I1 B CS H v) (s : KeepB B H H') : I1 B CS H' v := by
  rcases h with h | ⟨x, dx, fs, e, h, n⟩
  · exact .inl (h.kb s)
  · exact .inr ⟨x, dx, fs, e, s _ _ n (fun _ z => by cases z) h, n⟩
section
variable {P : Program} {w : World} {K : PySem.W.Frag} {mg : Str → Option Value} {base : Heap} {CK CSt CSi CS BC BS BW BA BN CE : Addr}
abbrev nAs : List Str := ["_law_pot_here", "_law_keeper", "_law_model", "_law_words_here", "_law_pair", "_law_copy", "_law_some", "_law_words_there", "_law_wish", "_law_spans", "_law_due", "_law_told"]
abbrev pAs : List Str := ["_law_pot_here", "_law_keeper", "_law_model"]
def spAsked (K : PySem.W.Frag) (CK CSt CSi : Addr) (T : List (Addr × Str)) : Sp := fun vs H Q _ => ∃ (l k m a : Addr) (rs : List Cp) (n t u : Int) (ns : List Int), vs = [.ref l, .ref k, .ref m] ∧ Wd CK CSt CSi T H l k m a rs n t u ns ∧ n ≤ 70000 ∧ u ≤ 60 ∧
  ∀ H' t' u' ns', KeepB (Bs l k m) H H' → u' ≤ u + 1 → Wd CK CSt CSi T H' l k m a rs (n + 10) t' u' ns' → Q (.bl true) H'
/-- a name is given a list -/
theorem seq_lst {t : TA} {g : TG} {rest : TS} {D : Ends} {σ : L2.St} {H : Hp} {n : Nat} {P : Hp → V → Prop} {C : Hp → Prop} (pm : ∀ {H H' v}, P H v → Same H H' → P H' v) (h : ItemsS C σ P t n) (z : n ≤ 1000) (hc : C H)
    (k : ∀ (H' : Hp) (p : Addr) (vs : List V), Same H H' → H p = none → H' p = some (.lst vs) → vs.length = n → (∀ v ∈ vs, P H' v) → g (.ref p) σ H' (rest D)) : tSeq (tAsg (tLst t) g) rest D σ H := by
  show tLst t σ H fun x H1 => g x σ H1 (rest D)
  exact ItemsS.lst (P := P) (fun a b => pm a b) h z H _ hc k
theorem spans_read {B : Addr → Prop} {C : Hp → Prop} {σ : L2.St} (c : Cnd B C) : ItemsS C σ (I1 B CS) (tCons (tC .non) (tCons (tC .non) (tCons (StX.tMakeR CS (spNew CS) E0 tNil) (tCons (StX.tMakeR CS (spNew CS) E0 (tCons (tTup (tCons (tC (.int 0)) (tCons (tC (.int 4)) tNil))) (tCons (tTup (tCons (tC (.int 7)) (tCons (tC (.int 9)) tNil))) tNil)))
    (tCons (tTup (tCons (tTup (tCons (tC (.int 0)) (tCons (tC (.int 4)) tNil))) tNil)) (tCons (tTup (tCons (tC (.int 0)) (tCons (tC (.int 4)) tNil))) (tCons (tC (.str "")) (tCons (tC (.int 0)) (tCons (tLst tNil) (tCons (tC (.bl true)) (tCons tDNewK tNil))))))))))) 11 := by
  have pm1 : ∀ {H H' : Hp} {v : V}, I1 B CS H v → Same H H' → I1 B CS H' v := fun h s => h.kb (Same.kb s)
  have d0 : ∀ {te : TE} {d : PyData}, LitS B C σ te d → Rm d → ItemS C σ (I1 B CS) te := fun a b => (LitS.item a b).imp fun q => .inl q
  have pr : ∀ {i j : Int}, LitS B C σ (tTup (tCons (tC (.int i)) (tCons (tC (.int j)) tNil))) (.tuple [.int i, .int j]) := fun {i j} => LitS.tup c (LitSA.cons c LitS.int (LitSA.cons c LitS.int LitSA.nil)) (by show 2 ≤ 1000; decide)
  refine ItemsS.cons c pm1 ?_ (ItemsS.cons c pm1 ?_ (ItemsS.cons c pm1 ?_ (ItemsS.cons c pm1 ?_ (ItemsS.cons c pm1 ?_ (ItemsS.cons c pm1 ?_ (ItemsS.cons c pm1 ?_ (ItemsS.cons c pm1 ?_ (ItemsS.cons c pm1 ?_ (ItemsS.cons c pm1 ?_ (ItemsS.cons c pm1 ?_ ItemsS.nil))))))))))
  · exact d0 LitS.non (Rm.of (by decide +kernel))
  · exact d0 LitS.non (Rm.of (by decide +kernel))
  · intro Ha Q hc kk x dxx hx hdx nxd
    refine ⟨x, dxx, [], rfl, upd_same, TPs.nil, (by show 0 ≤ 4000000; decide), (fun _ m => (List.not_mem_nil m).elim), fun Hb ms sx hs _ _ => ⟨rfl, ?_⟩⟩
    obtain ⟨dx2, t2, e2, _⟩ := hs
    exact kk Hb _ (madeSame hx hdx sx) (.inr ⟨x, dx2, _, rfl, e2, c.fresh hc hx⟩)
  · intro Ha Q hc kk
    refine ⟨(by show 2 ≤ sizeLine; decide), fun p hp => ⟨(by show 2 ≤ sizeLine; decide), fun q hq => ?_⟩⟩
    have sp : Same Ha (L2.upd (L2.upd Ha p (.tup [.int 0, .int 4])) q (.tup [.int 7, .int 9])) := (Same.upd hp).trans (Same.upd hq)
    intro x dxx hx hdx nxd
    have npq : p ≠ q := ne_of_none (show (L2.upd Ha p (.tup [.int 0, .int 4])) p = _ from upd_same) hq
    have ep : (L2.upd (L2.upd Ha p (.tup [.int 0, .int 4])) q (.tup [.int 7, .int 9])) p = some (.tup [.int 0, .int 4]) := by rw [upd_ne npq]; exact upd_same
    have eq : (L2.upd (L2.upd Ha p (.tup [.int 0, .int 4])) q (.tup [.int 7, .int 9])) q = some (.tup [.int 7, .int 9]) := upd_same
    have ok1 : okP ((0, 4) : Pr) := ⟨by decide, by decide, by decide⟩
    have ok2 : okP ((7, 9) : Pr) := ⟨by decide, by decide, by decide⟩
    refine ⟨x, dxx, [(p, 0, 4), (q, 7, 9)], rfl, upd_same, fun t mt => ?_, (by show 2 ≤ 4000000; decide), fun u mu => ?_, fun Hb ms sx hs _ _ => ⟨rfl, ?_⟩⟩
    · rcases List.mem_cons.mp mt with e | mt
      · subst e
        rw [upd_ne (ne_of_none ep hx), upd_ne (ne_of_none ep hdx)]
        exact ep
      · have e := List.mem_singleton.mp mt
        subst e
        rw [upd_ne (ne_of_none eq hx), upd_ne (ne_of_none eq hdx)]
        exact eq
    · rcases List.mem_cons.mp mu with e | mu
      · rw [e]
        exact ok1
      · rw [List.mem_singleton.mp mu]
        exact ok2
    · obtain ⟨dx2, t2, e2, _⟩ := hs
      exact kk Hb _ (sp.trans (madeSame hx hdx sx)) (.inr ⟨x, dx2, _, rfl, e2, c.fresh (c.mono hc sp) hx⟩)
  · exact d0 (LitS.tup c (LitSA.cons c pr LitSA.nil) (by show 1 ≤ 1000; decide)) (Rm.of (by decide +kernel))
  · exact d0 pr (Rm.of (by decide +kernel))
  · exact d0 LitS.str (Rm.of (by decide +kernel))
  · exact d0 LitS.int (Rm.of (by decide +kernel))
  · exact d0 (LitS.lst c LitSA.nil (by show 0 ≤ 1000; decide)) (Rm.of (by decide +kernel))
  · exact d0 LitS.bl (Rm.of (by decide +kernel))
  · exact d0 (LitS.emp c) (Rm.of (by decide +kernel))
theorem words_read {B : Addr → Prop} {C : Hp → Prop} {σ : L2.St} (c : Cnd B C) : ItemsS C σ (I0 B) (tCons (tC .non) (tCons (tC .non) (tCons (tC (.str "m1")) (tCons (tC (.str "0")) (tCons (tC (.str "abcdefgh")) (tCons (tC (.str "")) (tCons (tC (.str "abcdefghi")) (tCons (tC (.str "M")) (tCons (tC (.str "a b"))
    (tCons (tC (.int 7)) (tCons (tTup (tCons (tC (.str "m1")) tNil)) (tCons (tC (.bl true)) tNil)))))))))))) 12 := by
  have pm : ∀ {H H' : Hp} {v : V}, I0 B H v → Same H H' → I0 B H' v := fun h s => h.kb (Same.kb s)
  refine ItemsS.cons c pm ?_ (ItemsS.cons c pm ?_ (ItemsS.cons c pm ?_ (ItemsS.cons c pm ?_ (ItemsS.cons c pm ?_ (ItemsS.cons c pm ?_ (ItemsS.cons c pm ?_ (ItemsS.cons c pm ?_ (ItemsS.cons c pm ?_ (ItemsS.cons c pm ?_ (ItemsS.cons c pm ?_ (ItemsS.cons c pm ?_ ItemsS.nil)))))))))))
  · exact LitS.item LitS.non (Rm.of (by decide +kernel))
  · exact LitS.item LitS.non (Rm.of (by decide +kernel))
  · exact LitS.item LitS.str (Rm.of (by decide +kernel))
  · exact LitS.item LitS.str (Rm.of (by decide +kernel))
  · exact LitS.item LitS.str (Rm.of (by decide +kernel))
  · exact LitS.item LitS.str (Rm.of (by decide +kernel))
  · exact LitS.item LitS.str (Rm.of (by decide +kernel))
  · exact LitS.item LitS.str (Rm.of (by decide +kernel))
  · exact LitS.item LitS.str (Rm.of (by decide +kernel))
  · exact LitS.item LitS.int (Rm.of (by decide +kernel))
  · exact LitS.item (LitS.tup c (LitSA.cons c LitS.str LitSA.nil) (by show 1 ≤ 1000; decide)) (Rm.of (by decide +kernel))
  · exact LitS.item LitS.bl (Rm.of (by decide +kernel))
end
end Sps
set_option Elab.async false
set_option linter.all false
set_option maxRecDepth 100000
set_option maxHeartbeats 4000000
/-! _law_asked_right. -/
namespace Sps
open PySem PySem.Spec PyProof.Rows L2
section
variable {P : Program} {w : World} {K : PySem.W.Frag} {mg : Str → Option Value} {base : Heap} {CK CSt CSi CS BC BS BW BA BN CE : Addr}
def AskW (CK CSt CSi : Addr) (T : List (Addr × Str)) (l k m a : Addr) (rs : List Cp) (n t u : Int) (ns : List Int) (D1 q6 q7 p3' : Addr) (vc vo vsp : V) (H9 : Hp) : L2.St → Hp → Prop := fun σ' H' => ∃ (p2 : Addr) (tag : Str) (v : V), σ' = [some (.ref l), some (.ref k), some (.ref m), some (.ref D1), none, some vc, some (.ref q6), some (.ref q7), some vo, some vsp, some (.ref p3'), some (.ref p2)] ∧ H' p2 = some (.tup [.str tag, v]) ∧ ¬ Bs l k m p2 ∧ KeepB (Bs l k m) H9 H' ∧ H' p3' = some (.tup [.str tag, v]) ∧
      ((tag ≠ "told" ∧ tag.length ≤ 20 ∧ (∀ c ∈ tag.cps.toList, c < 16 ^ 8) ∧ (∃ d, Dr (Bs l k m) H' v d ∧ Rm d) ∧ Wd CK CSt CSi T H' l k m a rs (n + 3) t u ns) ∨
        (tag = "told" ∧ v = .int u ∧ PotOk (n + 3) H' l ∧ KAt CK CSt CSi H' k rs a (t + 1) (u + 1) (ns ++ [u]) ∧ RowsAt H' a rs ∧ (∃ lm, H' m = some (.lst [.int t, .int u, .ref lm]) ∧ H' lm = some (.lst (ns.map V.int)) ∧ lm ≠ l ∧ lm ≠ m) ∧ LamX.Tabs T H'))
theorem look_iff {rs : List Cp} {z : Str} : (look rs z).isSome = decide (z ∈ rs.map (·.1)) := by
  induction rs with
  | nil => rfl
  | cons r rs ih =>
    rw [look_cons, List.map_cons]
    by_cases e : r.1 = z
    · rw [if_pos e, decide_eq_true (by rw [e]; exact List.mem_cons_self)]
      rfl
    · rw [if_neg e, ih]
      exact decide_eq_decide.mpr ⟨fun m => List.mem_cons_of_mem _ m, fun m => (List.mem_cons.mp m).elim (fun q => absurd q.symm e) id⟩
theorem nx_of {i : Nat} {v : V} {σ : L2.St} {H : Hp} {Q : L2.St → Hp → Prop} (h : Q (σ.set i (some v)) H) : gName i v σ H Q := h
theorem flat_str (ws : List Str) : (ws.map V.str).all flatV = true := by
  induction ws with
  | nil => rfl
  | cons w ws ih => rw [List.map_cons, List.all_cons, ih]; rfl
theorem scAsk : FnScope nAs pAs (defScope s__law_asked_right) := ⟨rfl, rfl, rfl, by decide +kernel, rfl, by decide +kernel, by decide +kernel⟩
theorem ok_asked {f : Addr} {fd : FuncData} {cA PA : Addr} {T : List (Addr × Str)} (F : Fun K "_law_asked_right" "_law_asked_right" s__law_asked_right f fd) (D : LDefs P w K mg base CK CSt CSi CS BC BS BW BA BN CE) (hcode : fd.code = .ref cA) (TB : LamX.TabB base mg cA PA)
    (hmT : (PA, ("_law_asked_right.<locals>.<lambda>" : Str)) ∈ T) (hu : ∀ p ∈ T, p.1 = PA → p.2 = ("_law_asked_right.<locals>.<lambda>" : Str)) (hbs : ∃ o, base.get? sysModules = some o) :
    FnG P w K mg base 8 f fd pAs (spAsked K CK CSt CSi T) := by
  refine fnG_of F scAsk (fun vs H Q E h => ?_) (fun cdv ec A outer s H vs Q E hr hgd h => ?_)
  · obtain ⟨_, _, _, _, _, _, _, _, _, rfl, _⟩ := h
    rfl
  · obtain ⟨l, k, m, a, rs, n, t, u, ns, rfl, W, hn, hu60, h⟩ := h
    have hr1 : Room 1 _ := hr.mono (by decide)
    have hr2 : Room 2 _ := hr.mono (by decide)
    have hr3 : Room 3 _ := hr.mono (by decide)
    have hr5 : Room 5 _ := hr.mono (by decide)
    have huD := hu_of hr
    have T0 := D.T
    obtain ⟨gq, kb⟩ := D.kbAsk
    obtain ⟨oc, od, kV, doc, pm, an, cdC, ct, osl, efd, lkC, hcdC⟩ := D.fC.ex
    have eC : fd.code = cdv := ec
    refine ⟨_, pss_cons (ps_setLc (i := 3) (own := [("_law_pair", 4)]) (g := gName 4) (tt := tYes) (te := tOp (rIxT K) (tVar 4) (tC (.int 0))) rfl scAsk.nd rfl rfl (sw_true rfl rfl rfl (by decide +kernel)) (pi_tup (pe_fld (pv 1) rfl)) (blkOk_by (own := [("_law_pair", 4)]) (N := nAs) (sc := defScope s__law_asked_right) (by decide +kernel))
          (fun _ _ _ _ _ => pg_name (i := 4) scAsk.nd rfl (Or.inl rfl)) (fun _ _ _ _ _ => pts_nil) (fun _ _ _ _ _ => pe_ix (r := rIxT K) ix_tup (pv 4) pe_int (fun _ _ => rfl)))
      (pss_cons (ps_set (i := 5) scAsk.nd rfl (Or.inr rfl) (pe_call D.gA hr3 rfl D.mA D.kA D.bA .nil pass0 (pa_cons (pv 0) (pa_cons (pe_op op_cat (pe_op op_rep (pv 3) pe_int)
          (pe_lst (pa_cons pe_str (pa_cons pe_str (pa_cons pe_non (pa_cons pe_int (pa_cons pe_bl (pa_cons (pe_tup (pa_cons (pe_ix ix_list (pv 3) pe_int (fun _ _ => rfl)) pa_nil)) (pa_cons (pe_lst (pa_cons (pe_ix ix_list (pv 3) pe_int (fun _ _ => rfl)) pa_nil)) (pa_cons pe_dnewK (pa_cons (pe_op op_add_str (pe_ix ix_list (pv 3) pe_int (fun _ _ => rfl)) pe_str) pa_nil))))))))))) pa_nil))))
      (pss_cons (ps_set (i := 6) scAsk.nd rfl (Or.inl rfl) (pe_lst (pa_cons pe_non (pa_cons pe_non (pa_cons (pe_makeR0 D.mkS D.gS hr5 rfl D.mS pass0) (pa_cons (StX.pe_makeR D.mkS D.gS hr5 rfl D.mS pass0 (pa_cons (pe_tup (pa_cons pe_int (pa_cons pe_int pa_nil))) (pa_cons (pe_tup (pa_cons pe_int (pa_cons pe_int pa_nil))) pa_nil)))
          (pa_cons (pe_tup (pa_cons (pe_tup (pa_cons pe_int (pa_cons pe_int pa_nil))) pa_nil)) (pa_cons (pe_tup (pa_cons pe_int (pa_cons pe_int pa_nil))) (pa_cons pe_str (pa_cons pe_int (pa_cons (pe_lst pa_nil) (pa_cons pe_bl (pa_cons pe_dnewK pa_nil)))))))))))))
      (pss_cons (ps_set (i := 7) scAsk.nd rfl (Or.inl rfl) (pe_lst (pa_cons pe_non (pa_cons pe_non (pa_cons pe_str (pa_cons pe_str (pa_cons pe_str (pa_cons pe_str (pa_cons pe_str (pa_cons pe_str (pa_cons pe_str (pa_cons pe_int (pa_cons (pe_tup (pa_cons pe_str pa_nil)) (pa_cons pe_bl pa_nil))))))))))))))
      (pss_cons (ps_set (i := 8) scAsk.nd rfl (Or.inr rfl) (pe_call D.gA hr3 rfl D.mA D.kA D.bA .nil pass0 (pa_cons (pv 0) (pa_cons (pv 7) pa_nil))))
      (pss_cons (ps_set (i := 9) scAsk.nd rfl (Or.inr rfl) (pe_call D.gA hr3 rfl D.mA D.kA D.bA .nil pass0 (pa_cons (pv 0) (pa_cons (pv 6) pa_nil))))
      (pss_cons (ps_set (i := 10) scAsk.nd rfl (Or.inl rfl) (pe_tup (pa_cons pe_str (pa_cons (pe_ix ix_list (pv 2) pe_int (fun _ _ => rfl)) pa_nil))))
      (pss_cons (ps_if (PW.pt (pw_and (pt_cmpR op_notN (pv 8) pe_non (nomark _)) (pw_and1 (pt_not (pt_val (pe_call D.gW hr1 rfl D.mW D.kW D.bW .nil pass0 (pa_cons (pv 8) pa_nil))))))) (pss_one (ps_set (i := 10) scAsk.nd rfl (Or.inl rfl) (pe_tup (pa_cons pe_str (pa_cons (pv 8) pa_nil))))) pss_nil)
      (pss_cons (ps_if (PW.pt (pw_and (pt_cmpR op_notN (pv 9) pe_non (nomark _)) (pw_and1 (pt_not (pt_val (pe_callB call_isi (by rfl) T0.isinstance (by decide +kernel) (pa_cons (pv 9) (pa_cons (pe_glob (v := .ref CS) rfl D.mS rfl) pa_nil)))))))) (pss_one (ps_set (i := 10) scAsk.nd rfl (Or.inl rfl) (pe_tup (pa_cons pe_str (pa_cons (pv 9) pa_nil))))) pss_nil)
      (pss_cons (ps_if (PW.pt (pw_or (pt_not (pt_val (pe_callB call_isi (by rfl) T0.isinstance (by decide +kernel) (pa_cons (pv 5) (pa_cons (pe_bltn (v := .ty "str") (by rfl) T0.str (by decide +kernel) rfl) pa_nil))))) (pw_or1 (pt_cmpR op_notIn_seq (pv 5) (pv 3) (by with_unfolding_all rfl))))) (pss_one (ps_set (i := 10) scAsk.nd rfl (Or.inl rfl) (pe_tup (pa_cons pe_str (pa_cons (pv 5) pa_nil))))) pss_nil)
      (pss_cons (ps_set (i := 11) scAsk.nd rfl (Or.inl rfl) (LamX.pe_lamcall (k := 5) (T := T) (t := fun E => tMethN CK "ask" 2 1 (spAsk (K := K) CK CSt CSi CS BC BS BW) (fun vs zs => vs ++ zs) E (tVar 1) (tCons (tVar 5) (tCons (tVar 9) tNil)) (tCons (tVar 8) tNil)) rfl D.mC D.kC (by rw [← efd]; exact lkC) hcdC (by rw [← efd]; exact D.bC) scCaught rfl (.inl rfl)
            (caught_gives D.h1 D.h2 D.h3 D.h4 D.h5 D.h6) TB (by show cdv = _; rw [← ec]; exact hcode) hmT hu hr (LamX.lamS_by (sc := defScope s__law_asked_right) (by decide +kernel)) rfl (fun _ _ _ _ _ => rfl)
            (fun A outer s H E f c' hrr => pe_methN (n := 2) (ks := ["only"]) (pv 1) D.clK D.oAsk D.gAsk (hrr.mono (by decide)) kb (passes_call (takes_of rfl rfl rfl rfl) fun _ _ _ _ h => h) (pa_cons (pv 5) (pa_cons (pv 9) pa_nil)) (pk_cons (pv 8) pk_nil))))
      (pss_cons (ps_if (pt_cmpR op_eq (pe_ix ix_tup (pv 10) pe_int (fun _ _ => rfl)) pe_str (nomark _))
          (pss_cons (ps_asg (pe_op op_cat (pe_ix ix_list (pv 2) pe_int (fun _ _ => rfl)) (pe_lst (pa_cons (pe_ix ix_list (pv 2) pe_int (fun _ _ => rfl)) pa_nil))) (pg_sub (pv 2) pe_int set_list))
          (pss_one (ps_asg (pe_tup (pa_cons (pe_op op_add (pe_ix ix_list (pv 2) pe_int (fun _ _ => rfl)) pe_int) (pa_cons (pe_op op_add (pe_ix ix_list (pv 2) pe_int (fun _ _ => rfl)) pe_int) pa_nil))) (pg_tup rfl (pgs_cons (pg_sub (pv 2) pe_int set_list) (pgs_cons (pg_sub (pv 2) pe_int set_list) pgs_nil)))))) pss_nil)
      (pss_one (ps_ret (pe_cmpR op_eq (pe_callB (call_reprD (B := Bs l k m) hgd hr.units hbs) (by rfl) T0.repr (by decide +kernel) (pa_cons (pv 11) pa_nil)) (pe_callB (call_reprD (B := Bs l k m) hgd hr.units hbs) (by rfl) T0.repr (by decide +kernel) (pa_cons (pv 10) pa_nil)) (nomark _))))))))))))))), ?_⟩
    obtain ⟨dx, s0, ta, tb, fs, z, hk, hfl, hh, hS, ezt, ezu, hnm, hta, htb⟩ := W.keep.ex
    obtain ⟨o, ts, hA, hdn, hP⟩ := W.rows
    have hlen : ts.length = rs.length := hP.length
    have hsz : rs.length < sizeLine := Nat.lt_of_le_of_lt W.r6 (by decide)
    have eB : ∀ {b : Addr}, ¬ Bs l k m b → b ≠ l ∧ b ≠ k ∧ b ≠ m := fun h => ⟨fun e => h (.inl e), fun e => h (.inr (.inl e)), fun e => h (.inr (.inr e))⟩
    have kbl : ∀ {H1 H2 : Hp}, SameX l H1 H2 → KeepB (Bs l k m) H1 H2 := fun s => SameX.kb s (.inl rfl)
    -- the names
    refine ⟨_, rfl, k, CK, dx, fs, _, rfl, hk, D.clK, D.noK _ (by decide), hh.at_ 4 rfl, a, rfl, ⟨_, .inl (.inr ⟨o, hA⟩)⟩, fun D1 hD1 => lc_vals (walk_tup (K := K) (a := a) (xs := ts.map V.ref)) (fun i => V.str (nm rs i)) (by rw [List.length_map, hlen]; exact hsz) hD1 (fun H' s => .inl (.inr ⟨o, s _ _ hA⟩)) (fun i x H1 H2 Nx hi sH y kk => ?_) (fun H1 s1 hL => ?_)⟩
    · obtain ⟨rfl, hx⟩ := y
      rw [List.getElem?_map] at hx
      obtain ⟨t2, ht2, e⟩ : ∃ t2, ts[i]? = some t2 ∧ V.ref t2 = x := by
        cases q : ts[i]? with
        | none => rw [q] at hx; cases hx
        | some t2 => rw [q] at hx; exact ⟨t2, rfl, Option.some.inj hx⟩
      subst e
      obtain ⟨r, hr', hT⟩ := paired_at hP ht2
      refine ⟨rfl, _, rfl, t2, _, 0, _, rfl, rfl, tupAt (sH _ _ hT), atI_nat (j := 0) rfl, kk _ _ ?_ (Same.refl _)⟩
      rw [nm_at hr']
    rw [List.length_map, hlen, range_nm] at hL
    obtain ⟨r0, rr, ers⟩ : ∃ r0 rr, rs = r0 :: rr := by
      have := W.r1
      cases rs with
      | nil => simp at this
      | cons r0 rr => exact ⟨r0, rr, rfl⟩
    have hw0 : (rs.map (·.1)) = r0.1 :: rr.map (·.1) := by rw [ers]; rfl
    have wok : ∀ z ∈ rs.map (·.1), z.length ≤ 8 ∧ ∀ c ∈ z.cps.toList, c < 16 ^ 8 := fun z mz => by
      obtain ⟨r, mr, rfl⟩ := List.mem_map.mp mz
      exact low_cps alpha_low (W.rok r mr).1
    have w0ok := wok r0.1 (by rw [hw0]; exact List.mem_cons_self)
    have W1 := W.same s1
    -- the copy: what it is drawn from
    refine ⟨_, rfl, _, rfl, D1, 3, _, rfl, rfl, hL, by decide, by decide, ?_, fun p1 hp1 => ?_⟩
    · rw [List.length_map, List.length_map]
      exact Nat.le_trans (Nat.mul_le_mul_right _ W.r6) (by decide)
    have W2 := W1.same (Same.upd (o := .lst (List.replicate (3 : Int).toNat ((rs.map (·.1)).map V.str)).flatten) hp1)
    have s2 : Same H1 (L2.upd H1 p1 (.lst (List.replicate (3 : Int).toNat ((rs.map (·.1)).map V.str)).flatten)) := Same.upd hp1
    have hL2 := s2 _ _ hL
    have hp1' : (L2.upd H1 p1 (.lst (List.replicate (3 : Int).toNat ((rs.map (·.1)).map V.str)).flatten)) p1 = some (.lst (List.replicate (3 : Int).toNat ((rs.map (·.1)).map V.str)).flatten) := upd_same
    generalize eH2 : L2.upd H1 p1 (.lst (List.replicate (3 : Int).toNat ((rs.map (·.1)).map V.str)).flatten) = H2 at W2 s2 hL2 hp1'
    have c2 := W2.cnd
    have pm : ∀ {H H' : Hp} {v : V}, I0 (Bs l k m) H v → Same H H' → I0 (Bs l k m) H' v := fun h s => h.kb (Same.kb s)
    have lw : ∀ (H : Hp) (Q : VK), Same H2 H → (∀ (H' : Hp) (v : V), Same H H' → Dr (Bs l k m) H' v (.str r0.1) → Q v H') → tOp (rIxL K) (tVar 3) (tC (.int 0)) [some (.ref l), some (.ref k), some (.ref m), some (.ref D1), none, none, none, none, none, none, none, none] H Q := fun H Q hc kk =>
      ⟨_, rfl, D1, _, 0, _, rfl, rfl, SqL.of (hc _ _ hL2), atI_nat (j := 0) (by rw [hw0]; rfl), kk H _ (Same.refl H) (.str _)⟩
    have wsp : Rm (.str (r0.1 ++ " ")) := Rm.str (by rw [len_cps, cps_app, List.length_append, ← len_cps]; show r0.1.length + 1 ≤ 20; omega) (fun c mc => by
      rw [cps_app] at mc
      rcases List.mem_append.mp mc with q | q
      · exact w0ok.2 c q
      · have e : c = 32 := by simpa using (show c ∈ [32] from q)
        rw [e]; decide)
    refine ItemsS.lst (P := I0 (Bs l k m)) (C := Same H2) (n := 9) pm ?lits (by decide) H2 _ (Same.refl H2) fun H3 q3 vs3 s3 hq3 hQ3 hl3 hi3 => ?_
    case lits =>
      refine ItemsS.cons c2 pm ?_ (ItemsS.cons c2 pm ?_ (ItemsS.cons c2 pm ?_ (ItemsS.cons c2 pm ?_ (ItemsS.cons c2 pm ?_ (ItemsS.cons c2 pm ?_ (ItemsS.cons c2 pm ?_ (ItemsS.cons c2 pm ?_ (ItemsS.cons c2 pm ?_ ItemsS.nil))))))))
      · exact LitS.item LitS.str (Rm.of (by decide +kernel))
      · exact LitS.item LitS.str (Rm.of (by decide +kernel))
      · exact LitS.item LitS.non (Rm.of (by decide +kernel))
      · exact LitS.item LitS.int (Rm.of (by decide +kernel))
      · exact LitS.item LitS.bl (Rm.of (by decide +kernel))
      · exact LitS.item (LitS.tup c2 (LitSA.cons c2 lw LitSA.nil) (by show 1 ≤ 1000; decide)) (Rm.tup1 (by omega) w0ok.2)
      · exact LitS.item (LitS.lst c2 (LitSA.cons c2 lw LitSA.nil) (by show 1 ≤ 1000; decide)) (Rm.lst1 (by omega) w0ok.2)
      · exact LitS.item (LitS.emp c2) (Rm.of (by decide +kernel))
      · refine LitS.item (B := Bs l k m) (d := .str (r0.1 ++ " ")) ?_ wsp
        intro H Q hc kk
        exact ⟨_, rfl, D1, _, 0, _, rfl, rfl, SqL.of (hc _ _ hL2), atI_nat (j := 0) (by rw [hw0]; rfl), _, _, rfl, rfl, Nat.le_trans (by show r0.1.length + 1 ≤ 9; omega) (by decide), kk H _ (Same.refl H) (.str _)⟩
    have W3 := W2.same s3
    have hp3 := s3 _ _ hp1'
    have hL3 := s3 _ _ hL2
    have efl : (List.replicate (3 : Int).toNat ((rs.map (·.1)).map V.str)).flatten.length = 3 * rs.length := by
      have aux : ∀ xs : List V, (List.replicate (3 : Int).toNat xs).flatten.length = 3 * xs.length := fun xs => by
        show (xs ++ (xs ++ (xs ++ []))).length = _
        simp only [List.length_append, List.length_nil]
        omega
      rw [aux, List.length_map, List.length_map]
    refine ⟨p1, q3, _, _, rfl, rfl, hp3, hQ3, by rw [efl, hl3]; exact Nat.le_trans (by have := W.r6; omega : 3 * rs.length + 9 ≤ 27) (by decide), fun r3 hr3 => ?_⟩
    have s4 : Same H3 (L2.upd H3 r3 (.lst ((List.replicate (3 : Int).toNat ((rs.map (·.1)).map V.str)).flatten ++ vs3))) := Same.upd hr3
    have W4 := W3.same s4
    have hL4 := s4 _ _ hL3
    have hr4 : (L2.upd H3 r3 (.lst ((List.replicate (3 : Int).toNat ((rs.map (·.1)).map V.str)).flatten ++ vs3))) r3 = some (.lst ((List.replicate (3 : Int).toNat ((rs.map (·.1)).map V.str)).flatten ++ vs3)) := upd_same
    have nr3 := W3.cnd.fresh (Same.refl H3) hr3
    have nD1 : ¬ Bs l k m D1 := fun b => W.out D1 b hD1
    have items4 : ∀ x ∈ (List.replicate (3 : Int).toNat ((rs.map (·.1)).map V.str)).flatten ++ vs3, I0 (Bs l k m) (L2.upd H3 r3 (.lst ((List.replicate (3 : Int).toNat ((rs.map (·.1)).map V.str)).flatten ++ vs3))) x := fun x mx => by
      rcases List.mem_append.mp mx with q | q
      · obtain ⟨l2, ml2, mx2⟩ := List.mem_flatten.mp q
        have el2 := List.eq_of_mem_replicate ml2
        rw [el2] at mx2
        obtain ⟨z, mz, rfl⟩ := List.mem_map.mp mx2
        exact ⟨.str z, .str z, Rm.str (by have := (wok z mz).1; omega) (wok z mz).2⟩
      · exact pm (hi3 x q) s4
    generalize eH4 : L2.upd H3 r3 (.lst ((List.replicate (3 : Int).toNat ((rs.map (·.1)).map V.str)).flatten ++ vs3)) = H4 at s4 W4 hL4 hr4 items4
    refine ⟨l, n, _, rfl, W4.pot, by omega, .inl ⟨r3, _, rfl, (eB nr3).1, hr4, by rw [List.length_append, efl, hl3]; omega, by rw [List.length_append, efl, hl3]; have := W.r6; omega, fun H5 vc x5 hp5 mc => ?_⟩⟩
    have W5 := W4.draw x5 hp5
    have hL5 := x5 _ _ (eB nD1).1 hL4
    have hvc5 : I0 (Bs l k m) H5 vc := (items4 vc mc).kb (kbl x5)
    have kb5 : KeepB (Bs l k m) H H5 := ((((Same.kb s1).trans (Same.kb s2)).trans (Same.kb s3)).trans (Same.kb s4)).trans (kbl x5)
    -- what the spans, the word are drawn from
    have c5 := W5.cnd
    have pm1 : ∀ {H H' : Hp} {v : V}, I1 (Bs l k m) CS H v → Same H H' → I1 (Bs l k m) CS H' v := fun h s => h.kb (Same.kb s)
    refine seq_lst (P := I1 (Bs l k m) CS) (C := Same H5) (n := 11) pm1 (spans_read c5) (by decide) (Same.refl H5) fun H6 q6 vs6 s6 hq6 hQ6 hl6 hi6 => ?_
    have W6 := W5.same s6
    have nq6 := c5.fresh (Same.refl H5) hq6
    have c6 := W6.cnd
    refine seq_lst (P := I0 (Bs l k m)) (C := Same H6) (n := 12) pm (words_read c6) (by decide) (Same.refl H6) fun H7 q7 vs7 s7 hq7 hQ7 hl7 hi7 => ?_
    have W7 := W6.same s7
    have nq7 := c6.fresh (Same.refl H6) hq7
    -- the word
    refine ⟨_, rfl, _, rfl, l, n + 1, _, rfl, W7.pot, by omega, .inl ⟨q7, vs7, rfl, (eB nq7).1, hQ7, by omega, by omega, fun H8 vo x8 hp8 mo => ?_⟩⟩
    have W8 := W7.draw x8 hp8
    -- the spans
    have hQ8 := x8 _ _ (eB nq6).1 (s7 _ _ hQ6)
    refine ⟨_, rfl, _, rfl, l, n + 1 + 1, _, rfl, W8.pot, by omega, .inl ⟨q6, vs6, rfl, (eB nq6).1, hQ8, by omega, by omega, fun H9 vsp x9 hp9 ms => ?_⟩⟩
    have W9 := W8.draw x9 hp9
    have kb59 : KeepB (Bs l k m) H5 H9 := (((Same.kb s6).trans (Same.kb s7)).trans (kbl x8)).trans (kbl x9)
    have hL9 : H9 D1 = some (.lst ((rs.map (·.1)).map V.str)) := kb59 _ _ nD1 (fun _ z => by cases z) hL5
    have hvc9 : I0 (Bs l k m) H9 vc := hvc5.kb kb59
    have hvo9 : I0 (Bs l k m) H9 vo := (hi7 vo mo).kb ((kbl x8).trans (kbl x9))
    have hvs9 : I1 (Bs l k m) CS H9 vsp := (hi6 vsp ms).kb (((Same.kb s7).trans (kbl x8)).trans (kbl x9))
    have kb9 := kb5.trans kb59
    have W9' : Wd CK CSt CSi T H9 l k m a rs (n + 3) t u ns := W9.mono (by omega)
    -- what is due
    obtain ⟨lm, m1, m2, m3, m4⟩ := W9'.mod
    obtain ⟨dvc, qvc, rvc⟩ := hvc9
    obtain ⟨bw, ow⟩ : ∃ bw, ∀ H', KeepB (Bs l k m) H9 H' → OnlyV K H' vo bw := by
      obtain ⟨d, q, r⟩ := hvo9
      by_cases e : vo = .non
      · exact ⟨true, fun H' _ => by rw [e]; exact .non⟩
      · exact ⟨okS wordL (strOf d), fun H' s => .of e ((q.go s).strV r)⟩
    obtain ⟨bs, os, hbs0⟩ : ∃ bs, (∀ H', KeepB (Bs l k m) H9 H' → SpnV K CS H' vsp bs) ∧ (bs = false → I0 (Bs l k m) H9 vsp) := by
      by_cases e : vsp = .non
      · exact ⟨true, fun H' _ => by rw [e]; exact .non, fun q => nomatch q⟩
      · rcases hvs9 with ⟨d, q, r⟩ | ⟨x, dxx, fx, ex, hx, nx⟩
        · exact ⟨false, fun H' s => .of e ((q.go s).ofC D.noS), fun _ => ⟨d, q, r⟩⟩
        · exact ⟨true, fun H' s => .of e (by rw [ex]; exact ⟨.ref CS, .base (.ins (s _ _ nx (fun _ z => by cases z) hx) D.spC.cl D.spC.ca D.spC.cn D.spC.ct D.spC.cm), D.isS⟩), fun q => nomatch q⟩
    have oc : ∀ H', KeepB (Bs l k m) H9 H' → StrV K H' vc (strOf dvc) := fun H' s => (qvc.go s).strV rvc
    refine ⟨_, rfl, m, _, 1, _, rfl, rfl, SqL.of m1, atI_nat (j := 1) rfl, (by show 2 ≤ sizeLine; decide), fun pd hpd => ?_⟩
    have sd : Same H9 (L2.upd H9 pd (.tup [.str "told", .int u])) := Same.upd hpd
    have hpd' : (L2.upd H9 pd (.tup [.str "told", .int u])) pd = some (.tup [.str "told", .int u]) := upd_same
    generalize L2.upd H9 pd (.tup [.str "told", .int u]) = H10 at sd hpd'
    refine nx_of ?_
    dsimp only
    refine seq_join (fun σ' H' => ∃ p, σ' = [some (.ref l), some (.ref k), some (.ref m), some (.ref D1), none, some vc, some (.ref q6), some (.ref q7), some vo, some vsp, some (.ref p), none] ∧ Same H9 H' ∧ H9 p = none ∧ H' p = some (.tup [.str (if bw = true then "told" else "word" : Str), if bw = true then .int u else vo])) (fun σ2 H11 hW => ?_) (fun kk => ?_)
    case refine_2 =>
      cases hb : bw with
      | true =>
        have kk' : ∀ H', Same H10 H' → _ := fun H' s' => kk _ H' ⟨pd, rfl, sd.trans s', hpd, by rw [hb]; exact s' _ _ hpd'⟩
        cases ow H10 (Same.kb sd) with
        | non => exact ⟨_, rfl, rfl, _, rfl, iteNS rfl (iteF (kk' H10 (Same.refl _)))⟩
        | @of _ o2 nn hw =>
          refine ⟨_, rfl, rfl, _, rfl, iteNS_not nn ⟨_, rfl, vo, o2, rfl, hw, fun H1 s1 => ⟨_, rfl, ?_⟩⟩⟩
          rw [hb]
          exact iteF (kk' H1 s1)
      | false =>
        have ow' := ow H10 (Same.kb sd)
        rw [hb] at ow'
        generalize eb : false = b0 at ow'
        cases ow' with
        | non => cases eb
        | @of _ o2 nn hw =>
          refine ⟨_, rfl, rfl, _, rfl, iteNS_not nn ⟨_, rfl, vo, o2, rfl, hw, fun H1 s1 => ⟨_, rfl, ?_⟩⟩⟩
          rw [← eb]
          refine iteT ⟨_, rfl, (by show 2 ≤ sizeLine; decide), fun p hp => kk _ _ ⟨p, rfl, Same.upd' (sd.trans s1) hp, (sd.trans s1).free hp, ?_⟩⟩
          rw [hb]
          exact upd_same
    obtain ⟨p1', rfl, s11, hf11, ht11⟩ := hW
    -- the spans
    refine seq_join (fun σ' H' => ∃ p, σ' = [some (.ref l), some (.ref k), some (.ref m), some (.ref D1), none, some vc, some (.ref q6), some (.ref q7), some vo, some vsp, some (.ref p), none] ∧ Same H9 H' ∧ H9 p = none ∧ H' p = some (.tup [.str (if bs = true then (if bw = true then "told" else "word") else "spans" : Str), if bs = true then (if bw = true then .int u else vo) else vsp])) (fun σ2 H12 hW => ?_) (fun kk => ?_)
    case refine_2 =>
      have os' := os H11 (Same.kb s11)
      cases hb : bs with
      | true =>
        rw [hb] at os'
        generalize eb : true = b0 at os'
        cases os' with
        | non => exact ⟨_, rfl, rfl, _, rfl, iteNS rfl (iteF (kk _ H11 ⟨p1', rfl, s11, hf11, by rw [hb]; exact ht11⟩))⟩
        | @of _ _ nn hC =>
          obtain ⟨ty, hty, hkit⟩ := hC
          refine ⟨_, rfl, rfl, _, rfl, iteNS_not nn ⟨_, rfl, _, _, _, _, _, rfl, .own CS, hty, hkit, _, rfl, ?_⟩⟩
          rw [← eb]
          exact iteF (kk _ H11 ⟨p1', rfl, s11, hf11, by rw [hb]; exact ht11⟩)
      | false =>
        rw [hb] at os'
        generalize eb : false = b0 at os'
        cases os' with
        | non => cases eb
        | @of _ _ nn hC =>
          obtain ⟨ty, hty, hkit⟩ := hC
          refine ⟨_, rfl, rfl, _, rfl, iteNS_not nn ⟨_, rfl, _, _, _, _, _, rfl, .own CS, hty, hkit, _, rfl, ?_⟩⟩
          rw [← eb]
          exact iteT ⟨_, rfl, (by show 2 ≤ sizeLine; decide), fun p hp => kk _ _ ⟨p, rfl, Same.upd' s11 hp, s11.free hp, by rw [hb]; exact upd_same⟩⟩
    obtain ⟨p2', rfl, s12, hf12, ht12⟩ := hW
    -- the copy
    refine seq_join (fun σ' H' => ∃ p, σ' = [some (.ref l), some (.ref k), some (.ref m), some (.ref D1), none, some vc, some (.ref q6), some (.ref q7), some vo, some vsp, some (.ref p), none] ∧ Same H9 H' ∧ H9 p = none ∧ H' p = some (.tup [.str (if inName rs (strOf dvc) = true then (if bs = true then (if bw = true then "told" else "word") else "spans") else "copy" : Str), if inName rs (strOf dvc) = true then (if bs = true then (if bw = true then .int u else vo) else vsp) else vc])) (fun σ2 H13 hW => ?_) (fun kk => ?_)
    case refine_2 =>
      have oc' := oc H12 (Same.kb s12)
      generalize strOf dvc = od2 at oc' kk ⊢
      cases oc' with
      | no ty kty => exact ⟨_, rfl, _, _, _, _, false, rfl, .ty "str", ty, kty, false, rfl, iteT (iteT ⟨_, rfl, (by show 2 ≤ sizeLine; decide), fun p hp => kk _ _ ⟨p, rfl, Same.upd' s12 hp, s12.free hp, upd_same⟩⟩)⟩
      | yes z hz =>
        refine ⟨_, rfl, _, _, _, _, true, rfl, .ty "str", .base (.str z), kit_ss K, true, rfl, iteF ?_⟩
        refine ⟨_, rfl, _, rfl, D1, _, rfl, .inl (SqL.of (s12 _ _ hL9)), rfl, flat_str _, _, rfl, ?_⟩
        rw [inV_str, ← look_iff]
        cases hb : (look rs z).isSome with
        | true =>
          refine iteF (kk _ H12 ⟨p2', rfl, s12, hf12, ?_⟩)
          rw [show inName rs (some z) = true from hb]
          exact ht12
        | false => exact iteT ⟨_, rfl, (by show 2 ≤ sizeLine; decide), fun p hp => kk _ _ ⟨p, rfl, Same.upd' s12 hp, s12.free hp, by rw [show inName rs (some z) = false from hb]; exact upd_same⟩⟩
    obtain ⟨p3', rfl, s13, hf13, ht13⟩ := hW
    -- the call
    have W13 := W9'.same s13
    have nb3 : ¬ Bs l k m p3' := fun b => W9'.out p3' b hf13
    refine seq_join (AskW CK CSt CSi T l k m a rs n t u ns D1 q6 q7 p3' vc vo vsp H9) (fun σ2 H15 hW => ?_) (fun kk => ?_)
    case refine_2 =>
      refine ⟨W13.tabs, fun H14 eN T14 => ?_⟩
      have W14 := W13.ext (extX eN) T14
      have kb14 : KeepB (Bs l k m) H9 H14 := (Same.kb s13).trans (extX eN).kb
      have ht14 := extX eN _ _ (fun _ z => by cases z) ht13
      obtain ⟨dk, s0k, tak, tbk, fk, zk, hk14, _, _, _, _, _, hnm14, _, _⟩ := W14.keep.ex
      have bad : ∀ (tag : Str) (v : V), tag ≠ "told" → tag.length ≤ 20 → (∀ c ∈ tag.cps.toList, c < 16 ^ 8) → H14 p3' = some (.tup [.str tag, v]) → I0 (Bs l k m) H9 v → ∀ (H2 : Hp), Same H14 H2 → ∀ p, H2 p = none →
          AskW CK CSt CSi T l k m a rs n t u ns D1 q6 q7 p3' vc vo vsp H9 [some (.ref l), some (.ref k), some (.ref m), some (.ref D1), none, some vc, some (.ref q6), some (.ref q7), some vo, some vsp, some (.ref p3'), some (.ref p)] (L2.upd H2 p (.tup [.str tag, v])) := fun tag v h1 h2 h3 h4 h5 H2 s2 p hp =>
        ⟨p, tag, v, rfl, upd_same, fun b => (W14.same s2).out p b hp, kb14.trans ((Same.kb s2).trans (Same.kb (Same.upd hp))), by rw [upd_ne (ne_of_none (s2 _ _ h4) hp)]; exact s2 _ _ h4,
          .inl ⟨h1, h2, h3, h5.kb (kb14.trans ((Same.kb s2).trans (Same.kb (Same.upd hp)))), (W14.same s2).same (Same.upd hp)⟩⟩
      refine ⟨_, rfl, k, dk, fk, rfl, hk14, hnm14 _ (by decide), _, rfl, _, rfl, _, rfl, rfl, rfl, k, a, rs, t, u, ns, vc, vsp, vo, strOf dvc, bs, bw, rfl, W14.keep, (by have := W.nsu; omega), W.u0, oc H14 kb14, os H14 kb14, ow H14 kb14, ?_, ?_, ?_, ?_⟩
      · intro hc H2 d s2 hd
        rw [hc] at ht14
        refine ⟨true, D.exm 0 0 _ _ rfl rfl, fun _ => ⟨rfl, d, vc, rfl, hd, fun p hp => ?_⟩, (fun q => nomatch q)⟩
        exact kk _ _ (bad "copy" vc (by decide) (by decide) (by decide +kernel) ht14 ⟨dvc, qvc, rvc⟩ H2 s2 p hp)
      · intro hc hs H2 d s2 hd
        rw [hc, hs] at ht14
        refine ⟨false, D.exm 1 0 _ _ rfl rfl, (fun q => nomatch q), fun _ => ?_⟩
        refine ⟨true, D.exm 1 1 _ _ rfl rfl, fun _ => ⟨rfl, d, vsp, rfl, hd, fun p hp => ?_⟩, (fun q => nomatch q)⟩
        exact kk _ _ (bad "spans" vsp (by decide) (by decide) (by decide +kernel) ht14 (hbs0 hs) H2 s2 p hp)
      · intro hc hs hw H2 d s2 hd
        rw [hc, hs, hw] at ht14
        refine ⟨false, D.exm 2 0 _ _ rfl rfl, (fun q => nomatch q), fun _ => ?_⟩
        refine ⟨false, D.exm 2 1 _ _ rfl rfl, (fun q => nomatch q), fun _ => ?_⟩
        refine ⟨true, D.exm 2 2 _ _ rfl rfl, fun _ => ⟨rfl, d, vo, rfl, hd, fun p hp => ?_⟩, (fun q => nomatch q)⟩
        exact kk _ _ (bad "word" vo (by decide) (by decide) (by decide +kernel) ht14 hvo9 H2 s2 p hp)
      · intro hc hs hw H2 sx hK
        rw [hc, hs, hw] at ht14
        have good : ∀ p, H2 p = none → AskW CK CSt CSi T l k m a rs n t u ns D1 q6 q7 p3' vc vo vsp H9 [some (.ref l), some (.ref k), some (.ref m), some (.ref D1), none, some vc, some (.ref q6), some (.ref q7), some vo, some vsp, some (.ref p3'), some (.ref p)] (L2.upd H2 p (.tup [.str "told", .int u])) := fun p hp => by
          obtain ⟨k1, k2, k3, k4⟩ := W14.kept (n' := 0) sx hK
          have ne3 : p3' ≠ k := (eB nb3).2.1
          have e3 : H2 p3' = some (.tup [.str "told", .int u]) := sx _ _ ne3 ht14
          have su := Same.upd (o := .tup [.str "told", .int u]) hp
          have nbp : ¬ Bs l k m p := fun b => by
            rcases b with z | z | z
            · obtain ⟨_, _, _, e, _⟩ := k1
              rw [z, e] at hp; cases hp
            · obtain ⟨_, _, _, _, _, _, e, _⟩ := hK.ex
              rw [z, e] at hp; cases hp
            · obtain ⟨_, e, _⟩ := k3
              rw [z, e] at hp; cases hp
          obtain ⟨lm2, n1, n2, n3⟩ := k3
          exact ⟨p, "told", .int u, rfl, upd_same, nbp, kb14.trans ((SameX.kb sx (.inr (.inl rfl))).trans (Same.kb su)), su _ _ e3,
            .inr ⟨rfl, rfl, k1.same su, hK.same su, k2.same su, ⟨lm2, su _ _ n1, su _ _ n2, n3⟩, tabs_same k4 su⟩⟩
        refine ⟨(by show 2 ≤ sizeLine; decide), fun p hp => ?_⟩
        exact kk _ _ (good p hp)
    obtain ⟨p2, tag, v, rfl, hp2, nb2, kb15, hp3, hcase⟩ := hW
    rcases hcase with ⟨htag, htl, htc, ⟨d, hd, rd⟩, W15⟩ | ⟨rfl, rfl, hpot, hKA, hRo, ⟨lm2, n1, n2, n3, n4⟩, hTb⟩
    · have dr : ∀ {p : Addr}, H15 p = some (.tup [.str tag, v]) → ¬ Bs l k m p → Dr (Bs l k m) H15 (.ref p) (.tuple [.str tag, d]) := fun e nb => .tup e nb (.cons (.str _) (.cons hd .nil))
      have sh := rd.pair htl htc
      refine ⟨_, rfl, p3', _, 0, _, rfl, rfl, tupAt hp3, atI_nat (j := 0) rfl, rfl, _, rfl, ite_f (fun e => htag (V.str.inj e)) ?_⟩
      refine ⟨_, rfl, p2, _, rfl, dr hp2 nb2, sh, _, rfl, p3', _, rfl, dr hp3 nb3, sh, rfl, ?_⟩
      rw [decide_eq_true rfl]
      exact h H15 t u ns (kb9.trans kb15) (by omega) (W15.mono (by omega))
    · -- the model goes on
      refine ⟨_, rfl, p3', _, 0, _, rfl, rfl, tupAt hp3, atI_nat (j := 0) rfl, rfl, _, rfl, ite_t rfl ?_⟩
      refine ⟨_, rfl, m, _, 2, _, rfl, rfl, SqL.of n1, atI_nat (j := 2) rfl, _, rfl, m, _, 1, _, rfl, rfl, SqL.of n1, atI_nat (j := 1) rfl, (by show 1 ≤ sizeLine; decide), fun pl hpl => ?_⟩
      have sa := Same.upd (o := .lst [.int u]) hpl
      refine ⟨lm2, pl, _, _, rfl, rfl, sa _ _ n2, upd_same, ?_, fun pn hpn => ?_⟩
      · rw [List.length_map]
        show ns.length + 1 ≤ _
        have := W.nsu
        exact Nat.le_trans (by omega : ns.length + 1 ≤ 61) (by decide)
      have sb : Same H15 (L2.upd (L2.upd H15 pl (.lst [.int u])) pn (.lst (ns.map V.int ++ [.int u]))) := Same.upd' sa hpn
      have epn : (L2.upd (L2.upd H15 pl (.lst [.int u])) pn (.lst (ns.map V.int ++ [.int u]))) pn = some (.lst (ns.map V.int ++ [.int u])) := upd_same
      have nm : m ≠ pn := ne_of_none (sa _ _ n1) hpn
      have nlp : l ≠ pn := (hpot.same sa).ne hpn
      generalize L2.upd (L2.upd H15 pl (.lst [.int u])) pn (.lst (ns.map V.int ++ [.int u])) = H16 at sb epn
      refine ⟨_, rfl, m, _, 2, 2, rfl, rfl, sb _ _ n1, (by show ixN 3 2 = some 2; decide +kernel), ?_⟩
      have x1 : SameX m H15 (L2.upd H16 m (.lst ([V.int t, V.int u, V.ref lm2].set 2 (V.ref pn)))) := (Same.x sb m).trans SameX.upd
      have em : (L2.upd H16 m (.lst ([V.int t, V.int u, V.ref lm2].set 2 (V.ref pn)))) m = some (.lst [.int t, .int u, .ref pn]) := upd_same
      have epn1 : (L2.upd H16 m (.lst ([V.int t, V.int u, V.ref lm2].set 2 (V.ref pn)))) pn = some (.lst (ns.map V.int ++ [.int u])) := by rw [upd_ne (Ne.symm nm)]; exact epn
      generalize L2.upd H16 m (.lst ([V.int t, V.int u, V.ref lm2].set 2 (V.ref pn))) = H17 at x1 em epn1
      refine ⟨_, rfl, m, _, 0, _, rfl, rfl, SqL.of em, atI_nat (j := 0) rfl, _, _, rfl, rfl, _, rfl, m, _, 1, _, rfl, rfl, SqL.of em, atI_nat (j := 1) rfl, _, _, rfl, rfl, (by show 2 ≤ sizeLine; decide), fun pt hpt => ?_⟩
      have s18 := Same.upd (o := .tup [.int (t + 1), .int (u + 1)]) hpt
      have et : (L2.upd H17 pt (.tup [.int (t + 1), .int (u + 1)])) pt = some (.tup [.int (t + 1), .int (u + 1)]) := upd_same
      generalize L2.upd H17 pt (.tup [.int (t + 1), .int (u + 1)]) = H18 at s18 et
      refine ⟨pt, _, rfl, tupAt et, rfl, _, _, rfl, _, rfl, m, _, 0, 0, rfl, rfl, s18 _ _ em, (by show ixN 3 0 = some 0; decide +kernel), ?_⟩
      have x2 : SameX m H15 (L2.upd H18 m (.lst ([V.int t, V.int u, V.ref pn].set 0 (V.int (t + 1))))) := (x1.trans (Same.x s18 m)).trans SameX.upd
      have em2 : (L2.upd H18 m (.lst ([V.int t, V.int u, V.ref pn].set 0 (V.int (t + 1))))) m = some (.lst [.int (t + 1), .int u, .ref pn]) := upd_same
      have epn2 : (L2.upd H18 m (.lst ([V.int t, V.int u, V.ref pn].set 0 (V.int (t + 1))))) pn = some (.lst (ns.map V.int ++ [.int u])) := by rw [upd_ne (Ne.symm nm)]; exact s18 _ _ epn1
      refine ⟨_, _, rfl, _, rfl, m, _, 1, 1, rfl, rfl, em2, (by show ixN 3 1 = some 1; decide +kernel), rfl, ?_⟩
      have x3 : SameX m H15 (L2.upd (L2.upd H18 m (.lst ([V.int t, V.int u, V.ref pn].set 0 (V.int (t + 1))))) m (.lst ([V.int (t + 1), V.int u, V.ref pn].set 1 (V.int (u + 1))))) := x2.trans SameX.upd
      have em3 : (L2.upd (L2.upd H18 m (.lst ([V.int t, V.int u, V.ref pn].set 0 (V.int (t + 1))))) m (.lst ([V.int (t + 1), V.int u, V.ref pn].set 1 (V.int (u + 1))))) m = some (.lst [.int (t + 1), .int (u + 1), .ref pn]) := upd_same
      have epn3 : (L2.upd (L2.upd H18 m (.lst ([V.int t, V.int u, V.ref pn].set 0 (V.int (t + 1))))) m (.lst ([V.int (t + 1), V.int u, V.ref pn].set 1 (V.int (u + 1))))) pn = some (.lst (ns.map V.int ++ [.int u])) := by rw [upd_ne (Ne.symm nm)]; exact epn2
      generalize L2.upd (L2.upd H18 m (.lst ([V.int t, V.int u, V.ref pn].set 0 (V.int (t + 1))))) m (.lst ([V.int (t + 1), V.int u, V.ref pn].set 1 (V.int (u + 1)))) = H19 at x3 em3 epn3
      have kl : KeepL m H15 H19 := ⟨⟨_, n1⟩, x3⟩
      have dr : ∀ {p : Addr}, H15 p = some (.tup [.str "told", .int u]) → ¬ Bs l k m p → Dr (Bs l k m) H19 (.ref p) (.tuple [.str "told", .int u]) := fun e nb => .tup (x3 _ _ (eB nb).2.2 e) nb (.cons (.str _) (.cons (.int u) .nil))
      have sh : Shw (.tuple [.str "told", .int u]) := (Rm.int (by have := W.u0; omega)).pair (by decide) (by decide +kernel)
      refine ⟨_, rfl, p2, _, rfl, dr hp2 nb2, sh, _, rfl, p3', _, rfl, dr hp3 nb3, sh, rfl, ?_⟩
      rw [decide_eq_true rfl]
      obtain ⟨a1, b1, c1, el, rl⟩ := hpot
      have pot3 : PotOk (n + 3) H19 l := ⟨a1, b1, c1, x3 _ _ W.nlm el, rl⟩
      refine h H19 (t + 1) (u + 1) (ns ++ [u]) (kb9.trans (kb15.trans (SameX.kb x3 (.inr (.inr rfl))))) (by omega) ⟨pot3.mono (by omega), hKA.lw kl, hRo.lw kl, W.r1, W.r6, W.rok, ⟨pn, em3, by rw [List.map_append]; exact epn3, Ne.symm nlp, Ne.symm nm⟩, W.nlm, (by have := W.u0; omega), ?_, tabs_lw hTb kl⟩
      rw [List.length_append]
      have := W.nsu
      push_cast
      show (ns.length : Int) + 1 ≤ u + 1
      omega
end
end Sps
set_option Elab.async false
set_option linter.all false
set_option maxRecDepth 100000
set_option maxHeartbeats 4000000
/-! What _law_call_right's ways share. -/
namespace Sps
open PySem PySem.Spec PyProof.Rows L2
theorem inV_int : ∀ {z : Int} {ws : List Int}, inV (.int z) (ws.map V.int) = decide (z ∈ ws)
  | z, [] => rfl
  | z, w :: ws => by
    have ih := inV_int (z := z) (ws := ws)
    unfold inV at ih ⊢
    rw [List.map_cons, List.any_cons, ih]
    have e1 : eqV (V.int w) (V.int z) = decide (w = z) := by
      show (w == z) = decide (w = z)
      rw [Bool.eq_iff_iff]
      simp
    rw [e1]
    by_cases e : w = z
    · subst e; simp
    · simp [e, Ne.symm e]
theorem flat_int (ws : List Int) : (ws.map V.int).all flatV = true := by
  induction ws with
  | nil => rfl
  | cons w ws ih => rw [List.map_cons, List.all_cons, ih]; rfl
section
variable {P : Program} {w : World} {K : PySem.W.Frag} {mg : Str → Option Value} {base : Heap} {CK CSt CSi CS BC BS BW BA BN CE : Addr}
theorem told_end {te : TE} {D : Ends} {σ : L2.St} {H6 : Hp} {l k m p : Addr} {tag : Str} {x : V} {d : PyData} (hσ : σ[6]? = some (some (.ref p))) (hp : H6 p = some (.tup [.str tag, x])) (np : ¬ Bs l k m p) (hd : Dr (Bs l k m) H6 x d) (sh : Shw (.tuple [.str tag, d]))
    (R : Hp → Prop) (hR : ∀ H', KeepB (Bs l k m) H6 H' → R H' → D.rt (.bl true) H')
    (h : ∀ Q : VK, (∀ (p2 : Addr) (H' : Hp), KeepB (Bs l k m) H6 H' → H' p2 = some (.tup [.str tag, x]) → ¬ Bs l k m p2 → R H' → Q (.ref p2) H') → te σ H6 Q) :
    tRet (tOp rEq (tCB (rRepr (Bs l k m)) (tCons te tNil)) (tCB (rRepr (Bs l k m)) (tCons (tVar 6) tNil))) D σ H6 := by
  refine h _ fun p2 H' kb hp2 n2 r => ?_
  have dr : ∀ {q : Addr}, H' q = some (.tup [.str tag, x]) → ¬ Bs l k m q → Dr (Bs l k m) H' (.ref q) (.tuple [.str tag, d]) := fun e nb => .tup e nb (.cons (.str _) (.cons (hd.go kb) .nil))
  refine ⟨p2, _, rfl, dr hp2 n2, sh, _, hσ, p, _, rfl, dr (kb _ _ np (fun _ z => by cases z) hp) np, sh, rfl, ?_⟩
  rw [decide_eq_true rfl]
  exact hR H' kb r
/-- the model has gone on, the keeper not yet -/
structure Mid (CK CSt CSi : Addr) (T : List (Addr × Str)) (H : Hp) (l k m a : Addr) (rs : List Cp) (n t u : Int) (ns : List Int) (tm : Int) (nm : List Int) : Prop where
  pot : PotOk n H l
  keep : KAt CK CSt CSi H k rs a t u ns
  rows : RowsAt H a rs
  mod : ∃ lm, H m = some (.lst [.int tm, .int u, .ref lm]) ∧ H lm = some (.lst (nm.map V.int)) ∧ lm ≠ l ∧ lm ≠ m
  tabs : LamX.Tabs T H
section
variable {T : List (Addr × Str)} {H H' : Hp} {l k m a : Addr} {rs : List Cp} {n t u tm : Int} {ns nm : List Int}
theorem Wd.mid (w : Wd CK CSt CSi T H l k m a rs n t u ns) : Mid CK CSt CSi T H l k m a rs n t u ns t ns := ⟨w.pot, w.keep, w.rows, w.mod, w.tabs⟩
theorem Mid.ext (w : Mid CK CSt CSi T H l k m a rs n t u ns tm nm) (s : KeepX H H') (tb : LamX.Tabs T H') : Mid CK CSt CSi T H' l k m a rs n t u ns tm nm :=
  ⟨let ⟨a, b, c, e, r⟩ := w.pot; ⟨a, b, c, s _ _ (fun _ z => by cases z) e, r⟩, w.keep.ext s, w.rows.ext s, let ⟨lm, h1, h2, h3⟩ := w.mod; ⟨lm, s _ _ (fun _ z => by cases z) h1, s _ _ (fun _ z => by cases z) h2, h3⟩, tb⟩
theorem Mid.same (w : Mid CK CSt CSi T H l k m a rs n t u ns tm nm) (s : Same H H') : Mid CK CSt CSi T H' l k m a rs n t u ns tm nm := w.ext (same_X s) (tabs_same w.tabs s)
theorem Mid.out (w : Mid CK CSt CSi T H l k m a rs n t u ns tm nm) : ∀ b, Bs l k m b → H b ≠ none := fun b hb e => by
  rcases hb with z | z | z
  · obtain ⟨_, _, _, q, _⟩ := w.pot
    rw [z, q] at e; cases e
  · obtain ⟨_, _, _, _, _, _, q, _⟩ := w.keep.ex
    rw [z, q] at e; cases e
  · obtain ⟨_, q, _⟩ := w.mod
    rw [z, q] at e; cases e
/-- the keeper goes on -/
theorem Mid.kept {t' u' : Int} {ns' : List Int} (w : Mid CK CSt CSi T H l k m a rs n t u ns tm nm) (s : SameX k H H') (kp : KAt CK CSt CSi H' k rs a t' u' ns') : Mid CK CSt CSi T H' l k m a rs n t' u' ns' tm nm ∨ u ≠ u' := by
  by_cases eu : u = u'
  · subst eu
    left
    obtain ⟨dk, _, _, _, fk, _, hk, _⟩ := w.keep.ex
    obtain ⟨a1, b1, c1, e, r⟩ := w.pot
    obtain ⟨o, ts, h1, h2, h3⟩ := w.rows
    obtain ⟨lm, m1, m2, m3⟩ := w.mod
    exact ⟨⟨a1, b1, c1, s _ _ (ne_of e hk (fun z => by cases z)) e, r⟩, kp, ⟨o, ts, s _ _ (ne_of h1 hk (fun z => by cases z)) h1, h2, paired_imp (fun _ _ e => s _ _ (ne_of e hk (fun z => by cases z)) e) h3⟩,
      ⟨lm, s _ _ (ne_of m1 hk (fun z => by cases z)) m1, s _ _ (ne_of m2 hk (fun z => by cases z)) m2, m3⟩, tabs_x w.tabs hk s⟩
  · exact .inr eu
theorem Mid.fin {H0 : Hp} {n0 t0 : Int} {ns0 : List Int} (w : Mid CK CSt CSi T H l k m a rs n t u ns t ns) (W0 : Wd CK CSt CSi T H0 l k m a rs n0 t0 u ns0) (hl : ns.length ≤ ns0.length) : Wd CK CSt CSi T H l k m a rs n t u ns :=
  ⟨w.pot, w.keep, w.rows, W0.r1, W0.r6, W0.rok, w.mod, W0.nlm, W0.u0, by have := W0.nsu; omega, w.tabs⟩
theorem Mid.lw {tm' : Int} {nm' : List Int} (w : Mid CK CSt CSi T H l k m a rs n t u ns tm nm) (hlm : l ≠ m) (kl : KeepL m H H') (md : ∃ lm, H' m = some (.lst [.int tm', .int u, .ref lm]) ∧ H' lm = some (.lst (nm'.map V.int)) ∧ lm ≠ l ∧ lm ≠ m) : Mid CK CSt CSi T H' l k m a rs n t u ns tm' nm' :=
  ⟨let ⟨a, b, c, e, r⟩ := w.pot; ⟨a, b, c, kl.2 _ _ hlm e, r⟩, w.keep.lw kl, w.rows.lw kl, md, tabs_lw w.tabs kl⟩
abbrev ECs (BC BS BW BA BN : Addr) : List (Addr × Str) := [(BC, "copy"), (BS, "spans"), (BW, "word"), (BA, "ask"), (BN, "count")]
theorem lost_call (D : LDefs P w K mg base CK CSt CSi CS BC BS BW BA BN CE) {σ : L2.St} {H0 H6 : Hp} {n0 t0 : Int} {tag : Str} {x v : V} {o : Option Int} (W0 : Wd CK CSt CSi T H0 l k m a rs n0 t0 u ns) (M : Mid CK CSt CSi T H6 l k m a rs n t u ns tm nm)
    (h1 : σ[1]? = some (some (.ref k))) (h5 : σ[5]? = some (some v)) (hv : ∀ H2, KeepB (Bs l k m) H6 H2 → NumV K H2 ns v o) (c0 : o = none → tag = "ask" ∧ x = v ∧ tm = t ∧ nm = ns) (c1 : ∀ z, o = some z → tag = "told" ∧ x = .non ∧ tm = t + 1 ∧ nm = ns.filter fun m => decide (m ≠ z))
    (Q : VK) (kk : ∀ (p2 : Addr) (H' : Hp), KeepB (Bs l k m) H6 H' → H' p2 = some (.tup [.str tag, x]) → ¬ Bs l k m p2 → (∃ t' ns', Wd CK CSt CSi T H' l k m a rs n t' u ns') → Q (.ref p2) H') :
    LamX.tLam T (TTc K (ECs BC BS BW BA BN)) (fun E => tMeth CK "lost" (spLost (K := K) CK CSt CSi BA) [] E (tVar 1) (tCons (tVar 5) tNil)) σ H6 Q := by
  refine ⟨M.tabs, fun H14 eN T14 => ?_⟩
  have M14 := M.ext (extX eN) T14
  have kb14 : KeepB (Bs l k m) H6 H14 := (extX eN).kb
  obtain ⟨dk, s0k, tak, tbk, fk, zk, hk14, _, _, _, _, _, hnm14, _, _⟩ := M14.keep.ex
  refine ⟨_, h1, k, dk, fk, rfl, hk14, hnm14 _ (by decide), _, h5, k, a, rs, t, u, ns, v, o, rfl, M14.keep, hv H14 kb14, ?_, ?_⟩
  · intro z hz H2 sx hK
    obtain ⟨rfl, rfl, rfl, rfl⟩ := c1 z hz
    have M2 : Mid CK CSt CSi T H2 l k m a rs n (t + 1) u (ns.filter fun m => decide (m ≠ z)) (t + 1) (ns.filter fun m => decide (m ≠ z)) := (M14.kept sx hK).elim id (fun e => absurd rfl e)
    refine ⟨(by show 2 ≤ sizeLine; decide), fun p hp => ?_⟩
    have su := Same.upd (o := .tup [.str "told", .non]) hp
    exact kk p _ (kb14.trans ((SameX.kb sx (.inr (.inl rfl))).trans (Same.kb su))) upd_same (fun b => M2.out p b hp) ⟨_, _, (M2.same su).fin W0 (List.length_filter_le _ _)⟩
  · intro hz H2 d s2 hd
    obtain ⟨rfl, rfl, rfl, rfl⟩ := c0 hz
    have Mb : ∀ p, H2 p = none → Q (.ref p) (L2.upd H2 p (.tup [.str "ask", x])) := fun p hp => by
      have su := Same.upd (o := .tup [.str "ask", x]) hp
      exact kk p _ (kb14.trans ((Same.kb s2).trans (Same.kb su))) upd_same (fun b => (M14.same s2).out p b hp) ⟨_, _, ((M14.same s2).same su).fin W0 (Nat.le_refl _)⟩
    refine ⟨false, D.exm 3 0 _ _ rfl rfl, (fun q => nomatch q), fun _ => ?_⟩
    refine ⟨false, D.exm 3 1 _ _ rfl rfl, (fun q => nomatch q), fun _ => ?_⟩
    refine ⟨false, D.exm 3 2 _ _ rfl rfl, (fun q => nomatch q), fun _ => ?_⟩
    exact ⟨true, D.exm 3 3 _ _ rfl rfl, fun _ => ⟨rfl, d, x, rfl, hd, Mb⟩, (fun q => nomatch q)⟩
theorem wait_call (D : LDefs P w K mg base CK CSt CSi CS BC BS BW BA BN CE) {σ : L2.St} {H0 H6 : Hp} {n0 t0 : Int} {tag : Str} {x v : V} (W0 : Wd CK CSt CSi T H0 l k m a rs n0 t0 u ns) (M : Mid CK CSt CSi T H6 l k m a rs n t u ns tm nm)
    (h1 : σ[1]? = some (some (.ref k))) (h8 : σ[8]? = some (some v)) (en : nm = ns)
    (hv : (∃ z, v = .int z ∧ 1 ≤ z ∧ z ≤ 1000 ∧ tag = "told" ∧ x = .non ∧ tm = t + z) ∨ ((∀ H2, KeepB (Bs l k m) H6 H2 → NoInt K H2 v ∨ ∃ z, v = .int z ∧ ¬ (1 ≤ z ∧ z ≤ 1000)) ∧ tag = "count" ∧ x = v ∧ tm = t))
    (Q : VK) (kk : ∀ (p2 : Addr) (H' : Hp), KeepB (Bs l k m) H6 H' → H' p2 = some (.tup [.str tag, x]) → ¬ Bs l k m p2 → (∃ t' ns', Wd CK CSt CSi T H' l k m a rs n t' u ns') → Q (.ref p2) H') :
    LamX.tLam T (TTc K (ECs BC BS BW BA BN)) (fun E => tMeth CK "wait" (spWait (K := K) CK CSt CSi BN) [] E (tVar 1) (tCons (tVar 8) tNil)) σ H6 Q := by
  subst en
  refine ⟨M.tabs, fun H14 eN T14 => ?_⟩
  have M14 := M.ext (extX eN) T14
  have kb14 : KeepB (Bs l k m) H6 H14 := (extX eN).kb
  obtain ⟨dk, s0k, tak, tbk, fk, zk, hk14, _, _, _, _, _, hnm14, _, _⟩ := M14.keep.ex
  refine ⟨_, h1, k, dk, fk, rfl, hk14, hnm14 _ (by decide), _, h8, k, a, rs, t, u, nm, v, rfl, M14.keep, ?_⟩
  rcases hv with ⟨z, rfl, z1, z2, rfl, rfl, rfl⟩ | ⟨hno, rfl, rfl, rfl⟩
  · refine .inl ⟨z, rfl, z1, z2, fun H2 sx hK => ?_⟩
    have M2 : Mid CK CSt CSi T H2 l k m a rs n (t + z) u nm (t + z) nm := (M14.kept sx hK).elim id (fun e => absurd rfl e)
    refine ⟨(by show 2 ≤ sizeLine; decide), fun p hp => ?_⟩
    have su := Same.upd (o := .tup [.str "told", .non]) hp
    exact kk p _ (kb14.trans ((SameX.kb sx (.inr (.inl rfl))).trans (Same.kb su))) upd_same (fun b => M2.out p b hp) ⟨_, _, (M2.same su).fin W0 (Nat.le_refl _)⟩
  · refine .inr ⟨hno H14 kb14, fun H2 d s2 hd => ?_⟩
    have Mb : ∀ p, H2 p = none → Q (.ref p) (L2.upd H2 p (.tup [.str "count", x])) := fun p hp => by
      have su := Same.upd (o := .tup [.str "count", x]) hp
      exact kk p _ (kb14.trans ((Same.kb s2).trans (Same.kb su))) upd_same (fun b => (M14.same s2).out p b hp) ⟨_, _, ((M14.same s2).same su).fin W0 (Nat.le_refl _)⟩
    refine ⟨false, D.exm 4 0 _ _ rfl rfl, (fun q => nomatch q), fun _ => ?_⟩
    refine ⟨false, D.exm 4 1 _ _ rfl rfl, (fun q => nomatch q), fun _ => ?_⟩
    refine ⟨false, D.exm 4 2 _ _ rfl rfl, (fun q => nomatch q), fun _ => ?_⟩
    refine ⟨false, D.exm 4 3 _ _ rfl rfl, (fun q => nomatch q), fun _ => ?_⟩
    exact ⟨true, D.exm 4 4 _ _ rfl rfl, fun _ => ⟨rfl, d, x, rfl, hd, Mb⟩, (fun q => nomatch q)⟩
/-- what the lost way leaves of its number and its model -/
def LostW (K : PySem.W.Frag) (CK CSt CSi : Addr) (T : List (Addr × Str)) (l k m a : Addr) (rs : List Cp) (n t u : Int) (ns : List Int) (r : Int) (q4 : Addr) (v : V) (H5 : Hp) : L2.St → Hp → Prop := fun σ' H' => ∃ (p : Addr) (tag : Str) (x : V) (d : PyData) (o : Option Int) (tm : Int) (nm : List Int),
  σ' = [some (.ref l), some (.ref k), some (.ref m), some (.int r), some (.ref q4), some v, some (.ref p), none, none] ∧ KeepB (Bs l k m) H5 H' ∧ H' p = some (.tup [.str tag, x]) ∧ ¬ Bs l k m p ∧ Dr (Bs l k m) H' x d ∧ Shw (.tuple [.str tag, d]) ∧ Mid CK CSt CSi T H' l k m a rs n t u ns tm nm ∧
  (∀ H2, KeepB (Bs l k m) H' H2 → NumV K H2 ns v o) ∧ (o = none → tag = "ask" ∧ x = v ∧ tm = t ∧ nm = ns) ∧ (∀ z, o = some z → tag = "told" ∧ x = .non ∧ tm = t + 1 ∧ nm = ns.filter fun m => decide (m ≠ z))
def WaitW (K : PySem.W.Frag) (CK CSt CSi : Addr) (T : List (Addr × Str)) (l k m a : Addr) (rs : List Cp) (n t u : Int) (ns : List Int) (r : Int) (v : V) (H5 : Hp) : L2.St → Hp → Prop := fun σ' H' => ∃ (p : Addr) (tag : Str) (x : V) (d : PyData) (tm : Int),
  σ' = [some (.ref l), some (.ref k), some (.ref m), some (.int r), none, none, some (.ref p), none, some v] ∧ KeepB (Bs l k m) H5 H' ∧ H' p = some (.tup [.str tag, x]) ∧ ¬ Bs l k m p ∧ Dr (Bs l k m) H' x d ∧ Shw (.tuple [.str tag, d]) ∧ Mid CK CSt CSi T H' l k m a rs n t u ns tm ns ∧
  ((∃ z, v = .int z ∧ 1 ≤ z ∧ z ≤ 1000 ∧ tag = "told" ∧ x = .non ∧ tm = t + z) ∨ ((∀ H2, KeepB (Bs l k m) H' H2 → NoInt K H2 v ∨ ∃ z, v = .int z ∧ ¬ (1 ≤ z ∧ z ≤ 1000)) ∧ tag = "count" ∧ x = v ∧ tm = t))
theorem wait_read {B : Addr → Prop} {C : Hp → Prop} {σ : L2.St} (c : Cnd B C) : ItemsS C σ (I0 B) (tCons (tC (.int 1)) (tCons (tC (.int 2)) (tCons (tC (.int 1000)) (tCons (tC (.int 0)) (tCons (tC (.int 1001)) (tCons (tUn (rU fun i => .int (-i)) (tC (.int 1))) (tCons (tC (.bl true)) (tCons (tC .non) (tCons (tC (.str "1"))
    (tCons (tTup (tCons (tC (.int 1)) tNil)) (tCons (tOp (rI CPow fun i j => .int (i ^ j.toNat)) (tC (.int 10)) (tC (.int 30))) (tCons (tC (.int 7)) tNil)))))))))))) 12 := by
  have pm : ∀ {H H' : Hp} {v : V}, I0 B H v → Same H H' → I0 B H' v := fun h s => h.kb (Same.kb s)
  refine ItemsS.cons c pm ?_ (ItemsS.cons c pm ?_ (ItemsS.cons c pm ?_ (ItemsS.cons c pm ?_ (ItemsS.cons c pm ?_ (ItemsS.cons c pm ?_ (ItemsS.cons c pm ?_ (ItemsS.cons c pm ?_ (ItemsS.cons c pm ?_ (ItemsS.cons c pm ?_ (ItemsS.cons c pm ?_ (ItemsS.cons c pm ?_ ItemsS.nil)))))))))))
  · exact LitS.item LitS.int (Rm.of (by decide +kernel))
  · exact LitS.item LitS.int (Rm.of (by decide +kernel))
  · exact LitS.item LitS.int (Rm.of (by decide +kernel))
  · exact LitS.item LitS.int (Rm.of (by decide +kernel))
  · exact LitS.item LitS.int (Rm.of (by decide +kernel))
  · exact LitS.item LitS.neg (Rm.of (by decide +kernel))
  · exact LitS.item LitS.bl (Rm.of (by decide +kernel))
  · exact LitS.item LitS.non (Rm.of (by decide +kernel))
  · exact LitS.item LitS.str (Rm.of (by decide +kernel))
  · exact LitS.item (LitS.tup c (LitSA.cons c LitS.int LitSA.nil) (by show 1 ≤ 1000; decide)) (Rm.of (by decide +kernel))
  · intro H Q _ kk
    exact ⟨10, 30, rfl, rfl, ⟨by decide, by decide, by decide⟩, kk H _ (Same.refl H) ⟨_, .int _, Rm.int (by decide +kernel)⟩⟩
  · exact LitS.item LitS.int (Rm.of (by decide +kernel))
theorem lost_read {B : Addr → Prop} {C : Hp → Prop} {σ : L2.St} (c : Cnd B C) {u : Int} (hu : u.natAbs < 10 ^ 40) (hm : ∀ (H : Hp) (Q : VK), C H → Q (.int u) H → tOp (rIxL K) (tVar 2) (tC (.int 1)) σ H Q) :
    ItemsS C σ (I0 B) (tCons (tOp (rIxL K) (tVar 2) (tC (.int 1))) (tCons (tUn (rU fun i => .int (-i)) (tC (.int 1))) (tCons (tC (.bl true)) (tCons (tC .non) (tCons (tC (.str "0")) (tCons (tTup (tCons (tC (.int 0)) tNil)) (tCons (tLst (tCons (tC (.int 0)) tNil)) (tCons (tOp (rI CPow fun i j => .int (i ^ j.toNat)) (tC (.int 10)) (tC (.int 20))) tNil)))))))) 8 := by
  have pm : ∀ {H H' : Hp} {v : V}, I0 B H v → Same H H' → I0 B H' v := fun h s => h.kb (Same.kb s)
  refine ItemsS.cons c pm ?_ (ItemsS.cons c pm ?_ (ItemsS.cons c pm ?_ (ItemsS.cons c pm ?_ (ItemsS.cons c pm ?_ (ItemsS.cons c pm ?_ (ItemsS.cons c pm ?_ (ItemsS.cons c pm ?_ ItemsS.nil)))))))
  · intro H Q hc kk
    exact hm H Q hc (kk H _ (Same.refl H) ⟨.int u, .int u, Rm.int hu⟩)
  · exact LitS.item LitS.neg (Rm.of (by decide +kernel))
  · exact LitS.item LitS.bl (Rm.of (by decide +kernel))
  · exact LitS.item LitS.non (Rm.of (by decide +kernel))
  · exact LitS.item LitS.str (Rm.of (by decide +kernel))
  · exact LitS.item (LitS.tup c (LitSA.cons c LitS.int LitSA.nil) (by show 1 ≤ 1000; decide)) (Rm.of (by decide +kernel))
  · exact LitS.item (LitS.lst c (LitSA.cons c LitS.int LitSA.nil) (by show 1 ≤ 1000; decide)) (Rm.of (by decide +kernel))
  · intro H Q _ kk
    exact ⟨10, 20, rfl, rfl, ⟨by decide, by decide, by decide⟩, kk H _ (Same.refl H) ⟨_, .int _, Rm.int (by decide +kernel)⟩⟩
end
end
end Sps
set_option Elab.async false
set_option linter.all false
set_option maxRecDepth 100000
set_option maxHeartbeats 4000000
/-! _law_call_right. -/
namespace Sps
open PySem PySem.Spec PyProof.Rows L2
section
variable {P : Program} {w : World} {K : PySem.W.Frag} {mg : Str → Option Value} {base : Heap} {CK CSt CSi CS BC BS BW BA BN CE : Addr}
abbrev nCr : List Str := ["_law_pot_here", "_law_keeper", "_law_model", "_law_way", "_law_some", "_law_number", "_law_due", "_law_one", "_law_many"]
def spCalled (CK CSt CSi : Addr) (T : List (Addr × Str)) : Sp := fun vs H Q _ => ∃ (l k m a : Addr) (rs : List Cp) (n t u : Int) (ns : List Int), vs = [.ref l, .ref k, .ref m] ∧ Wd CK CSt CSi T H l k m a rs n t u ns ∧ n ≤ 60000 ∧ u ≤ 50 ∧
  ∀ H' t' u' ns', KeepB (Bs l k m) H H' → u' ≤ u + 1 → Wd CK CSt CSi T H' l k m a rs (n + 20) t' u' ns' → Q (.bl true) H'
theorem scCr : FnScope nCr pAs (defScope s__law_call_right) := ⟨rfl, rfl, rfl, by decide +kernel, rfl, by decide +kernel, by decide +kernel⟩
theorem ok_called {f g : Addr} {fd fdG : FuncData} {cA PA : Addr} {T : List (Addr × Str)} (F : Fun K "_law_call_right" "_law_call_right" s__law_call_right f fd) (D : LDefs P w K mg base CK CSt CSi CS BC BS BW BA BN CE) (hcode : fd.code = .ref cA) (TB : LamX.TabB base mg cA PA)
    (hmT : (PA, ("_law_call_right.<locals>.<lambda>" : Str)) ∈ T) (hu : ∀ p ∈ T, p.1 = PA → p.2 = ("_law_call_right.<locals>.<lambda>" : Str)) (hbs : ∃ o, base.get? sysModules = some o)
    (G : FnG P w K mg base 8 g fdG pAs (spAsked K CK CSt CSi T)) (mG : mg "_law_asked_right" = some (.ref g)) (kG : PySem.W.keepIn K (.ref g) = true) (bG : Binds K fdG pAs []) :
    FnG P w K mg base 9 f fd pAs (spCalled CK CSt CSi T) := by
  refine fnG_of F scCr (fun vs H Q E h => ?_) (fun cdv ec A outer s H vs Q E hr hgd h => ?_)
  · obtain ⟨_, _, _, _, _, _, _, _, _, rfl, _⟩ := h
    rfl
  · obtain ⟨l, k, m, a, rs, n, t, u, ns, rfl, W, hn, hu50, h⟩ := h
    have hr1 : Room 1 _ := hr.mono (by decide)
    have hr2 : Room 2 _ := hr.mono (by decide)
    have hr3 : Room 3 _ := hr.mono (by decide)
    have T0 := D.T
    obtain ⟨oc, od, kV, doc, pm, an, cdC, ct, osl, efd, lkC, hcdC⟩ := D.fC.ex
    refine ⟨_, pss_cons (ps_set (i := 3) scCr.nd rfl (Or.inl rfl) (pe_call D.gD hr2 rfl D.mD D.kD D.bD .nil pass0 (pa_cons (pv 0) (pa_cons pe_int pa_nil))))
      (pss_cons (ps_if (PW.pt (pw_and (pt_cmpR op_lt (pv 3) pe_int (nomark _)) (pw_and1 (pt_cmpR op_lt (pe_ix ix_list (pv 2) pe_int (fun _ _ => rfl)) pe_int (nomark _)))))
          (pss_one (ps_ret (pe_callG G hr hgd rfl mG kG bG (pa_cons (pv 0) (pa_cons (pv 1) (pa_cons (pv 2) pa_nil)))))) pss_nil)
      (pss_cons (ps_if (pt_cmpR op_lt (pv 3) pe_int (nomark _))
          (pss_cons (ps_set (i := 4) scCr.nd rfl (Or.inl rfl) (pe_op op_cat (pe_op op_rep (pe_ix ix_list (pv 2) pe_int (fun _ _ => rfl)) pe_int)
              (pe_lst (pa_cons (pe_ix ix_list (pv 2) pe_int (fun _ _ => rfl)) (pa_cons (pe_un un_neg pe_int) (pa_cons pe_bl (pa_cons pe_non (pa_cons pe_str (pa_cons (pe_tup (pa_cons pe_int pa_nil)) (pa_cons (pe_lst (pa_cons pe_int pa_nil)) (pa_cons (pe_op op_pow pe_int pe_int) pa_nil)))))))))))
          (pss_cons (ps_set (i := 5) scCr.nd rfl (Or.inr rfl) (pe_call D.gA hr3 rfl D.mA D.kA D.bA .nil pass0 (pa_cons (pv 0) (pa_cons (pv 4) pa_nil))))
          (pss_cons (ps_set (i := 6) scCr.nd rfl (Or.inl rfl) (pe_tup (pa_cons pe_str (pa_cons (pv 5) pa_nil))))
          (pss_cons (ps_if (PW.pt (pw_and (pt_val (pe_call D.gN hr1 rfl D.mN D.kN D.bN .nil pass0 (pa_cons (pv 5) (pa_cons pe_int (pa_cons pe_int pa_nil))))) (pw_and1 (pt_cmpR op_in_seq (pv 5) (pe_ix ix_list (pv 2) pe_int (fun _ _ => rfl)) (by with_unfolding_all rfl)))))
              (pss_cons (ps_asg (pe_tup (pa_cons (pe_tup (pa_cons pe_str (pa_cons pe_non pa_nil))) (pa_cons (pe_op op_add (pe_ix ix_list (pv 2) pe_int (fun _ _ => rfl)) pe_int) pa_nil))) (pg_tup rfl (pgs_cons (pg_name (i := 6) scCr.nd rfl (Or.inl rfl)) (pgs_cons (pg_sub (pv 2) pe_int set_list) pgs_nil))))
              (pss_one (ps_asg (pe_lc (own := [("_law_one", 7)]) (g := gName 7) (tt := tTest (tOp rNe (tVar 7) (tVar 5))) rfl scCr.nd (pi_list (pe_ix ix_list (pv 2) pe_int (fun _ _ => rfl))) (blkOk_by (own := [("_law_one", 7)]) (N := nCr) (sc := defScope s__law_call_right) (by decide +kernel))
                  (fun _ _ _ _ _ => pg_name (i := 7) scCr.nd rfl (Or.inl rfl)) (fun _ _ _ _ _ => pts_one (pt_cmpR op_ne (pv 7) (pv 5) (nomark _))) (fun _ _ _ _ _ => pv 7)) (pg_sub (pv 2) pe_int set_list)))) pss_nil)
          (pss_one (ps_ret (pe_cmpR op_eq (pe_callB (call_reprD (B := Bs l k m) hgd hr.units hbs) (by rfl) T0.repr (by decide +kernel) (pa_cons (LamX.pe_lamcall (k := 6) (T := T) (t := fun E => tMeth CK "lost" (spLost (K := K) CK CSt CSi BA) [] E (tVar 1) (tCons (tVar 5) tNil)) rfl D.mC D.kC (by rw [← efd]; exact lkC) hcdC (by rw [← efd]; exact D.bC) scCaught rfl (.inl rfl)
                (caught_gives D.h1 D.h2 D.h3 D.h4 D.h5 D.h6) TB (by show cdv = _; rw [← ec]; exact hcode) hmT hu hr (LamX.lamS_by (sc := defScope s__law_call_right) (by decide +kernel)) rfl (fun _ _ _ _ _ => rfl)
                (fun A outer s H E f c' hrr => pe_meth (pv 1) D.clK D.oLo D.gLo (hrr.mono (by decide)) D.bLo .nil (passes_call (takes_of rfl rfl rfl rfl) fun _ _ _ _ h => h) (pa_cons (pv 5) pa_nil))) pa_nil))
              (pe_callB (call_reprD (B := Bs l k m) hgd hr.units hbs) (by rfl) T0.repr (by decide +kernel) (pa_cons (pv 6) pa_nil)) (nomark _)))))))) pss_nil)
      (pss_cons (ps_set (i := 8) scCr.nd rfl (Or.inr rfl) (pe_call D.gA hr3 rfl D.mA D.kA D.bA .nil pass0 (pa_cons (pv 0) (pa_cons (pe_lst (pa_cons pe_int (pa_cons pe_int (pa_cons pe_int (pa_cons pe_int (pa_cons pe_int (pa_cons (pe_un un_neg pe_int) (pa_cons pe_bl (pa_cons pe_non (pa_cons pe_str (pa_cons (pe_tup (pa_cons pe_int pa_nil)) (pa_cons (pe_op op_pow pe_int pe_int) (pa_cons pe_int pa_nil))))))))))))) pa_nil))))
      (pss_cons (ps_set (i := 6) scCr.nd rfl (Or.inl rfl) (pe_tup (pa_cons pe_str (pa_cons (pv 8) pa_nil))))
      (pss_cons (ps_if (pt_val (pe_call D.gN hr1 rfl D.mN D.kN D.bN .nil pass0 (pa_cons (pv 8) (pa_cons pe_int (pa_cons pe_int pa_nil)))))
          (pss_one (ps_asg (pe_tup (pa_cons (pe_tup (pa_cons pe_str (pa_cons pe_non pa_nil))) (pa_cons (pe_op op_add (pe_ix ix_list (pv 2) pe_int (fun _ _ => rfl)) (pv 8)) pa_nil))) (pg_tup rfl (pgs_cons (pg_name (i := 6) scCr.nd rfl (Or.inl rfl)) (pgs_cons (pg_sub (pv 2) pe_int set_list) pgs_nil))))) pss_nil)
      (pss_one (ps_ret (pe_cmpR op_eq (pe_callB (call_reprD (B := Bs l k m) hgd hr.units hbs) (by rfl) T0.repr (by decide +kernel) (pa_cons (LamX.pe_lamcall (k := 6) (T := T) (t := fun E => tMeth CK "wait" (spWait (K := K) CK CSt CSi BN) [] E (tVar 1) (tCons (tVar 8) tNil)) rfl D.mC D.kC (by rw [← efd]; exact lkC) hcdC (by rw [← efd]; exact D.bC) scCaught rfl (.inl rfl)
                (caught_gives D.h1 D.h2 D.h3 D.h4 D.h5 D.h6) TB (by show cdv = _; rw [← ec]; exact hcode) hmT hu hr (LamX.lamS_by (sc := defScope s__law_call_right) (by decide +kernel)) rfl (fun _ _ _ _ _ => rfl)
                (fun A outer s H E f c' hrr => pe_meth (pv 1) D.clK D.oWt D.gWt (hrr.mono (by decide)) D.bWt .nil (passes_call (takes_of rfl rfl rfl rfl) fun _ _ _ _ h => h) (pa_cons (pv 8) pa_nil))) pa_nil))
              (pe_callB (call_reprD (B := Bs l k m) hgd hr.units hbs) (by rfl) T0.repr (by decide +kernel) (pa_cons (pv 6) pa_nil)) (nomark _))))))))), ?_⟩
    have eB : ∀ {b : Addr}, ¬ Bs l k m b → b ≠ l ∧ b ≠ k ∧ b ≠ m := fun h => ⟨fun e => h (.inl e), fun e => h (.inr (.inl e)), fun e => h (.inr (.inr e))⟩
    have pm : ∀ {H H' : Hp} {v : V}, I0 (Bs l k m) H v → Same H H' → I0 (Bs l k m) H' v := fun h s => h.kb (Same.kb s)
    refine ⟨_, rfl, l, 6, n, rfl, W.pot, by omega, by decide, by decide, fun H1 r x1 p1 r0 r6 => ?_⟩
    have W1 := W.draw x1 p1
    have kb1 : KeepB (Bs l k m) H H1 := SameX.kb x1 (.inl rfl)
    obtain ⟨lm, m1, m2, m3, m4⟩ := W1.mod
    refine nx_of ?_
    dsimp only
    refine seq_join (fun σ' H' => σ' = [some (.ref l), some (.ref k), some (.ref m), some (.int r), none, none, none, none, none] ∧ H' = H1) (fun σ2 H2 hW => ?_) (fun kk => ?_)
    case refine_2 =>
      refine ⟨_, rfl, _, _, rfl, rfl, _, rfl, ?_⟩
      refine ite2 (fun c => ?_) (fun c => kk _ _ ⟨rfl, rfl⟩)
      refine ⟨_, rfl, m, _, 1, _, rfl, rfl, SqL.of m1, atI_nat (j := 1) rfl, _, _, rfl, rfl, _, rfl, ?_⟩
      refine ite2 (fun c2 => ?_) (fun c2 => kk _ _ ⟨rfl, rfl⟩)
      refine ⟨_, rfl, _, rfl, _, rfl, l, k, m, a, rs, n + 1, t, u, ns, rfl, W1, by omega, by omega, fun H' t' u' ns' kb hu W' => ?_⟩
      exact h H' t' u' ns' (kb1.trans kb) hu (W'.mono (by omega))
    obtain ⟨rfl, rfl⟩ := hW
    refine seq_join (fun σ' H' => σ' = [some (.ref l), some (.ref k), some (.ref m), some (.int r), none, none, none, none, none] ∧ H' = H2) (fun σ3 H3 hW => ?_) (fun kk => ?_)
    case refine_2 =>
      refine ⟨_, rfl, _, _, rfl, rfl, _, rfl, ?_⟩
      refine ite2 (fun c => ?_) (fun c => kk _ _ ⟨rfl, rfl⟩)
      have c1 := W1.cnd
      refine ⟨_, rfl, m, _, 2, _, rfl, rfl, SqL.of m1, atI_nat (j := 2) rfl, lm, 3, _, rfl, rfl, m2, by decide, by decide, ?_, fun p1 hp1 => ?_⟩
      · rw [List.length_map]
        have := W.nsu
        exact Nat.le_trans (Nat.mul_le_mul_right _ (by omega : ns.length ≤ 50)) (by decide)
      have s2 : Same H2 (L2.upd H2 p1 (.lst (List.replicate (3 : Int).toNat (ns.map V.int)).flatten)) := Same.upd hp1
      have W2 := W1.same s2
      have hp1' : (L2.upd H2 p1 (.lst (List.replicate (3 : Int).toNat (ns.map V.int)).flatten)) p1 = some (.lst (List.replicate (3 : Int).toNat (ns.map V.int)).flatten) := upd_same
      generalize L2.upd H2 p1 (.lst (List.replicate (3 : Int).toNat (ns.map V.int)).flatten) = H3 at s2 W2 hp1'
      have c3 := W2.cnd
      have un : u.natAbs < 10 ^ 40 := Nat.lt_of_le_of_lt (by have := W.u0; omega : u.natAbs ≤ 50) (by decide)
      refine ItemsS.lst (P := I0 (Bs l k m)) (C := Same H3) (n := 8) pm (lost_read c3 un (fun H Q hc q => ⟨_, rfl, m, _, 1, _, rfl, rfl, SqL.of (hc _ _ (s2 _ _ m1)), atI_nat (j := 1) rfl, q⟩)) (by decide) H3 _ (Same.refl H3) fun H4 q3 vs3 s3 hq3 hQ3 hl3 hi3 => ?_
      have W3 := W2.same s3
      have efl : (List.replicate (3 : Int).toNat (ns.map V.int)).flatten.length = 3 * ns.length := by
        have aux : ∀ xs : List V, (List.replicate (3 : Int).toNat xs).flatten.length = 3 * xs.length := fun xs => by
          show (xs ++ (xs ++ (xs ++ []))).length = _
          simp only [List.length_append, List.length_nil]
          omega
        rw [aux, List.length_map]
      have nl : ns.length ≤ 50 := by have := W.nsu; omega
      refine ⟨p1, q3, _, _, rfl, rfl, s3 _ _ hp1', hQ3, by rw [efl, hl3]; exact Nat.le_trans (by omega : 3 * ns.length + 8 ≤ 158) (by decide), fun r3 hr3 => ?_⟩
      have s4 : Same H4 (L2.upd H4 r3 (.lst ((List.replicate (3 : Int).toNat (ns.map V.int)).flatten ++ vs3))) := Same.upd hr3
      have hr4 : (L2.upd H4 r3 (.lst ((List.replicate (3 : Int).toNat (ns.map V.int)).flatten ++ vs3))) r3 = some (.lst ((List.replicate (3 : Int).toNat (ns.map V.int)).flatten ++ vs3)) := upd_same
      have nr3 := W3.cnd.fresh (Same.refl H4) hr3
      have W4 := W3.same s4
      obtain ⟨_, _, _, _, _, z0, _, _, _, hS0, _, ezu0, _⟩ := W.keep.ex
      have low : ∀ q ∈ ns, 0 ≤ q ∧ q ≤ 50 := fun q mq => by
        obtain ⟨a0, b0⟩ := hS0.low q mq
        have : z0.up = u := ezu0
        omega
      have items4 : ∀ x ∈ (List.replicate (3 : Int).toNat (ns.map V.int)).flatten ++ vs3, I0 (Bs l k m) (L2.upd H4 r3 (.lst ((List.replicate (3 : Int).toNat (ns.map V.int)).flatten ++ vs3))) x := fun x mx => by
        rcases List.mem_append.mp mx with q | q
        · obtain ⟨l2, ml2, mx2⟩ := List.mem_flatten.mp q
          have el2 := List.eq_of_mem_replicate ml2
          rw [el2] at mx2
          obtain ⟨z, mz, rfl⟩ := List.mem_map.mp mx2
          exact ⟨.int z, .int z, Rm.int (Nat.lt_of_le_of_lt (by have := low z mz; omega : z.natAbs ≤ 50) (by decide))⟩
        · exact pm (hi3 x q) s4
      generalize L2.upd H4 r3 (.lst ((List.replicate (3 : Int).toNat (ns.map V.int)).flatten ++ vs3)) = H5 at s4 W4 hr4 items4
      refine nx_of ?_
      dsimp only
      refine ⟨_, rfl, _, rfl, l, n + 1, _, rfl, W4.pot, by omega, .inl ⟨r3, _, rfl, (eB nr3).1, hr4, by rw [List.length_append, efl, hl3]; omega, by rw [List.length_append, efl, hl3]; omega, fun H6 v x6 hp6 mc => ?_⟩⟩
      have W5 := W4.draw x6 hp6
      have iv : I0 (Bs l k m) H6 v := (items4 v mc).kb (SameX.kb x6 (.inl rfl))
      have kb6 : KeepB (Bs l k m) H H6 := (((kb1.trans (Same.kb s2)).trans (Same.kb s3)).trans (Same.kb s4)).trans (SameX.kb x6 (.inl rfl))
      obtain ⟨dv, qv, rv⟩ := iv
      refine nx_of ?_
      dsimp only
      refine ⟨_, rfl, (by show 2 ≤ sizeLine; decide), fun pd hpd => ?_⟩
      have s7 := Same.upd (o := .tup [.str "ask", v]) hpd
      have W6 := W5.same s7
      have hpd' : (L2.upd H6 pd (.tup [.str "ask", v])) pd = some (.tup [.str "ask", v]) := upd_same
      have npd := W5.cnd.fresh (Same.refl H6) hpd
      generalize L2.upd H6 pd (.tup [.str "ask", v]) = H7 at s7 W6 hpd'
      have qv7 := qv.go (Same.kb (B := Bs l k m) s7)
      refine nx_of ?_
      dsimp only
      refine seq_join (LostW K CK CSt CSi T l k m a rs (n + 1 + 1) t u ns r r3 v H6) (fun σ4 H8 hW => ?_) (fun kk2 => ?_)
      case refine_2 =>
        have bad : (∀ H2, KeepB (Bs l k m) H7 H2 → NumV K H2 ns v none) → LostW K CK CSt CSi T l k m a rs (n + 1 + 1) t u ns r r3 v H6 [some (.ref l), some (.ref k), some (.ref m), some (.int r), some (.ref r3), some v, some (.ref pd), none, none] H7 := fun hn =>
          ⟨pd, "ask", v, dv, none, t, ns, rfl, Same.kb s7, hpd', npd, qv7, rv.pair (by decide) (by decide +kernel), W6.mid, hn, fun _ => ⟨rfl, rfl, rfl, rfl⟩, fun _ q => by cases q⟩
        by_cases ei : ∃ z, v = .int z
        · obtain ⟨z, rfl⟩ := ei
          refine ⟨_, rfl, _, 0, 60, rfl, .inl ⟨z, rfl, _, rfl, ite2 (fun c => ?_) (fun c => ?_)⟩⟩
          · obtain ⟨lm6, g1, g2, g3, g4⟩ := W6.mod
            refine ⟨_, rfl, _, rfl, m, _, 2, _, rfl, rfl, SqL.of g1, atI_nat (j := 2) rfl, lm6, _, rfl, .inl (SqL.of g2), rfl, flat_int _, _, rfl, ?_⟩
            rw [inV_int]
            refine ite2 (fun c2 => ?_) (fun c2 => ?_)
            · have mz : z ∈ ns := by simpa using c2
              -- the model goes on
              refine ⟨(by show 2 ≤ sizeLine; decide), fun p hp => ?_⟩
              have s8 := Same.upd (o := .tup [.str "told", .non]) hp
              have ep : (L2.upd H7 p (.tup [.str "told", .non])) p = some (.tup [.str "told", .non]) := upd_same
              have np := W6.cnd.fresh (Same.refl H7) hp
              generalize L2.upd H7 p (.tup [.str "told", .non]) = H8 at s8 ep
              refine ⟨_, rfl, m, _, 0, _, rfl, rfl, SqL.of (s8 _ _ g1), atI_nat (j := 0) rfl, _, _, rfl, rfl, (by show 2 ≤ sizeLine; decide), fun pt hpt => ?_⟩
              have s9 := Same.upd (o := .tup [.ref p, .int (t + 1)]) hpt
              have et : (L2.upd H8 pt (.tup [.ref p, .int (t + 1)])) pt = some (.tup [.ref p, .int (t + 1)]) := upd_same
              generalize L2.upd H8 pt (.tup [.ref p, .int (t + 1)]) = H9 at s9 et
              have W9 := (W6.same s8).same s9
              have ep9 := s9 _ _ ep
              refine ⟨pt, _, rfl, tupAt et, rfl, _, _, rfl, ?_⟩
              refine nx_of ?_
              dsimp only
              have e9 := (s8.trans s9) _ _ g1
              have f9 := (s8.trans s9) _ _ g2
              refine ⟨_, _, rfl, _, rfl, m, _, 0, 0, rfl, rfl, e9, (by show ixN 3 0 = some 0; decide +kernel), rfl, ?_⟩
              have x1 : SameX m H9 (L2.upd H9 m (.lst ([V.int t, V.int u, V.ref lm6].set 0 (V.int (t + 1))))) := SameX.upd
              have em : (L2.upd H9 m (.lst ([V.int t, V.int u, V.ref lm6].set 0 (V.int (t + 1))))) m = some (.lst [.int (t + 1), .int u, .ref lm6]) := upd_same
              have fm := x1 _ _ g4 f9
              generalize L2.upd H9 m (.lst ([V.int t, V.int u, V.ref lm6].set 0 (V.int (t + 1)))) = H10 at x1 em fm
              refine ⟨_, rfl, m, _, 2, _, rfl, rfl, SqL.of em, atI_nat (j := 2) rfl, lm6, rfl, ⟨_, SqL.of fm⟩, fun D1 hD => lc_list (xs := ns.map V.int) (fun i H' => Same H10 H' ∧ H' D1 = some (.lst (((ns.take i).filter fun q => decide (q ≠ z)).map V.int))) ⟨Same.upd hD, upd_same⟩ (fun i H' _ pv => SqL.of (pv.1 _ _ fm)) (fun i x H' hx pv => ?_) (fun H' pv => ?_)⟩
              · rw [List.getElem?_map] at hx
                obtain ⟨q, hq, rfl⟩ : ∃ q, ns[i]? = some q ∧ V.int q = x := by
                  cases e : ns[i]? with
                  | none => rw [e] at hx; cases hx
                  | some q => rw [e] at hx; exact ⟨q, rfl, Option.some.inj hx⟩
                have tk : ns.take (i + 1) = ns.take i ++ [q] := by rw [List.take_succ, hq]; rfl
                refine ⟨rfl, _, rfl, _, rfl, rfl, _, rfl, ?_⟩
                refine ite2 (fun e => ?_) (fun e => ?_)
                · have ne : q ≠ z := fun e2 => by rw [e2] at e; simp at e
                  refine ⟨_, rfl, _, pv.2, ?_, fun b o e => ?_, ?_⟩
                  · rw [List.length_map]
                    refine Nat.lt_of_le_of_lt (List.length_filter_le _ _) (Nat.lt_of_le_of_lt (List.length_take_le' i ns) (Nat.lt_of_le_of_lt nl (by decide)))
                  · rw [upd_ne (ne_of_none e hD)]
                    exact pv.1 b o e
                  · rw [tk, List.filter_append, List.map_append]
                    simp [ne]
                    exact upd_same
                · have eq : q = z := by
                    by_cases e2 : q = z
                    · exact e2
                    · exact absurd (by simp [e2]) e
                  refine ⟨pv.1, ?_⟩
                  rw [tk, List.filter_append]
                  simp [eq]
                  simpa using pv.2
              · obtain ⟨sD, eD⟩ := pv
                rw [List.length_map, List.take_length] at eD
                have nDm : D1 ≠ m := fun e => by rw [e, em] at hD; cases hD
                have nDl : D1 ≠ l := fun e => by
                  obtain ⟨_, _, _, q, _⟩ := W9.pot
                  have := x1 _ _ W.nlm q
                  rw [e, this] at hD; cases hD
                refine ⟨_, rfl, m, _, 2, 2, rfl, rfl, sD _ _ em, (by show ixN 3 2 = some 2; decide +kernel), ?_⟩
                have x2 : SameX m H9 (L2.upd H' m (.lst ([V.int (t + 1), V.int u, V.ref lm6].set 2 (V.ref D1)))) := (x1.trans (Same.x sD m)).trans SameX.upd
                have em2 : (L2.upd H' m (.lst ([V.int (t + 1), V.int u, V.ref lm6].set 2 (V.ref D1)))) m = some (.lst [.int (t + 1), .int u, .ref D1]) := upd_same
                have eD2 : (L2.upd H' m (.lst ([V.int (t + 1), V.int u, V.ref lm6].set 2 (V.ref D1)))) D1 = some (.lst ((ns.filter fun q => decide (q ≠ z)).map V.int)) := by rw [upd_ne nDm]; exact eD
                generalize L2.upd H' m (.lst ([V.int (t + 1), V.int u, V.ref lm6].set 2 (V.ref D1))) = H11 at x2 em2 eD2
                have kl : KeepL m H9 H11 := ⟨⟨_, e9⟩, x2⟩
                refine kk2 _ _ ⟨p, "told", .non, .none, some z, t + 1, ns.filter fun q => decide (q ≠ z), rfl, ((Same.kb s7).trans ((Same.kb s8).trans (Same.kb s9))).trans (SameX.kb x2 (.inr (.inr rfl))), x2 _ _ (eB np).2.2 ep9, np, .non, (Rm.of (by decide +kernel)).pair (by decide) (by decide +kernel), W9.mid.lw W.nlm kl ⟨D1, em2, eD2, nDl, nDm⟩, fun H2 _ => .yes z mz, (fun q => by cases q), fun y q => ?_⟩
                cases q
                exact ⟨rfl, rfl, rfl, rfl⟩
            · have nz : z ∉ ns := fun q => c2 (by simpa using q)
              exact kk2 _ _ (bad fun H2 _ => .out z nz)
          · refine kk2 _ _ (bad fun H2 _ => .out z fun q => c ?_)
            obtain ⟨a0, b0⟩ := low z q
            rw [decide_eq_true a0, decide_eq_true (by omega : z ≤ 60)]
            rfl
        · have ni : ∀ H2, KeepB (Bs l k m) H7 H2 → NoInt K H2 v := fun H2 s => (qv7.go s).noInt fun i e => ei ⟨i, e⟩
          refine ⟨_, rfl, _, 0, 60, rfl, .inr ⟨ni H7 (KeepB.refl _ _), _, rfl, iteF ?_⟩⟩
          exact kk2 _ _ (bad fun H2 s => .no (ni H2 s))
      obtain ⟨p, tag, x, d, o, tm, nm, rfl, kb8, hp8, np8, hd8, sh, M8, hv, c0, cs⟩ := hW
      refine told_end rfl hp8 np8 hd8 sh (fun H' => ∃ t' ns', Wd CK CSt CSi T H' l k m a rs (n + 1 + 1) t' u ns') (fun H' kb ⟨t', ns', W'⟩ => h H' t' u ns' (kb6.trans (kb8.trans kb)) (by omega) (W'.mono (by omega))) (fun Q kk3 => ?_)
      exact lost_call D W5 M8 rfl rfl hv c0 cs Q kk3
    obtain ⟨rfl, rfl⟩ := hW
    have c1 := W1.cnd
    refine ⟨_, rfl, ?_⟩
    refine ItemsS.lst (P := I0 (Bs l k m)) (C := Same H3) (n := 12) pm (wait_read c1) (by decide) H3 _ (Same.refl H3) fun H4 q3 vs3 s3 hq3 hQ3 hl3 hi3 => ?_
    have W3 := W1.same s3
    have nq3 := c1.fresh (Same.refl H3) hq3
    refine ⟨l, n + 1, _, rfl, W3.pot, by omega, .inl ⟨q3, _, rfl, (eB nq3).1, hQ3, by omega, by omega, fun H6 v x6 hp6 mc => ?_⟩⟩
    have W5 := W3.draw x6 hp6
    have iv : I0 (Bs l k m) H6 v := (hi3 v mc).kb (SameX.kb x6 (.inl rfl))
    have kb6 : KeepB (Bs l k m) H H6 := (kb1.trans (Same.kb s3)).trans (SameX.kb x6 (.inl rfl))
    obtain ⟨dv, qv, rv⟩ := iv
    refine nx_of ?_
    dsimp only
    refine ⟨_, rfl, (by show 2 ≤ sizeLine; decide), fun pd hpd => ?_⟩
    have s7 := Same.upd (o := .tup [.str "count", v]) hpd
    have W6 := W5.same s7
    have hpd' : (L2.upd H6 pd (.tup [.str "count", v])) pd = some (.tup [.str "count", v]) := upd_same
    have npd := W5.cnd.fresh (Same.refl H6) hpd
    generalize L2.upd H6 pd (.tup [.str "count", v]) = H7 at s7 W6 hpd'
    have qv7 := qv.go (Same.kb (B := Bs l k m) s7)
    refine nx_of ?_
    dsimp only
    refine seq_join (WaitW K CK CSt CSi T l k m a rs (n + 1 + 1) t u ns r v H6) (fun σ4 H8 hW => ?_) (fun kk2 => ?_)
    case refine_2 =>
      have bad : (∀ H2, KeepB (Bs l k m) H7 H2 → NoInt K H2 v ∨ ∃ z, v = .int z ∧ ¬ (1 ≤ z ∧ z ≤ 1000)) → WaitW K CK CSt CSi T l k m a rs (n + 1 + 1) t u ns r v H6 [some (.ref l), some (.ref k), some (.ref m), some (.int r), none, none, some (.ref pd), none, some v] H7 := fun hn =>
        ⟨pd, "count", v, dv, t, rfl, Same.kb s7, hpd', npd, qv7, rv.pair (by decide) (by decide +kernel), W6.mid, .inr ⟨hn, rfl, rfl, rfl⟩⟩
      by_cases ei : ∃ z, v = .int z
      · obtain ⟨z, rfl⟩ := ei
        refine ⟨_, rfl, _, 1, 1000, rfl, .inl ⟨z, rfl, _, rfl, ite2 (fun c => ?_) (fun c => ?_)⟩⟩
        · obtain ⟨z1, z2⟩ : 1 ≤ z ∧ z ≤ 1000 := by simpa using c
          obtain ⟨lm6, g1, g2, g3, g4⟩ := W6.mod
          refine ⟨(by show 2 ≤ sizeLine; decide), fun p hp => ?_⟩
          have s8 := Same.upd (o := .tup [.str "told", .non]) hp
          have ep : (L2.upd H7 p (.tup [.str "told", .non])) p = some (.tup [.str "told", .non]) := upd_same
          have np := W6.cnd.fresh (Same.refl H7) hp
          generalize L2.upd H7 p (.tup [.str "told", .non]) = H8 at s8 ep
          refine ⟨_, rfl, m, _, 0, _, rfl, rfl, SqL.of (s8 _ _ g1), atI_nat (j := 0) rfl, _, rfl, _, _, rfl, rfl, (by show 2 ≤ sizeLine; decide), fun pt hpt => ?_⟩
          have s9 := Same.upd (o := .tup [.ref p, .int (t + z)]) hpt
          have et : (L2.upd H8 pt (.tup [.ref p, .int (t + z)])) pt = some (.tup [.ref p, .int (t + z)]) := upd_same
          generalize L2.upd H8 pt (.tup [.ref p, .int (t + z)]) = H9 at s9 et
          have W9 := (W6.same s8).same s9
          have ep9 := s9 _ _ ep
          refine ⟨pt, _, rfl, tupAt et, rfl, _, _, rfl, ?_⟩
          refine nx_of ?_
          dsimp only
          have e9 := (s8.trans s9) _ _ g1
          have f9 := (s8.trans s9) _ _ g2
          refine ⟨_, _, rfl, _, rfl, m, _, 0, 0, rfl, rfl, e9, (by show ixN 3 0 = some 0; decide +kernel), rfl, ?_⟩
          have x1 : SameX m H9 (L2.upd H9 m (.lst ([V.int t, V.int u, V.ref lm6].set 0 (V.int (t + z))))) := SameX.upd
          have em : (L2.upd H9 m (.lst ([V.int t, V.int u, V.ref lm6].set 0 (V.int (t + z))))) m = some (.lst [.int (t + z), .int u, .ref lm6]) := upd_same
          have fm := x1 _ _ g4 f9
          generalize L2.upd H9 m (.lst ([V.int t, V.int u, V.ref lm6].set 0 (V.int (t + z)))) = H10 at x1 em fm
          have kl : KeepL m H9 H10 := ⟨⟨_, e9⟩, x1⟩
          exact kk2 _ _ ⟨p, "told", .non, .none, t + z, rfl, ((Same.kb s7).trans ((Same.kb s8).trans (Same.kb s9))).trans (SameX.kb x1 (.inr (.inr rfl))), x1 _ _ (eB np).2.2 ep9, np, .non, (Rm.of (by decide +kernel)).pair (by decide) (by decide +kernel), W9.mid.lw W.nlm kl ⟨lm6, em, fm, g3, g4⟩, .inl ⟨z, rfl, z1, z2, rfl, rfl, rfl⟩⟩
        · exact kk2 _ _ (bad fun H2 _ => .inr ⟨z, rfl, fun q => c (by simpa using q)⟩)
      · have ni : ∀ H2, KeepB (Bs l k m) H7 H2 → NoInt K H2 v := fun H2 s => (qv7.go s).noInt fun i e => ei ⟨i, e⟩
        refine ⟨_, rfl, _, 1, 1000, rfl, .inr ⟨ni H7 (KeepB.refl _ _), _, rfl, iteF ?_⟩⟩
        exact kk2 _ _ (bad fun H2 s => .inl (ni H2 s))
    obtain ⟨p, tag, x, d, tm, rfl, kb8, hp8, np8, hd8, sh, M8, hv⟩ := hW
    refine told_end rfl hp8 np8 hd8 sh (fun H' => ∃ t' ns', Wd CK CSt CSi T H' l k m a rs (n + 1 + 1) t' u ns') (fun H' kb ⟨t', ns', W'⟩ => h H' t' u ns' (kb6.trans (kb8.trans kb)) (by omega) (W'.mono (by omega))) (fun Q kk3 => ?_)
    exact wait_call D W5 M8 rfl rfl rfl hv Q kk3
end
end Sps
set_option Elab.async false
set_option linter.all false
set_option maxRecDepth 100000
set_option maxHeartbeats 4000000
/-! _law_right, law. -/
namespace Sps
open PySem PySem.Spec PyProof.Rows L2
def dInts (ns : List Int) : List PyData := ns.map PyData.int
theorem lay_ints : ∀ ns : List Int, PyData.canLayAll0 (dInts ns) = true
  | [] => rfl
  | n :: ns => by
    have ih := lay_ints ns
    unfold dInts at ih ⊢
    rw [List.map_cons]
    simp [PyData.canLayAll0, PyData.canLay0, ih]
theorem deep_ints : ∀ ns : List Int, PyData.depthAll (dInts ns) ≤ 1
  | [] => by decide
  | n :: ns => by
    have ih := deep_ints ns
    unfold dInts at ih ⊢
    rw [List.map_cons]
    simp only [PyData.depthAll, PyData.depth]
    omega
theorem dp_ints {K : PySem.W.Frag} {H : Hp} : ∀ ns : List Int, DpAll K H (ns.map V.int) (dInts ns)
  | [] => .nil
  | n :: ns => .cons (.int n) (dp_ints ns)
def dNow (t : Int) (ns : List Int) : PyData := .list [.int t, .tuple (dInts ns), .tuple []]
theorem lay_now {t : Int} {ns : List Int} : (dNow t ns).canLay0 = true := by
  have := lay_ints ns
  simp [dNow, PyData.canLay0, PyData.canLayAll0, this]
theorem shaped_now {t : Int} {ns : List Int} : SeqAt.shaped (dNow t ns) = true := by
  have h1 : (dNow t ns).canLay0 = true := lay_now
  have h2 := deep_ints ns
  unfold SeqAt.shaped
  rw [h1, Bool.true_and]
  refine decide_eq_true ?_
  simp only [dNow, PyData.depth, PyData.depthAll]
  omega
theorem eqv_now {t : Int} {ns : List Int} : PyData.eqv (dNow t ns) (dNow t ns) = true := SeqAt.eqv_refl _ lay_now
section
variable {P : Program} {w : World} {K : PySem.W.Frag} {mg : Str → Option Value} {base : Heap} {CK CSt CSi CS BC BS BW BA BN CE : Addr}
def spRight (T : List (Addr × Str)) : Sp := fun vs H Q _ => ∃ l : Addr, vs = [.ref l] ∧ PotOk 0 H l ∧ LamX.Tabs T H ∧ ∀ H', KeepB (fun b => b = l) H H' → LamX.Tabs T H' → Q (.bl true) H'
abbrev nRt : List Str := ["_law_pot_here", "_law_keeper", "_law_model", "_law_turn"]
theorem scRt : FnScope nRt ["_law_pot_here"] (defScope s__law_right) := ⟨rfl, rfl, rfl, by decide +kernel, rfl, by decide +kernel, by decide +kernel⟩
theorem ok_right {f g gC fK : Addr} {fd fdG fdC fdK : FuncData} {T : List (Addr × Str)} {ds : List Value} (F : Fun K "_law_right" "_law_right" s__law_right f fd) (D : LDefs P w K mg base CK CSt CSi CS BC BS BW BA BN CE)
    (G : FnG P w K mg base 9 g fdG pAs (spCalled CK CSt CSi T)) (mG : mg "_law_call_right" = some (.ref g)) (kG : PySem.W.keepIn K (.ref g) = true) (bG : Binds K fdG pAs [])
    (GC : FnOk P w K mg base CX0 5 gC fdC ["_law_pot_here", "_law_most"] spCopies) (mC : mg "_law_copies" = some (.ref gC)) (kC : PySem.W.keepIn K (.ref gC) = true) (bC : Binds K fdC ["_law_pot_here", "_law_most"] [])
    (MK : Mk K CK fK) (GK : FnOk P w K mg base CX0 8 fK fdK ["self", "copies", "piece"] (spKeep CK CSt CSi)) (mK : mg "Keeper" = some (.ref CK)) (bK : Binds K fdK ["self", "copies", "piece"] ds) (rK : Vals [.int 4] ds) :
    FnG P w K mg base 10 f fd ["_law_pot_here"] (spRight T) := by
  refine fnG_of F scRt (fun vs H Q E h => ?_) (fun cdv ec A outer s H vs Q E hr hgd h => ?_)
  · obtain ⟨_, rfl, _⟩ := h
    rfl
  · obtain ⟨l, rfl, hp, hTb, h⟩ := h
    have hr5 : Room 5 _ := hr.mono (by decide)
    have hu := hr.units
    have T0 := D.T
    refine ⟨_, pss_cons (ps_par (i := 1) (j := 2) (by rfl) scRt.nd rfl rfl (by decide) rfl rfl (pa_cons (pe_make MK GK hr rfl mK bK rK pass0 (pa_cons (pe_call GC hr5 rfl mC kC bC .nil pass0 (pa_cons (pv 0) (pa_cons pe_int pa_nil))) pa_nil))
          (pa_cons (pe_lst (pa_cons pe_int (pa_cons pe_int (pa_cons (pe_lst pa_nil) pa_nil)))) pa_nil)) (by rfl))
      (pss_cons (ps_for PassesOwn.leaving rfl (pi_range1 rfl T0.range (pa_cons pe_int pa_nil)) (pg_name (i := 3) scRt.nd rfl (Or.inl rfl))
        (pss_cons (ps_if (pt_not (pt_val (pe_callG G hr hgd rfl mG kG bG (pa_cons (pv 0) (pa_cons (pv 1) (pa_cons (pv 2) pa_nil)))))) (pss_one (ps_ret pe_bl)) pss_nil)
        (pss_one (ps_if (pt_cmpR (op_neD hu) (pe_lst (pa_cons (pe_fld (pv 1) rfl) (pa_cons (pe_fld (pv 1) rfl) (pa_cons (pe_fld (pv 1) rfl) pa_nil))))
            (pe_lst (pa_cons (pe_ix ix_list (pv 2) pe_int (fun _ _ => rfl)) (pa_cons (pe_callTy call_tuple_of (by rfl) T0.tuple (by decide +kernel) (pa_cons (pe_ix ix_list (pv 2) pe_int (fun _ _ => rfl)) pa_nil)) (pa_cons (pe_tup pa_nil) pa_nil)))) (nomark _)) (pss_one (ps_ret pe_bl)) pss_nil))))
      (pss_one (ps_ret pe_bl))), ?_⟩
    refine ⟨_, rfl, l, 0, rfl, hp, by decide, fun H1 a rs x1 p1 hR r1 r6 rok hg k dk hk hdk nkd => ?_⟩
    have hR' : RowsAt (L2.upd (L2.upd H1 dk (.own k)) k (.ins CK dk [])) a rs := (hR.same (Same.upd hdk)).same (Same.upd (by rw [upd_ne (Ne.symm nkd)]; exact hk))
    refine ⟨k, dk, a, rs, rfl, upd_same, hR', r1, r6, rok, hg, fun H3 sx hK => ⟨rfl, ?_⟩⟩
    have s13 : Same H1 H3 := madeSame hk hdk sx
    refine ⟨(by show 0 ≤ sizeLine; decide), fun lm hlm => ⟨(by show 3 ≤ sizeLine; decide), fun m hm => ⟨_, _, rfl, ?_⟩⟩⟩
    have s35 : Same H3 (L2.upd (L2.upd H3 lm (.lst [])) m (.lst [.int 0, .int 0, .ref lm])) := (Same.upd hlm).trans (Same.upd hm)
    have em : (L2.upd (L2.upd H3 lm (.lst [])) m (.lst [.int 0, .int 0, .ref lm])) m = some (.lst [.int 0, .int 0, .ref lm]) := upd_same
    have elm0 : (L2.upd H3 lm (.lst [])) lm = some (.lst []) := upd_same
    have nml : lm ≠ m := ne_of_none elm0 hm
    have elm : (L2.upd (L2.upd H3 lm (.lst [])) m (.lst [.int 0, .int 0, .ref lm])) lm = some (.lst []) := by rw [upd_ne nml]; exact elm0
    have nlk : l ≠ k := p1.ne hk
    have nllm : l ≠ lm := (p1.same s13).ne hlm
    have nlm : l ≠ m := ((p1.same s13).same (Same.upd hlm)).ne hm
    have fm : H3 m = none := (Same.upd hlm).free hm
    generalize L2.upd (L2.upd H3 lm (.lst [])) m (.lst [.int 0, .int 0, .ref lm]) = H5 at s35 em elm
    have T1 : LamX.Tabs T H1 := by
      obtain ⟨_, _, _, e, _⟩ := hp
      exact tabs_lw hTb ⟨⟨_, e⟩, x1⟩
    have W5 : Wd CK CSt CSi T H5 l k m a rs 50 0 0 [] := ⟨(p1.same s13).same s35, hK.same s35, (hR.same s13).same s35, r1, r6, rok, ⟨lm, em, elm, Ne.symm nllm, nml⟩, nlm, by decide, by decide, (tabs_same T1 s13) |> fun q => tabs_same q s35⟩
    have out : ∀ H', KeepB (Bs l k m) H5 H' → KeepB (fun b => b = l) H H' := fun H' kb b o nb nt e => by
      have e1 := x1 _ _ nb e
      have e5 := s35 _ _ (s13 _ _ e1)
      refine kb b o (fun z => ?_) nt e5
      rcases z with z | z | z
      · exact nb z
      · exact ne_of_none e1 hk z
      · exact ne_of_none (s13 _ _ e1) fm z
    refine ⟨40, rfl, by decide, by decide, for_range (lo := 0) (n := 40) (fun i σ H' => ∃ (y : Option V) (t u : Int) (ns : List Int), σ = [some (.ref l), some (.ref k), some (.ref m), y] ∧ KeepB (Bs l k m) H5 H' ∧ u ≤ i ∧ Wd CK CSt CSi T H' l k m a rs (50 + 20 * i) t u ns)
      ⟨none, 0, 0, [], rfl, KeepB.refl _ _, by decide, W5.mono (by omega)⟩ ?_ ?_⟩
    · rintro i σ H0 hi ⟨y, t, u, ns, rfl, kb, hui, W⟩
      have hi40 : (i : Int) < 40 := by omega
      refine nx_of ?_
      refine ⟨_, rfl, _, rfl, _, rfl, l, k, m, a, rs, _, t, u, ns, rfl, W, by omega, by omega, fun H7 t' u' ns' kb7 hu' W7 => ⟨true, rfl, iteF ?_⟩⟩
      obtain ⟨dx, s0, ta, tb, fs, z, hk7, hfl, hh, hS, ezt, ezu, hnm, hta, htb⟩ := W7.keep.ex
      obtain ⟨lm7, g1, g2, g3, g4⟩ := W7.mod
      refine ⟨_, rfl, k, CK, dx, fs, _, rfl, hk7, D.clK, D.noK _ (by decide), hh.at_ 2 rfl, _, rfl, k, CK, dx, fs, _, rfl, hk7, D.clK, D.noK _ (by decide), hh.at_ 1 rfl, _, rfl, k, CK, dx, fs, _, rfl, hk7, D.clK, D.noK _ (by decide), hh.at_ 0 rfl, (by show 3 ≤ sizeLine; decide), fun pa hpa => ?_⟩
      have sa := Same.upd (o := .lst [.int t', .ref ta, .ref tb]) hpa
      have ea : (L2.upd H7 pa (.lst [.int t', .ref ta, .ref tb])) pa = some (.lst [.int t', .ref ta, .ref tb]) := upd_same
      generalize L2.upd H7 pa (.lst [.int t', .ref ta, .ref tb]) = H8 at sa ea
      refine ⟨_, rfl, m, _, 0, _, rfl, rfl, SqL.of (sa _ _ g1), atI_nat (j := 0) rfl, _, rfl, m, _, 2, _, rfl, rfl, SqL.of (sa _ _ g1), atI_nat (j := 2) rfl, lm7, _, rfl, .inl ⟨SqL.of (sa _ _ g2), fun tq htq => ⟨(by show 0 ≤ sizeLine; decide), fun te hte => ⟨(by show 3 ≤ sizeLine; decide), fun pb hpb => ?_⟩⟩⟩⟩
      have sq := Same.upd (o := .tup (ns'.map V.int)) htq
      have eq : (L2.upd H8 tq (.tup (ns'.map V.int))) tq = some (.tup (ns'.map V.int)) := upd_same
      generalize L2.upd H8 tq (.tup (ns'.map V.int)) = H9 at sq eq hte hpb
      have se := Same.upd (o := .tup []) hte
      have ee : (L2.upd H9 te (.tup [])) te = some (.tup []) := upd_same
      generalize L2.upd H9 te (.tup []) = H10 at se ee hpb
      have sb := Same.upd (o := .lst [.int t', .ref tq, .ref te]) hpb
      have eb : (L2.upd H10 pb (.lst [.int t', .ref tq, .ref te])) pb = some (.lst [.int t', .ref tq, .ref te]) := upd_same
      generalize L2.upd H10 pb (.lst [.int t', .ref tq, .ref te]) = H11 at sb eb
      have s8 : Same H8 H11 := (sq.trans se).trans sb
      have s7 : Same H7 H11 := sa.trans s8
      refine ⟨dNow t' ns', dNow t' ns', .lst (SqL.of (s8 _ _ ea)) (.cons (.int _) (.cons (.tup (tupAt (s7 _ _ hta)) (dp_ints ns')) (.cons (.tup (tupAt (s7 _ _ htb)) .nil) .nil))), .lst (SqL.of eb) (.cons (.int _) (.cons (.tup (tupAt ((se.trans sb) _ _ eq)) (dp_ints ns')) (.cons (.tup (tupAt (sb _ _ ee)) .nil) .nil))), shaped_now, shaped_now, _, rfl, ?_⟩
      rw [eqv_now]
      refine iteF ?_
      exact ⟨_, t', u', ns', rfl, kb.trans (kb7.trans (Same.kb s7)), by push_cast; omega, (W7.same s7).mono (by push_cast; omega)⟩
    · rintro σ H' ⟨y, t, u, ns, rfl, kb, _, W⟩
      exact h H' (out H' kb) W.tabs
def spLaw (K : PySem.W.Frag) (T : List (Addr × Str)) : Sp := fun vs H Q _ => ∃ (a : Addr) (ns : List Int), vs = [.ref a] ∧ SqL K H a (ns.map V.int) ∧ ns.length ≤ 63 ∧ LamX.Tabs T H ∧ ∀ H', Q (.bl true) H'
theorem scLw : FnScope ["_law_script", "_law_k"] ["_law_script"] (defScope s_law) := ⟨rfl, rfl, rfl, by decide +kernel, rfl, by decide +kernel, by decide +kernel⟩
theorem ok_law {f g gP : Addr} {fd fdG fdP : FuncData} {T : List (Addr × Str)} (F : Fun K "law" "law" s_law f fd) (T0 : Names mg) (G : FnG P w K mg base 10 g fdG ["_law_pot_here"] (spRight T)) (mgG : mg "_law_right" = some (.ref g)) (kG : PySem.W.keepIn K (.ref g) = true) (bG : Binds K fdG ["_law_pot_here"] [])
    (O : FnOk P w K mg base CX0 2 gP fdP ["_law_script", "_law_k"] (spPot K)) (mgO : mg "_law_pot" = some (.ref gP)) (kO : PySem.W.keepIn K (.ref gP) = true) (bO : Binds K fdP ["_law_script", "_law_k"] []) :
    FnG P w K mg base 11 f fd ["_law_script"] (spLaw K T) := by
  refine fnG_of F scLw (fun vs H Q E h => ?_) (fun cdv ec Ar outer s H vs Q E hr hgd h => ?_)
  · obtain ⟨_, _, rfl, _⟩ := h
    rfl
  · obtain ⟨a, ns, rfl, ha, hlen, hTb, k⟩ := h
    have h1 : Room 2 _ := hr.mono (by decide)
    refine ⟨_, pss_cons (ps_for PassesOwn.leaving rfl (pi_range1 rfl T0.range (pa_cons (pe_callB (call_max2 rfl) (by rfl) T0.max (by decide +kernel) (pa_cons pe_int (pa_cons (pe_callB (call_min2 rfl) (by rfl) T0.min (by decide +kernel)
          (pa_cons pe_int (pa_cons (pe_callB call_len_seq (by rfl) T0.len PySem.boot_len (pa_cons (pv 0) pa_nil)) pa_nil))) pa_nil))) pa_nil)) (pg_name (i := 1) scLw.nd rfl (Or.inl rfl))
        (pss_one (ps_if (pt_not (pt_val (pe_callG G hr hgd rfl mgG kG bG (pa_cons (pe_call O h1 rfl mgO kO bO .nil pass0 (pa_cons (pv 0) (pa_cons (pv 1) pa_nil))) pa_nil)))) (pss_one (ps_ret pe_bl)) pss_nil)))
      (pss_one (ps_ret pe_bl)), ?_⟩
    refine ⟨_, rfl, _, _, rfl, .inl ha, _, _, rfl, _, _, rfl, ?_⟩
    generalize hm : (if (if (((ns.map V.int).length : Nat) : Int) < 3 then (((ns.map V.int).length : Nat) : Int) else 3) > 1 then (if (((ns.map V.int).length : Nat) : Int) < 3 then (((ns.map V.int).length : Nat) : Int) else 3) else 1) = m
    have m0 : 1 ≤ m ∧ m ≤ 3 := by
      rw [← hm]
      split <;> split <;> omega
    have kseq : ∀ {H0 H1 H2 : Hp} {l : Addr}, SqL K H0 a (ns.map V.int) → Same H0 H1 → H0 l = none → KeepB (fun b => b = l) H1 H2 → SqL K H2 a (ns.map V.int) := by
      rintro H0 H1 H2 l hq s hl kb
      rcases hq with (e | ⟨o, e⟩) | e
      · exact .inl (.inl (kb _ _ (ne_of_none e hl) (fun _ z => by cases z) (s _ _ e)))
      · exact .inl (.inr ⟨o, kb _ _ (ne_of_none e hl) (fun _ z => by cases z) (s _ _ e)⟩)
      · exact .inr e
    refine ⟨m, rfl, by omega, by omega, for_range (lo := 0) (n := m.toNat) (fun i σ H' => ∃ x1 : Option V, σ = [some (.ref a), x1] ∧ SqL K H' a (ns.map V.int) ∧ LamX.Tabs T H') ⟨none, rfl, ha, hTb⟩ ?_ ?_⟩
    · rintro i σ H0 hi ⟨x1, rfl, s0, t0⟩
      refine ⟨_, rfl, _, rfl, a, ns, 0 + (i : Int), rfl, s0, by omega, by omega, fun H1 l s1 hl hp => ⟨l, rfl, hp, tabs_same t0 s1, fun H2 sx t2 => ⟨true, rfl, iteF ?_⟩⟩⟩
      exact ⟨_, rfl, kseq s0 s1 hl sx, t2⟩
    · rintro σ H' ⟨x1, rfl, s0⟩
      exact k H'
end
end Sps
set_option Elab.async false
set_option linter.all false
set_option maxRecDepth 100000
set_option maxHeartbeats 4000000
/-! The law's call from the top: no repr under way, the tables empty. -/
namespace Sps
open PySem PySem.Spec PyProof.Rows L2
/-- the fact of the top -/
abbrev TabObj : Obj := { cls := .none, data := .fields #[] }
theorem law_callTG {P : Program} {w : World} {K : PySem.W.Frag} {mg mb mm : Str → Option Value} {k : Nat} {fa a : Addr} {cs : List (Addr × Addr)} {fd : FuncData} {x : Str} {sp : Sp} {s₁ : Shared} {vs : List Value} {ns : List Int}
    (KX : K.In s₁.heap) (hns : s₁.heap.Ns mainGlobals mg) (hmods : s₁.heap.Ns sysModules mm) (hb : s₁.heap.Ns builtinsNs mb) (hbb : ∀ x : Str, x ≠ "__name__" → mb x = bootBuiltins x) (hlim : s₁.heap.NoLimit) (hg : s₁.gens = #[])
    (hT : ∀ p ∈ cs, s₁.heap.get? p.2 = some TabObj) (nT : ∀ p ∈ cs, K.lookup p.2 = none) (C : ∀ p ∈ cs, PySem.W.CodeHd s₁.heap p.1 p.2)
    (hbm : ∃ (bm : Addr) (ob : Obj), mg "__builtins__" = some (.ref bm) ∧ bm ≠ builtinsNs ∧ s₁.heap.get? bm = some ob ∧ ob.cls = .type "module" ∧ ob.dict = some builtinsNs ∧ ob.data = .plain)
    (ha : s₁.heap.get? a = some { cls := .type "list", data := .seq vs.toArray }) (hi : IntsAre vs ns) (hl : ns.length ≤ sizeLine) (hr : Room k callerA)
    (F : ∀ base : Heap, K.In base → base.Ns mainGlobals mg → (∃ o, base.get? sysModules = some o) → (∀ p ∈ cs, LamX.TabB base mg p.1 p.2) → FnG P w K mg base k fa fd [x] sp) (hbind : ∀ (s : Shared) (u : Value), BindsTo s fd ⟨[u], []⟩ [(x, u)])
    (hsp : ∀ H : Hp, (∀ p ∈ cs, H p.2 = some (.tbl #[])) → SqL K H a (ns.map V.int) → sp [.ref a] H (fun v _ => v = .bl true) E0) :
    codeAny (model P w) callerA (.call (.ref fa) ⟨[.ref a], []⟩) (fun r s' => r = .ok (.ret (.bool true)) ∧ OldK s₁.heap s'.heap ∧ s'.os = s₁.os ∧ AllBare s'.gens) s₁ := by
  have rv := vals_ints hi
  have lenV := hi.length
  have isT : ∀ b : Addr, b ∈ cs.map (·.2) → s₁.heap.get? b = some TabObj := fun b hb => by
    obtain ⟨p, hp, e⟩ := List.mem_map.mp hb
    rw [← e]
    exact hT p hp
  have aT : a ∉ cs.map (·.2) := fun z => by
    have q := isT a z
    rw [ha] at q
    cases congrArg Obj.data (Option.some.inj q)
  have memT : ∀ p ∈ cs, p.2 ∈ cs.map (·.2) := fun p hp => List.mem_map.mpr ⟨p, hp, rfl⟩
  have core : ∀ H : Hp, (∀ p ∈ cs, H p.2 = some (.tbl #[])) → (∀ b, H b = none ∨ b ∈ cs.map (·.2) ∨ ∃ o xs, H b = some (.frz o (.lst xs))) → SqL K H a (ns.map V.int) → HOk P w H s₁.heap → (∀ b, H b ≠ none → b = a ∨ b ∈ cs.map (·.2)) → (H a ≠ none → K.lookup a = none) →
      codeAny (model P w) callerA (.call (.ref fa) ⟨[.ref a], []⟩) (fun r s' => r = .ok (.ret (.bool true)) ∧ OldK s₁.heap s'.heap ∧ s'.os = s₁.os ∧ AllBare s'.gens) s₁ := by
    intro H hH hO hS hok hA hK
    have base_of : ∀ {b : Addr} {o : Obj}, s₁.heap.get? b = some o → H b = none → (hidT s₁.heap H).get? b = some o := fun e n => hidT_get e n
    have noD : ∀ {b : Addr} {o : Obj}, s₁.heap.get? b = some o → (∀ vs n, o.data ≠ .seq vs n) → o.data ≠ .fields #[] → H b = none := fun {b o} e h1 h2 => by
      cases q : H b with
      | none => rfl
      | some u =>
        rcases hA b (by rw [q]; simp) with z | z
        · rw [z, ha] at e
          cases e
          exact (h1 _ _ rfl).elim
        · rw [isT b z] at e
          cases e
          exact (h2 rfl).elim
    have noA : ∀ {b : Addr} {o : Obj} {es : Array DictEntry} {ep : Nat}, s₁.heap.get? b = some o → o.data = .dict es ep → H b = none := fun {b o es ep} e d =>
      noD e (fun vs n z => by rw [d] at z; cases z) (fun z => by rw [d] at z; cases z)
    have nsK : ∀ {b : Addr} {m : Str → Option Value}, s₁.heap.Ns b m → (hidT s₁.heap H).Ns b m := fun {b m} ⟨o, es, ep, e, d, r⟩ => ⟨o, es, ep, base_of e (noA e d), d, r⟩
    have hKb : K.In (hidT s₁.heap H) := fun b o e => base_of (KX b o e) (by
      cases q : H b with
      | none => rfl
      | some u =>
        rcases hA b (by rw [q]; simp) with z | z
        · rw [z] at e q
          rw [hK (by rw [q]; simp)] at e
          cases e
        · obtain ⟨p, hp, ep⟩ := List.mem_map.mp z
          rw [← ep, nT p hp] at e
          cases e)
    have hM : L2.Mod K mg (hidT s₁.heap H) := ⟨hKb, nsK hns, ⟨mb, nsK hb, hbb⟩, let ⟨mc, h1, h2⟩ := hlim; ⟨mc, nsK h1, h2⟩⟩
    have hS0 : ∃ o, (hidT s₁.heap H).get? sysModules = some o := let ⟨o, _, _, e, _⟩ := nsK hmods; ⟨o, e⟩
    have TB : ∀ p ∈ cs, LamX.TabB (hidT s₁.heap H) mg p.1 p.2 := fun p hp => by
      refine ⟨?_, ?_, fun z => ?_⟩
      · obtain ⟨o, us, file, tf, flags, tg, inF, text, tt, e1, r1, r2, r3, rest⟩ := C p hp
        refine ⟨o, us, file, tf, flags, tg, inF, text, tt, base_of e1 (noD e1 (fun vs n z => by rw [r2] at z; cases z) fun z => ?_), r1, r2, r3, rest⟩
        rw [r2] at z
        cases z
        simp at r3
      · obtain ⟨bm, ob, b1, b2, b3, b4, b5, b6⟩ := hbm
        have nG : bm ≠ mainGlobals := fun q => by
          obtain ⟨o, es, ep, e, hd, _⟩ := hns
          rw [q, e] at b3
          cases b3
          rw [hd] at b6
          cases b6
        have nP : bm ≠ p.2 := fun q => by
          rw [q, hT p hp] at b3
          cases b3
          cases b6
        exact ⟨bm, ob, b1, b2, nG, nP, base_of b3 (noD b3 (fun vs n z => by rw [b6] at z; cases z) fun z => by rw [b6] at z; cases z), b4, b5, b6⟩
      · obtain ⟨o, es, ep, e, hd, _⟩ := hns
        rw [z, hT p hp] at e
        cases e
        cases hd
    have e0 : Env0 P w K mg (hidT s₁.heap H) callerA [] s₁ H := ⟨rfl, hM, fun b o e => of_hidT e, Nat.le_of_eq (hidT_size _ _), trivial, fun b hb => absurd (show b ∈ ([] : List Addr) from hb) (by simp), hok, .of_eq hg⟩
    refine codeAny_mono ((F _ hKb (nsK hns) hS0 TB).run callerA [] s₁ H ⟨[.ref a], []⟩ [.ref a] [.ref a] _ _ hr rfl e0 (hbind s₁ (.ref a)) (.cons rfl .nil) (hsp H hH hS)) fun r s' h => ?_
    cases r with
    | error e => exact False.elim h
    | ok fl =>
      cases fl with
      | next => exact False.elim h
      | brk => exact False.elim h
      | cont => exact False.elim h
      | ret u =>
        obtain ⟨v, H', os, bare, un, hok', r', q⟩ := h
        have q' : v = .bl true := q
        subst q'
        obtain rfl : u = Value.bool true := r'
        have key : ∀ b o, b ∉ cs.map (·.2) → s₁.heap.get? b = some o → s'.heap.get? b = some o := fun b o nb e => by
          cases q : H b with
          | none => exact un.keep b o e q (by intro z; exact absurd (show b ∈ ([] : List Addr) from z) (by simp)) (by simp)
          | some u =>
            rcases hO b with z | z | ⟨ob, xs, z⟩
            · rw [q] at z; cases z
            · exact absurd z nb
            · have z2 := un.frzs b ob _ z
              obtain ⟨e1, _⟩ := hok b _ z
              obtain ⟨e2, _⟩ := hok' b _ z2
              rw [e] at e1; cases e1
              exact e2
        have grown : ∀ p ∈ cs, ∃ more : Array Value, s'.heap.get? p.2 = some { cls := .none, data := .fields more } := fun p hp => by
          obtain ⟨more, z⟩ := un.tbls p.2 #[] (hH p hp)
          exact ⟨_, hok' p.2 _ z⟩
        refine ⟨rfl, ⟨fun b o e => ?_, fun b o e => ?_⟩, os, bare⟩
        · by_cases hb : b ∈ cs.map (·.2)
          · obtain ⟨p, hp, rfl⟩ := List.mem_map.mp hb
            obtain ⟨more, hm⟩ := grown p hp
            rw [hT p hp] at e
            cases e
            exact .inr (.inl ⟨((C p hp).tab (hT p hp)).isCodeTable, rfl, #[], more, rfl, by rw [Array.empty_append]; exact hm⟩)
          · exact .inl (key b o hb e)
        · by_cases hb : b ∈ cs.map (·.2)
          · obtain ⟨p, hp, rfl⟩ := List.mem_map.mp hb
            obtain ⟨more, hm⟩ := grown p hp
            exact ⟨_, hm⟩
          · exact ⟨o, key b o hb e⟩
  -- the tables alone, the script ahead of them
  have tab : ∀ (o0 : Option HO) (H : Hp), H = (fun b => if b = a then o0 else if b ∈ cs.map (·.2) then some (.tbl #[]) else none) → (o0 = none ∨ (K.lookup a = none ∧ ∃ (ob : Obj) (xs : List V), o0 = some (.frz ob (.lst xs)))) → SqL K H a (ns.map V.int) → HOk P w H s₁.heap →
      codeAny (model P w) callerA (.call (.ref fa) ⟨[.ref a], []⟩) (fun r s' => r = .ok (.ret (.bool true)) ∧ OldK s₁.heap s'.heap ∧ s'.os = s₁.os ∧ AllBare s'.gens) s₁ := by
    intro o0 H eH ho hS hok
    have eA : H a = o0 := by rw [eH]; exact if_pos rfl
    have eT : ∀ b, b ∈ cs.map (·.2) → H b = some (.tbl #[]) := fun b hb => by
      rw [eH]
      exact (if_neg (fun z : b = a => aT (by rw [← z]; exact hb))).trans (if_pos hb)
    have eN : ∀ b, b ≠ a → b ∉ cs.map (·.2) → H b = none := fun b h1 h2 => by
      rw [eH]
      exact (if_neg h1).trans (if_neg h2)
    refine core H (fun p hp => eT _ (memT p hp)) (fun b => ?_) hS hok (fun b z => ?_) fun z => ?_
    · by_cases hb : b ∈ cs.map (·.2)
      · exact .inr (.inl hb)
      · by_cases h2 : b = a
        · subst h2
          rcases ho with e | ⟨_, ob, xs, e⟩
          · exact .inl (eA.trans e)
          · exact .inr (.inr ⟨ob, xs, eA.trans e⟩)
        · exact .inl (eN b h2 hb)
    · by_cases hb : b ∈ cs.map (·.2)
      · exact .inr hb
      · by_cases h2 : b = a
        · exact .inl h2
        · exact absurd (eN b h2 hb) z
    · rcases ho with e | ⟨e, _⟩
      · exact absurd (eA.trans e) z
      · exact e
  have okT : ∀ (o0 : Option HO) (b : Addr) (u : HO), (if b = a then o0 else if b ∈ cs.map (·.2) then some (HO.tbl #[]) else none) = some u → (o0 = some u ∧ b = a) ∨ (s₁.heap.get? b = some TabObj ∧ u = .tbl #[]) := fun o0 b u z => by
    by_cases h2 : b = a
    · exact .inl ⟨(if_pos h2).symm.trans z, h2⟩
    · have z1 := (if_neg h2).symm.trans z
      by_cases hb : b ∈ cs.map (·.2)
      · exact .inr ⟨isT b hb, (Option.some.inj ((if_pos hb).symm.trans z1)).symm⟩
      · cases (if_neg hb).symm.trans z1
  cases hk : K.lookup a with
  | some o =>
    have e := KX a o hk
    rw [ha] at e
    cases e
    refine tab none _ rfl (.inl rfl) (.inr ⟨_, vs.toArray, _, hk, rfl, rfl, rfl, by rw [List.size_toArray, lenV]; exact hl, by simpa using rv⟩) fun b u z => ?_
    rcases okT none b u z with ⟨y, _⟩ | ⟨y, rfl⟩
    · cases y
    · exact y
  | none =>
    refine tab (some (.frz { cls := .type "list", data := .seq vs.toArray } (.lst (ns.map V.int)))) _ rfl (.inr ⟨hk, _, _, rfl⟩) (.inl (.inr ⟨{ cls := .type "list", data := .seq vs.toArray }, if_pos rfl⟩)) fun b u z => ?_
    rcases okT _ b u z with ⟨y, rfl⟩ | ⟨y, rfl⟩
    · cases y
      exact ⟨ha, by rw [List.length_map]; exact hl, vs, _, rv, ha⟩
    · exact y
theorem walkTG {l : PySem.W.OpenLaw} {n k : Nat} {q : Program} {loose : List Str} {XP : (Str → Option Value) → Heap → Prop} {YP : World → Heap → Prop} {d : DefRec} {x : Str}
    (hn : l.most = some n) (hn2 : n ≤ sizeLine) (hdf : d.params.defaults = []) (him : importsNone q = true) (hr : Room k callerA)
    (F : ∀ (w : World) (mg : Str → Option Value) (fa : Addr) (h : Heap), YP w h → h.Ns mainGlobals mg → mg d.name = some (.ref fa) → ∃ (K : PySem.W.Frag) (fd : FuncData) (cs : List (Addr × Addr)) (sp : Sp), K.In h ∧
      (∀ p ∈ cs, h.get? p.2 = some TabObj) ∧ (∀ p ∈ cs, K.lookup p.2 = none) ∧ (∀ p ∈ cs, PySem.W.CodeHd h p.1 p.2) ∧ (∀ (s : Shared) (u : Value), BindsTo s fd ⟨[u], []⟩ [(x, u)]) ∧
      (∀ (H : Hp) (a : Addr) (ns : List Int), ns.length ≤ n → (∀ p ∈ cs, H p.2 = some (.tbl #[])) → SqL K H a (ns.map V.int) → sp [.ref a] H (fun v _ => v = .bl true) E0) ∧
      ∀ base : Heap, K.In base → base.Ns mainGlobals mg → (∃ o, base.get? sysModules = some o) → (∀ p ∈ cs, LamX.TabB base mg p.1 p.2) → FnG l.prog w K mg base k fa fd [x] sp) :
    PySem.W.WalkO q loose XP YP l.row.toRowW d [] (fun f vs => PySem.call f vs) := by
  refine Att.attach_callB hn hdf fun w s₀ s₁ mg mb fa o pm cd doc a vs ns G Y ho hd hcd hmg hobj hints hlen hbits hg => ?_
  obtain ⟨mm, hmods, _⟩ := (G.T.seer him).mods
  obtain ⟨K, fd, cs, sp, KX, hT, nT, C, hb, hsp, hF⟩ := F w mg fa _ Y G.T.g hmg
  exact law_callTG KX G.T.g hmods G.T.b G.T.builtins G.T.nolimit hg hT nT C G.T.bmain hobj hints (Nat.le_trans hlen hn2) hr hF hb fun H hH hS => hsp H a ns hlen hH hS
end Sps
set_option Elab.async false
set_option linter.all false
set_option maxRecDepth 100000
set_option maxHeartbeats 0
/-! All defs of the law together: from what the head tells. -/
namespace Sps
open PySem PySem.Spec PyProof.Rows L2
theorem funOf {K : PySem.W.Frag} {x q : Str} {st : Stmt} {f : Addr} {fd : FuncData} {kws : List (Str × V)} (F : FunD K x q (defArgs st) (defBody st) (defScope st) [] kws f fd) : Fun K x q st f fd := by
  obtain ⟨oc, od, dV, kV, doc, pm, an, cdv, ct, osl, e, lk, hc, hD, hK⟩ := F.ex
  rcases hD with ⟨_, rfl⟩ | ⟨y, _⟩
  · exact ⟨⟨oc, od, kV, doc, pm, an, cdv, ct, osl, e, lk, hc⟩, F.kp⟩
  · exact absurd rfl y
theorem codeD {K : PySem.W.Frag} {p : He.Defn} {x q : Str} {pa : Arguments} {bo : List Stmt} {sc : Scope} {ds : List V} {kws : List (Str × V)} {fd : FuncData} (F : FunD K x q pa bo sc ds kws (He.fAd K p) fd) : fd.code = .ref (He.codeOf K p) := by
  obtain ⟨oc, od, dV, kV, doc, pm, an, cdv, ct, osl, e, lk, hc, _, _⟩ := F.ex
  obtain ⟨c, rfl⟩ := He.codeIn_ref hc
  subst e
  rw [He.codeOf_eq lk rfl] <;> rfl
theorem exCls_ok {K : PySem.W.Frag} {C : Addr} (h : exClsB K C = true) : ∃ nm q N bs bm sn sub ab col dd k0 k1 k2 k3 k5, K.lookup C = some (excClassObj nm q C N bs bm true sn sub ab col dd k0 k1 k2 k3 k5 "ValueError.__new__") ∧ PySem.HandSPX.refsVE bm = true := by
  unfold exClsB at h
  split at h
  · rename_i c dd cd sl ho
    obtain ⟨hc, h2⟩ := Bool.and_eq_true_iff.mp h
    split at h2
    · rename_i D bm k0 k1 k2 k3 n k5 hm hs
      obtain ⟨h3, h2⟩ := Bool.and_eq_true_iff.mp h2
      obtain ⟨h4, h2⟩ := Bool.and_eq_true_iff.mp h2
      obtain ⟨h5, h2⟩ := Bool.and_eq_true_iff.mp h2
      obtain ⟨h6, h7⟩ := Bool.and_eq_true_iff.mp h2
      have e1 := of_decide_eq_true hc
      have e3 := of_decide_eq_true h3
      have e4 := of_decide_eq_true h4
      obtain ⟨nm, bs, mro, ns, qn, hd, sn, sub, ab, col, dl⟩ := cd
      dsimp only at hm h5 h6
      cases dl with
      | true => cases h5
      | false =>
        cases hd with
        | false => cases h6
        | true =>
          obtain ⟨l⟩ := sl
          simp only at hs
          subst hm hs e1 e3 e4
          exact ⟨nm, qn, ns, bs, bm, sn, sub, ab, col, dd, k0, k1, k2, k3, k5, ho, h7⟩
    · cases h2
  · cases h
theorem keB_ok {K : PySem.W.Frag} (h : keB K = true) : KeC K (He.ga K "KeeperError") := by
  obtain ⟨h1, h⟩ := Bool.and_eq_true_iff.mp h
  obtain ⟨h2, h⟩ := Bool.and_eq_true_iff.mp h
  obtain ⟨h3, h4⟩ := Bool.and_eq_true_iff.mp h
  refine ⟨of_decide_eq_true h1, of_decide_eq_true h2, h3, ?_⟩
  split at h4
  · rename_i v e
    rw [e, of_decide_eq_true h4]
  · cases h4
theorem errB_ok {K : PySem.W.Frag} {mg : Str → Option Value} {e : Str} (h : errB K e = true) (k : KeC K (He.ga K "KeeperError")) (mB : mg e = some (.ref (He.ga K e))) (mK : mg "KeeperError" = some (.ref (He.ga K "KeeperError"))) :
    BadC K mg e (He.ga K e) (He.ga K "KeeperError") (He.ma K (He.ga K e) "__init__") := by
  obtain ⟨h1, h⟩ := Bool.and_eq_true_iff.mp h
  obtain ⟨h2, h⟩ := Bool.and_eq_true_iff.mp h
  obtain ⟨h3, h⟩ := Bool.and_eq_true_iff.mp h
  obtain ⟨h4, h⟩ := Bool.and_eq_true_iff.mp h
  obtain ⟨h5, h⟩ := Bool.and_eq_true_iff.mp h
  obtain ⟨h6, h⟩ := Bool.and_eq_true_iff.mp h
  obtain ⟨h7, h8⟩ := Bool.and_eq_true_iff.mp h
  have X := xfB_ok h2
  exact ⟨⟨exCls_ok h1, of_decide_eq_true h3, X.exC, of_decide_eq_true h4, h5⟩, k, mB, mK, of_decide_eq_true h6, of_decide_eq_true h7, of_decide_eq_true h8, X⟩
theorem empB_ok {K : PySem.W.Frag} (h : empB K = true) : EmpK K (He.dflAt ("Steps", some "__init__") 0 K) := fun H => by
  unfold empB at h
  split at h
  · rename_i c od its n sl q
    obtain ⟨h1, h2⟩ := Bool.and_eq_true_iff.mp h
    have e1 := of_decide_eq_true h1
    have e2 := Array.isEmpty_iff.mp h2
    subst e1 e2
    exact .inr ⟨_, #[], n, q, rfl, rfl, Nat.zero_le _, .nil⟩
  · cases h
theorem spB_ok {K : PySem.W.Frag} {mg : Str → Option Value} (h : spB K = true) (cl : Cls K (He.ga K "Spans")) (nP : NoAttr K (He.ga K "Spans") "pairs") (m : mg "Spans" = some (.ref (He.ga K "Spans"))) :
    SpCls K mg (He.ga K "Spans") ∧ NoSp K (He.ga K "Spans") := by
  obtain ⟨h1, h⟩ := Bool.and_eq_true_iff.mp h
  obtain ⟨h2, h⟩ := Bool.and_eq_true_iff.mp h
  obtain ⟨h3, h⟩ := Bool.and_eq_true_iff.mp h
  obtain ⟨h4, h⟩ := Bool.and_eq_true_iff.mp h
  obtain ⟨k1, h⟩ := Bool.and_eq_true_iff.mp h
  obtain ⟨k2, h⟩ := Bool.and_eq_true_iff.mp h
  obtain ⟨k3, h⟩ := Bool.and_eq_true_iff.mp h
  obtain ⟨k4, h⟩ := Bool.and_eq_true_iff.mp h
  obtain ⟨k5, h⟩ := Bool.and_eq_true_iff.mp h
  obtain ⟨k6, h⟩ := Bool.and_eq_true_iff.mp h
  obtain ⟨k7, h⟩ := Bool.and_eq_true_iff.mp h
  obtain ⟨k8, h⟩ := Bool.and_eq_true_iff.mp h
  obtain ⟨h5, h⟩ := Bool.and_eq_true_iff.mp h
  obtain ⟨h6, h⟩ := Bool.and_eq_true_iff.mp h
  obtain ⟨h7, h8⟩ := Bool.and_eq_true_iff.mp h
  exact ⟨⟨cl, nP, m, h1, h2, h3, h4, of_decide_eq_true k1, of_decide_eq_true k2, of_decide_eq_true k3, of_decide_eq_true h5, of_decide_eq_true h6, of_decide_eq_true h7, of_decide_eq_true h8⟩,
    ⟨of_decide_eq_true k4, of_decide_eq_true k5, of_decide_eq_true k3, of_decide_eq_true k6, of_decide_eq_true k7, of_decide_eq_true k2, of_decide_eq_true k8⟩⟩
theorem bnd_keep {K : PySem.W.Frag} {f : Addr} {fd : FuncData} (F : FunD K "__init__" "Keeper.__init__" (defArgs s_Keeper___init__) (defBody s_Keeper___init__) (defScope s_Keeper___init__) [] [("piece", .int 4)] f fd) :
    ∃ ds, Vals [V.int 4] ds ∧ Binds K fd ["self", "copies", "piece"] ds :=
  FunD.binds0 (ps := ["self", "copies", "piece"]) F 2 (List.cons_ne_nil _ _) rfl fun D doc pm an cdv ct us ks l1 l2 => match us, l1, ks, l2 with
    | [_, _], _, [_], _ => ⟨_, _, _, _, _, _, rfl, rfl, rfl⟩
theorem bnd_steps {K : PySem.W.Frag} {f ea : Addr} {fd : FuncData} (F : FunD K "__init__" "Steps.__init__" (defArgs s_Steps___init__) (defBody s_Steps___init__) (defScope s_Steps___init__) [.ref ea] [] f fd) :
    ∃ ds, Vals [V.ref ea] ds ∧ Binds K fd ["self", "site", "rows", "extra"] ds :=
  FunD.binds1 (ps := ["self", "site", "rows", "extra"]) F 3 0 (List.cons_ne_nil _ _) rfl fun T kV doc pm an cdv ct us its l1 l2 => match us, l1, its, l2 with
    | [_, _, _], _, [_], _ => ⟨_, rfl, rfl⟩
theorem bnd_ask {K : PySem.W.Frag} {f : Addr} {fd : FuncData} (F : FunD K "ask" "Keeper.ask" (defArgs s_Keeper_ask) (defBody s_Keeper_ask) (defScope s_Keeper_ask) [.non] [("only", .non)] f fd) :
    ∃ g, KBn K fd ["self", "copy", "spans", "only"] 3 ["only"] g (fun vs zs => vs ++ zs) := by
  obtain ⟨its, mv, b⟩ := FunD.kbinds (ps := ["self", "copy", "spans", "only"]) F 3 ["only"] [] (fun {α} us _ _ ws => us ++ ws) (List.cons_ne_nil _ _) (List.cons_ne_nil _ _) (fun q hq => by cases hq)
    (fun r1 _ _ r4 => r1.append r4) (fun T D doc pm an cdv ct us its mv ws l1 l2 l3 l4 => match us, l1, its, l2, mv, l3, ws, l4 with
    | [_, _, _], _, [_], _, [], _, [_], _ => ⟨_, rfl, rfl⟩)
  exact ⟨_, b⟩

theorem namesD {K : PySem.W.Frag} {h : Heap} {mg : Str → Option Value} (X : K.In h) (G : h.Ns mainGlobals mg) (D : He.SaysD faA fnA K) : Names mg where
  ValueError := He.free_ok X G (D.fact 57 (f := .free "ValueError") rfl)
  abs := He.free_ok X G (D.fact 58 (f := .free "abs") rfl)
  all := He.free_ok X G (D.fact 59 (f := .free "all") rfl)
  any := He.free_ok X G (D.fact 60 (f := .free "any") rfl)
  bool := He.free_ok X G (D.fact 61 (f := .free "bool") rfl)
  dict := He.free_ok X G (D.fact 62 (f := .free "dict") rfl)
  enumerate := He.free_ok X G (D.fact 63 (f := .free "enumerate") rfl)
  int := He.free_ok X G (D.fact 64 (f := .free "int") rfl)
  isinstance := He.free_ok X G (D.fact 65 (f := .free "isinstance") rfl)
  len := He.free_ok X G (D.fact 66 (f := .free "len") rfl)
  list := He.free_ok X G (D.fact 67 (f := .free "list") rfl)
  max := He.free_ok X G (D.fact 68 (f := .free "max") rfl)
  min := He.free_ok X G (D.fact 69 (f := .free "min") rfl)
  range := He.free_ok X G (D.fact 70 (f := .free "range") rfl)
  repr := He.free_ok X G (D.fact 71 (f := .free "repr") rfl)
  set := He.free_ok X G (D.fact 72 (f := .free "set") rfl)
  sorted := He.free_ok X G (D.fact 73 (f := .free "sorted") rfl)
  str := He.free_ok X G (D.fact 74 (f := .free "str") rfl)
  sum := He.free_ok X G (D.fact 75 (f := .free "sum") rfl)
  tuple := He.free_ok X G (D.fact 76 (f := .free "tuple") rfl)
  zip := He.free_ok X G (D.fact 77 (f := .free "zip") rfl)
  LETTERS := He.str_ok X G (D.fact 78 (f := .str "LETTERS" "abcdefghijklmnopqrstuvwxyz") rfl)
  DIGITS := He.str_ok X G (D.fact 79 (f := .str "DIGITS" "0123456789") rfl)
  END := He.int_ok X G (D.fact 80 (f := .int "END" 1000000) rfl)
  LAST_TIME := He.int_ok X G (D.fact 81 (f := .int "LAST_TIME" 1000000000) rfl)
  GHOST := He.int_ok X G (D.fact 82 (f := .int "GHOST" (-1)) rfl)
  LIMIT := He.int_ok X G (D.fact 83 (f := .int "LIMIT" 4) rfl)
abbrev asked_ : He.Defn := ("_law_asked_right", none)
abbrev called_ : He.Defn := ("_law_call_right", none)
abbrev laN : Str := "_law_asked_right.<locals>.<lambda>"
abbrev lcN : Str := "_law_call_right.<locals>.<lambda>"
/-- the tables of lambdas -/
abbrev tbs (K : PySem.W.Frag) : List (Addr × Str) := [((He.cT K asked_).2, laN), ((He.cT K called_).2, lcN)]
theorem allD {P : Program} {w : World} {K : PySem.W.Frag} {h : Heap} {mg : Str → Option Value} {fa : Addr} (X : K.In h) (G : h.Ns mainGlobals mg) (hfa : mg ("law" : Str) = some (.ref fa)) (c : He.SaysX faA fnA [] tfA exB w h K) :
    ∃ fd : FuncData, (∀ (s : Shared) (u : Value), BindsTo s fd ⟨[u], []⟩ [("_law_script", u)]) ∧ ∀ base : Heap, K.In base → base.Ns mainGlobals mg → (∃ o, base.get? sysModules = some o) → (∀ p ∈ [He.cT K asked_, He.cT K called_], LamX.TabB base mg p.1 p.2) →
      FnG P w K mg base 11 fa fd ["_law_script"] (spLaw K (tbs K)) := by
  have D := c.t.d
  have T := namesD X G D
  obtain ⟨xE, x1⟩ := Bool.and_eq_true_iff.mp c.more
  obtain ⟨xK, x1⟩ := Bool.and_eq_true_iff.mp x1
  obtain ⟨xS, x1⟩ := Bool.and_eq_true_iff.mp x1
  obtain ⟨xP, x1⟩ := Bool.and_eq_true_iff.mp x1
  obtain ⟨xN, x1⟩ := Bool.and_eq_true_iff.mp x1
  obtain ⟨xM, xD⟩ := Bool.and_eq_true_iff.mp x1
  obtain ⟨d1, xD⟩ := Bool.and_eq_true_iff.mp xD
  obtain ⟨d2, d3⟩ := Bool.and_eq_true_iff.mp xD
  obtain ⟨nK, xN⟩ := Bool.and_eq_true_iff.mp xN
  obtain ⟨nS, xN⟩ := Bool.and_eq_true_iff.mp xN
  obtain ⟨nSi_, xN⟩ := Bool.and_eq_true_iff.mp xN
  obtain ⟨nP, xN⟩ := Bool.and_eq_true_iff.mp xN
  obtain ⟨nT, xN⟩ := Bool.and_eq_true_iff.mp xN
  obtain ⟨nA, nSp⟩ := Bool.and_eq_true_iff.mp xN
  have KE := keB_ok xK
  have m_is_whole_number := He.glo_ok X G (D.fact 0 (f := .glo "is_whole_number") rfl)
  have m_is_within := He.glo_ok X G (D.fact 1 (f := .glo "is_within") rfl)
  have m_is_number_in := He.glo_ok X G (D.fact 2 (f := .glo "is_number_in") rfl)
  have m__is_made_of := He.glo_ok X G (D.fact 3 (f := .glo "_is_made_of") rfl)
  have m_is_name := He.glo_ok X G (D.fact 4 (f := .glo "is_name") rfl)
  have m_is_word := He.glo_ok X G (D.fact 5 (f := .glo "is_word") rfl)
  have m_is_tuple_of := He.glo_ok X G (D.fact 6 (f := .glo "is_tuple_of") rfl)
  have m__is_pair := He.glo_ok X G (D.fact 7 (f := .glo "_is_pair") rfl)
  have m__merged := He.glo_ok X G (D.fact 8 (f := .glo "_merged") rfl)
  have m__leads_out := He.glo_ok X G (D.fact 9 (f := .glo "_leads_out") rfl)
  have m_is_copy := He.glo_ok X G (D.fact 10 (f := .glo "is_copy") rfl)
  have m_are_copies := He.glo_ok X G (D.fact 11 (f := .glo "are_copies") rfl)
  have m_check_copies := He.glo_ok X G (D.fact 12 (f := .glo "check_copies") rfl)
  have m_check_copy := He.glo_ok X G (D.fact 13 (f := .glo "check_copy") rfl)
  have m_check_spans := He.glo_ok X G (D.fact 14 (f := .glo "check_spans") rfl)
  have m_check_word := He.glo_ok X G (D.fact 15 (f := .glo "check_word") rfl)
  have m_check_ask := He.glo_ok X G (D.fact 16 (f := .glo "check_ask") rfl)
  have m_mask_of := He.glo_ok X G (D.fact 17 (f := .glo "mask_of") rfl)
  have m__sharing := He.glo_ok X G (D.fact 18 (f := .glo "_sharing") rfl)
  have m__seen_at := He.glo_ok X G (D.fact 19 (f := .glo "_seen_at") rfl)
  have m__by_time := He.glo_ok X G (D.fact 20 (f := .glo "_by_time") rfl)
  have m__reached := He.glo_ok X G (D.fact 21 (f := .glo "_reached") rfl)
  have m__turned := He.glo_ok X G (D.fact 22 (f := .glo "_turned") rfl)
  have m__named_runs := He.glo_ok X G (D.fact 23 (f := .glo "_named_runs") rfl)
  have m_contents_of := He.glo_ok X G (D.fact 24 (f := .glo "contents_of") rfl)
  have m_above_of := He.glo_ok X G (D.fact 25 (f := .glo "above_of") rfl)
  have m_first_state := He.glo_ok X G (D.fact 26 (f := .glo "first_state") rfl)
  have m_later := He.glo_ok X G (D.fact 27 (f := .glo "later") rfl)
  have m__with_asks := He.glo_ok X G (D.fact 28 (f := .glo "_with_asks") rfl)
  have m__closed := He.glo_ok X G (D.fact 29 (f := .glo "_closed") rfl)
  have m_after_ask := He.glo_ok X G (D.fact 30 (f := .glo "after_ask") rfl)
  have m_after_loss := He.glo_ok X G (D.fact 31 (f := .glo "after_loss") rfl)
  have m__law_pot := He.glo_ok X G (D.fact 32 (f := .glo "_law_pot") rfl)
  have m__law_draw := He.glo_ok X G (D.fact 33 (f := .glo "_law_draw") rfl)
  have m__law_any := He.glo_ok X G (D.fact 34 (f := .glo "_law_any") rfl)
  have m__law_words := He.glo_ok X G (D.fact 35 (f := .glo "_law_words") rfl)
  have m__law_copies := He.glo_ok X G (D.fact 36 (f := .glo "_law_copies") rfl)
  have m__law_caught := He.glo_ok X G (D.fact 37 (f := .glo "_law_caught") rfl)
  have m__law_is_word := He.glo_ok X G (D.fact 38 (f := .glo "_law_is_word") rfl)
  have m__law_is_number := He.glo_ok X G (D.fact 39 (f := .glo "_law_is_number") rfl)
  have m__law_asked_right := He.glo_ok X G (D.fact 40 (f := .glo "_law_asked_right") rfl)
  have m__law_call_right := He.glo_ok X G (D.fact 41 (f := .glo "_law_call_right") rfl)
  have m__law_right := He.glo_ok X G (D.fact 42 (f := .glo "_law_right") rfl)
  have m_law := He.glo_ok X G (D.fact 43 (f := .glo "law") rfl)
  have m_Spans := He.glo_ok X G (D.fact 44 (f := .glo "Spans") rfl)
  have m_Keeper := He.glo_ok X G (D.fact 45 (f := .glo "Keeper") rfl)
  have m_State := He.glo_ok X G (D.fact 46 (f := .glo "State") rfl)
  have m_Site := He.glo_ok X G (D.fact 47 (f := .glo "Site") rfl)
  have m_Picture := He.glo_ok X G (D.fact 48 (f := .glo "Picture") rfl)
  have m_Steps := He.glo_ok X G (D.fact 49 (f := .glo "Steps") rfl)
  have m_Ask := He.glo_ok X G (D.fact 50 (f := .glo "Ask") rfl)
  have m_NoCopy := He.glo_ok X G (D.fact 51 (f := .glo "NoCopy") rfl)
  have m_BadSpans := He.glo_ok X G (D.fact 52 (f := .glo "BadSpans") rfl)
  have m_BadWord := He.glo_ok X G (D.fact 53 (f := .glo "BadWord") rfl)
  have m_NoAsk := He.glo_ok X G (D.fact 54 (f := .glo "NoAsk") rfl)
  have m_BadCount := He.glo_ok X G (D.fact 55 (f := .glo "BadCount") rfl)
  have m_KeeperError := He.glo_ok X G (D.fact 56 (f := .glo "KeeperError") rfl)
  obtain ⟨d_is_whole_number, F_is_whole_number⟩ := D.def_ 0 (d := dd "is_whole_number" s_is_whole_number) rfl
  have f_is_whole_number : Fun K "is_whole_number" "is_whole_number" s_is_whole_number (He.ga K "is_whole_number") d_is_whole_number := funOf F_is_whole_number
  have k_is_whole_number := f_is_whole_number.kp
  have b_is_whole_number := f_is_whole_number.binds (ps := ["value"]) fun _ _ _ _ _ _ us hl => match us, hl with | [_], _ => rfl
  obtain ⟨d_is_within, F_is_within⟩ := D.def_ 1 (d := dd "is_within" s_is_within) rfl
  have f_is_within : Fun K "is_within" "is_within" s_is_within (He.ga K "is_within") d_is_within := funOf F_is_within
  have k_is_within := f_is_within.kp
  have b_is_within := f_is_within.binds (ps := ["value", "least", "most"]) fun _ _ _ _ _ _ us hl => match us, hl with | [_, _, _], _ => rfl
  obtain ⟨d_is_number_in, F_is_number_in⟩ := D.def_ 2 (d := dd "is_number_in" s_is_number_in) rfl
  have f_is_number_in : Fun K "is_number_in" "is_number_in" s_is_number_in (He.ga K "is_number_in") d_is_number_in := funOf F_is_number_in
  have k_is_number_in := f_is_number_in.kp
  have b_is_number_in := f_is_number_in.binds (ps := ["value", "table"]) fun _ _ _ _ _ _ us hl => match us, hl with | [_, _], _ => rfl
  obtain ⟨d__is_made_of, F__is_made_of⟩ := D.def_ 3 (d := dd "_is_made_of" s__is_made_of) rfl
  have f__is_made_of : Fun K "_is_made_of" "_is_made_of" s__is_made_of (He.ga K "_is_made_of") d__is_made_of := funOf F__is_made_of
  have k__is_made_of := f__is_made_of.kp
  have b__is_made_of := f__is_made_of.binds (ps := ["value", "letters"]) fun _ _ _ _ _ _ us hl => match us, hl with | [_, _], _ => rfl
  obtain ⟨d_is_name, F_is_name⟩ := D.def_ 4 (d := dd "is_name" s_is_name) rfl
  have f_is_name : Fun K "is_name" "is_name" s_is_name (He.ga K "is_name") d_is_name := funOf F_is_name
  have k_is_name := f_is_name.kp
  have b_is_name := f_is_name.binds (ps := ["value"]) fun _ _ _ _ _ _ us hl => match us, hl with | [_], _ => rfl
  obtain ⟨d_is_word, F_is_word⟩ := D.def_ 5 (d := dd "is_word" s_is_word) rfl
  have f_is_word : Fun K "is_word" "is_word" s_is_word (He.ga K "is_word") d_is_word := funOf F_is_word
  have k_is_word := f_is_word.kp
  have b_is_word := f_is_word.binds (ps := ["value"]) fun _ _ _ _ _ _ us hl => match us, hl with | [_], _ => rfl
  obtain ⟨d_is_tuple_of, F_is_tuple_of⟩ := D.def_ 6 (d := dd "is_tuple_of" s_is_tuple_of) rfl
  have f_is_tuple_of : Fun K "is_tuple_of" "is_tuple_of" s_is_tuple_of (He.ga K "is_tuple_of") d_is_tuple_of := funOf F_is_tuple_of
  have k_is_tuple_of := f_is_tuple_of.kp
  have b_is_tuple_of := f_is_tuple_of.binds (ps := ["value", "many"]) fun _ _ _ _ _ _ us hl => match us, hl with | [_, _], _ => rfl
  obtain ⟨d__is_pair, F__is_pair⟩ := D.def_ 7 (d := dd "_is_pair" s__is_pair) rfl
  have f__is_pair : Fun K "_is_pair" "_is_pair" s__is_pair (He.ga K "_is_pair") d__is_pair := funOf F__is_pair
  have k__is_pair := f__is_pair.kp
  have b__is_pair := f__is_pair.binds (ps := ["value"]) fun _ _ _ _ _ _ us hl => match us, hl with | [_], _ => rfl
  obtain ⟨d__merged, F__merged⟩ := D.def_ 8 (d := dd "_merged" s__merged) rfl
  have f__merged : Fun K "_merged" "_merged" s__merged (He.ga K "_merged") d__merged := funOf F__merged
  have k__merged := f__merged.kp
  have b__merged := f__merged.binds (ps := ["pairs"]) fun _ _ _ _ _ _ us hl => match us, hl with | [_], _ => rfl
  obtain ⟨d__leads_out, F__leads_out⟩ := D.def_ 9 (d := dd "_leads_out" s__leads_out) rfl
  have f__leads_out : Fun K "_leads_out" "_leads_out" s__leads_out (He.ga K "_leads_out") d__leads_out := funOf F__leads_out
  have k__leads_out := f__leads_out.kp
  have b__leads_out := f__leads_out.binds (ps := ["followed", "name"]) fun _ _ _ _ _ _ us hl => match us, hl with | [_, _], _ => rfl
  obtain ⟨d_is_copy, F_is_copy⟩ := D.def_ 10 (d := dd "is_copy" s_is_copy) rfl
  have f_is_copy : Fun K "is_copy" "is_copy" s_is_copy (He.ga K "is_copy") d_is_copy := funOf F_is_copy
  have k_is_copy := f_is_copy.kp
  have b_is_copy := f_is_copy.binds (ps := ["value"]) fun _ _ _ _ _ _ us hl => match us, hl with | [_], _ => rfl
  obtain ⟨d_are_copies, F_are_copies⟩ := D.def_ 11 (d := dd "are_copies" s_are_copies) rfl
  have f_are_copies : Fun K "are_copies" "are_copies" s_are_copies (He.ga K "are_copies") d_are_copies := funOf F_are_copies
  have k_are_copies := f_are_copies.kp
  have b_are_copies := f_are_copies.binds (ps := ["value"]) fun _ _ _ _ _ _ us hl => match us, hl with | [_], _ => rfl
  obtain ⟨d_check_copies, F_check_copies⟩ := D.def_ 12 (d := dd "check_copies" s_check_copies) rfl
  have f_check_copies : Fun K "check_copies" "check_copies" s_check_copies (He.ga K "check_copies") d_check_copies := funOf F_check_copies
  have k_check_copies := f_check_copies.kp
  have b_check_copies := f_check_copies.binds (ps := ["value"]) fun _ _ _ _ _ _ us hl => match us, hl with | [_], _ => rfl
  obtain ⟨d_check_copy, F_check_copy⟩ := D.def_ 13 (d := dd "check_copy" s_check_copy) rfl
  have f_check_copy : Fun K "check_copy" "check_copy" s_check_copy (He.ga K "check_copy") d_check_copy := funOf F_check_copy
  have k_check_copy := f_check_copy.kp
  have b_check_copy := f_check_copy.binds (ps := ["site", "value"]) fun _ _ _ _ _ _ us hl => match us, hl with | [_, _], _ => rfl
  obtain ⟨d_check_spans, F_check_spans⟩ := D.def_ 14 (d := dd "check_spans" s_check_spans) rfl
  have f_check_spans : Fun K "check_spans" "check_spans" s_check_spans (He.ga K "check_spans") d_check_spans := funOf F_check_spans
  have k_check_spans := f_check_spans.kp
  have b_check_spans := f_check_spans.binds (ps := ["value"]) fun _ _ _ _ _ _ us hl => match us, hl with | [_], _ => rfl
  obtain ⟨d_check_word, F_check_word⟩ := D.def_ 15 (d := dd "check_word" s_check_word) rfl
  have f_check_word : Fun K "check_word" "check_word" s_check_word (He.ga K "check_word") d_check_word := funOf F_check_word
  have k_check_word := f_check_word.kp
  obtain ⟨d_check_ask, F_check_ask⟩ := D.def_ 16 (d := dd "check_ask" s_check_ask) rfl
  have f_check_ask : Fun K "check_ask" "check_ask" s_check_ask (He.ga K "check_ask") d_check_ask := funOf F_check_ask
  have k_check_ask := f_check_ask.kp
  have b_check_ask := f_check_ask.binds (ps := ["state", "value"]) fun _ _ _ _ _ _ us hl => match us, hl with | [_, _], _ => rfl
  obtain ⟨d_mask_of, F_mask_of⟩ := D.def_ 17 (d := dd "mask_of" s_mask_of) rfl
  have f_mask_of : Fun K "mask_of" "mask_of" s_mask_of (He.ga K "mask_of") d_mask_of := funOf F_mask_of
  have k_mask_of := f_mask_of.kp
  have b_mask_of := f_mask_of.binds (ps := ["places"]) fun _ _ _ _ _ _ us hl => match us, hl with | [_], _ => rfl
  obtain ⟨d__sharing, F__sharing⟩ := D.def_ 18 (d := dd "_sharing" s__sharing) rfl
  have f__sharing : Fun K "_sharing" "_sharing" s__sharing (He.ga K "_sharing") d__sharing := funOf F__sharing
  have k__sharing := f__sharing.kp
  have b__sharing := f__sharing.binds (ps := ["words"]) fun _ _ _ _ _ _ us hl => match us, hl with | [_], _ => rfl
  obtain ⟨d__seen_at, F__seen_at⟩ := D.def_ 19 (d := dd "_seen_at" s__seen_at) rfl
  have f__seen_at : Fun K "_seen_at" "_seen_at" s__seen_at (He.ga K "_seen_at") d__seen_at := funOf F__seen_at
  have k__seen_at := f__seen_at.kp
  have b__seen_at := f__seen_at.binds (ps := ["rows"]) fun _ _ _ _ _ _ us hl => match us, hl with | [_], _ => rfl
  obtain ⟨d__by_time, F__by_time⟩ := D.def_ 20 (d := dd "_by_time" s__by_time) rfl
  have f__by_time : Fun K "_by_time" "_by_time" s__by_time (He.ga K "_by_time") d__by_time := funOf F__by_time
  have k__by_time := f__by_time.kp
  have b__by_time := f__by_time.binds (ps := ["site", "rows"]) fun _ _ _ _ _ _ us hl => match us, hl with | [_, _], _ => rfl
  obtain ⟨d__reached, F__reached⟩ := D.def_ 21 (d := dd "_reached" s__reached) rfl
  have f__reached : Fun K "_reached" "_reached" s__reached (He.ga K "_reached") d__reached := funOf F__reached
  have k__reached := f__reached.kp
  have b__reached := f__reached.binds (ps := ["steps"]) fun _ _ _ _ _ _ us hl => match us, hl with | [_], _ => rfl
  obtain ⟨d__turned, F__turned⟩ := D.def_ 22 (d := dd "_turned" s__turned) rfl
  have f__turned : Fun K "_turned" "_turned" s__turned (He.ga K "_turned") d__turned := funOf F__turned
  have k__turned := f__turned.kp
  have b__turned := f__turned.binds (ps := ["reach"]) fun _ _ _ _ _ _ us hl => match us, hl with | [_], _ => rfl
  obtain ⟨d__named_runs, F__named_runs⟩ := D.def_ 23 (d := dd "_named_runs" s__named_runs) rfl
  have f__named_runs : Fun K "_named_runs" "_named_runs" s__named_runs (He.ga K "_named_runs") d__named_runs := funOf F__named_runs
  have k__named_runs := f__named_runs.kp
  have b__named_runs := f__named_runs.binds (ps := ["contents", "piece"]) fun _ _ _ _ _ _ us hl => match us, hl with | [_, _], _ => rfl
  obtain ⟨d_contents_of, F_contents_of⟩ := D.def_ 24 (d := dd "contents_of" s_contents_of) rfl
  have f_contents_of : Fun K "contents_of" "contents_of" s_contents_of (He.ga K "contents_of") d_contents_of := funOf F_contents_of
  have k_contents_of := f_contents_of.kp
  have b_contents_of := f_contents_of.binds (ps := ["editions", "piece"]) fun _ _ _ _ _ _ us hl => match us, hl with | [_, _], _ => rfl
  obtain ⟨d_above_of, F_above_of⟩ := D.def_ 25 (d := dd "above_of" s_above_of) rfl
  have f_above_of : Fun K "above_of" "above_of" s_above_of (He.ga K "above_of") d_above_of := funOf F_above_of
  have k_above_of := f_above_of.kp
  have b_above_of := f_above_of.binds (ps := ["copies"]) fun _ _ _ _ _ _ us hl => match us, hl with | [_], _ => rfl
  obtain ⟨d_first_state, F_first_state⟩ := D.def_ 26 (d := dd "first_state" s_first_state) rfl
  have f_first_state : Fun K "first_state" "first_state" s_first_state (He.ga K "first_state") d_first_state := funOf F_first_state
  have k_first_state := f_first_state.kp
  have b_first_state := f_first_state.binds (ps := ["site"]) fun _ _ _ _ _ _ us hl => match us, hl with | [_], _ => rfl
  obtain ⟨d_later, F_later⟩ := D.def_ 27 (d := dd "later" s_later) rfl
  have f_later : Fun K "later" "later" s_later (He.ga K "later") d_later := funOf F_later
  have k_later := f_later.kp
  have b_later := f_later.binds (ps := ["state", "many"]) fun _ _ _ _ _ _ us hl => match us, hl with | [_, _], _ => rfl
  obtain ⟨d__with_asks, F__with_asks⟩ := D.def_ 28 (d := dd "_with_asks" s__with_asks) rfl
  have f__with_asks : Fun K "_with_asks" "_with_asks" s__with_asks (He.ga K "_with_asks") d__with_asks := funOf F__with_asks
  have k__with_asks := f__with_asks.kp
  have b__with_asks := f__with_asks.binds (ps := ["state", "upcoming", "asks"]) fun _ _ _ _ _ _ us hl => match us, hl with | [_, _, _], _ => rfl
  obtain ⟨d__closed, F__closed⟩ := D.def_ 29 (d := dd "_closed" s__closed) rfl
  have f__closed : Fun K "_closed" "_closed" s__closed (He.ga K "_closed") d__closed := funOf F__closed
  have k__closed := f__closed.kp
  have b__closed := f__closed.binds (ps := ["state", "number"]) fun _ _ _ _ _ _ us hl => match us, hl with | [_, _], _ => rfl
  obtain ⟨d_after_ask, F_after_ask⟩ := D.def_ 30 (d := dd "after_ask" s_after_ask) rfl
  have f_after_ask : Fun K "after_ask" "after_ask" s_after_ask (He.ga K "after_ask") d_after_ask := funOf F_after_ask
  have k_after_ask := f_after_ask.kp
  have b_after_ask := f_after_ask.binds (ps := ["state", "source", "spans", "only"]) fun _ _ _ _ _ _ us hl => match us, hl with | [_, _, _, _], _ => rfl
  obtain ⟨d_after_loss, F_after_loss⟩ := D.def_ 31 (d := dd "after_loss" s_after_loss) rfl
  have f_after_loss : Fun K "after_loss" "after_loss" s_after_loss (He.ga K "after_loss") d_after_loss := funOf F_after_loss
  have k_after_loss := f_after_loss.kp
  have b_after_loss := f_after_loss.binds (ps := ["state", "number"]) fun _ _ _ _ _ _ us hl => match us, hl with | [_, _], _ => rfl
  obtain ⟨d__law_pot, F__law_pot⟩ := D.def_ 32 (d := dd "_law_pot" s__law_pot) rfl
  have f__law_pot : Fun K "_law_pot" "_law_pot" s__law_pot (He.ga K "_law_pot") d__law_pot := funOf F__law_pot
  have k__law_pot := f__law_pot.kp
  have b__law_pot := f__law_pot.binds (ps := ["_law_script", "_law_k"]) fun _ _ _ _ _ _ us hl => match us, hl with | [_, _], _ => rfl
  obtain ⟨d__law_draw, F__law_draw⟩ := D.def_ 33 (d := dd "_law_draw" s__law_draw) rfl
  have f__law_draw : Fun K "_law_draw" "_law_draw" s__law_draw (He.ga K "_law_draw") d__law_draw := funOf F__law_draw
  have k__law_draw := f__law_draw.kp
  have b__law_draw := f__law_draw.binds (ps := ["_law_pot_here", "_law_many"]) fun _ _ _ _ _ _ us hl => match us, hl with | [_, _], _ => rfl
  obtain ⟨d__law_any, F__law_any⟩ := D.def_ 34 (d := dd "_law_any" s__law_any) rfl
  have f__law_any : Fun K "_law_any" "_law_any" s__law_any (He.ga K "_law_any") d__law_any := funOf F__law_any
  have k__law_any := f__law_any.kp
  have b__law_any := f__law_any.binds (ps := ["_law_pot_here", "_law_items"]) fun _ _ _ _ _ _ us hl => match us, hl with | [_, _], _ => rfl
  obtain ⟨d__law_words, F__law_words⟩ := D.def_ 35 (d := dd "_law_words" s__law_words) rfl
  have f__law_words : Fun K "_law_words" "_law_words" s__law_words (He.ga K "_law_words") d__law_words := funOf F__law_words
  have k__law_words := f__law_words.kp
  have b__law_words := f__law_words.binds (ps := ["_law_pot_here", "_law_many"]) fun _ _ _ _ _ _ us hl => match us, hl with | [_, _], _ => rfl
  obtain ⟨d__law_copies, F__law_copies⟩ := D.def_ 36 (d := dd "_law_copies" s__law_copies) rfl
  have f__law_copies : Fun K "_law_copies" "_law_copies" s__law_copies (He.ga K "_law_copies") d__law_copies := funOf F__law_copies
  have k__law_copies := f__law_copies.kp
  have b__law_copies := f__law_copies.binds (ps := ["_law_pot_here", "_law_most"]) fun _ _ _ _ _ _ us hl => match us, hl with | [_, _], _ => rfl
  obtain ⟨d__law_caught, F__law_caught⟩ := D.def_ 37 (d := dd "_law_caught" s__law_caught) rfl
  have f__law_caught : Fun K "_law_caught" "_law_caught" s__law_caught (He.ga K "_law_caught") d__law_caught := funOf F__law_caught
  have k__law_caught := f__law_caught.kp
  have b__law_caught := f__law_caught.binds (ps := ["_law_call"]) fun _ _ _ _ _ _ us hl => match us, hl with | [_], _ => rfl
  obtain ⟨d__law_is_word, F__law_is_word⟩ := D.def_ 38 (d := dd "_law_is_word" s__law_is_word) rfl
  have f__law_is_word : Fun K "_law_is_word" "_law_is_word" s__law_is_word (He.ga K "_law_is_word") d__law_is_word := funOf F__law_is_word
  have k__law_is_word := f__law_is_word.kp
  have b__law_is_word := f__law_is_word.binds (ps := ["_law_thing"]) fun _ _ _ _ _ _ us hl => match us, hl with | [_], _ => rfl
  obtain ⟨d__law_is_number, F__law_is_number⟩ := D.def_ 39 (d := dd "_law_is_number" s__law_is_number) rfl
  have f__law_is_number : Fun K "_law_is_number" "_law_is_number" s__law_is_number (He.ga K "_law_is_number") d__law_is_number := funOf F__law_is_number
  have k__law_is_number := f__law_is_number.kp
  have b__law_is_number := f__law_is_number.binds (ps := ["_law_thing", "_law_least", "_law_most"]) fun _ _ _ _ _ _ us hl => match us, hl with | [_, _, _], _ => rfl
  obtain ⟨d__law_asked_right, F__law_asked_right⟩ := D.def_ 40 (d := dd "_law_asked_right" s__law_asked_right) rfl
  have f__law_asked_right : Fun K "_law_asked_right" "_law_asked_right" s__law_asked_right (He.ga K "_law_asked_right") d__law_asked_right := funOf F__law_asked_right
  have k__law_asked_right := f__law_asked_right.kp
  have b__law_asked_right := f__law_asked_right.binds (ps := ["_law_pot_here", "_law_keeper", "_law_model"]) fun _ _ _ _ _ _ us hl => match us, hl with | [_, _, _], _ => rfl
  obtain ⟨d__law_call_right, F__law_call_right⟩ := D.def_ 41 (d := dd "_law_call_right" s__law_call_right) rfl
  have f__law_call_right : Fun K "_law_call_right" "_law_call_right" s__law_call_right (He.ga K "_law_call_right") d__law_call_right := funOf F__law_call_right
  have k__law_call_right := f__law_call_right.kp
  have b__law_call_right := f__law_call_right.binds (ps := ["_law_pot_here", "_law_keeper", "_law_model"]) fun _ _ _ _ _ _ us hl => match us, hl with | [_, _, _], _ => rfl
  obtain ⟨d__law_right, F__law_right⟩ := D.def_ 42 (d := dd "_law_right" s__law_right) rfl
  have f__law_right : Fun K "_law_right" "_law_right" s__law_right (He.ga K "_law_right") d__law_right := funOf F__law_right
  have k__law_right := f__law_right.kp
  have b__law_right := f__law_right.binds (ps := ["_law_pot_here"]) fun _ _ _ _ _ _ us hl => match us, hl with | [_], _ => rfl
  obtain ⟨d_law, F_law⟩ := D.def_ 43 (d := dd "law" s_law) rfl
  have f_law : Fun K "law" "law" s_law (He.ga K "law") d_law := funOf F_law
  have k_law := f_law.kp
  have b_law := f_law.binds (ps := ["_law_script"]) fun _ _ _ _ _ _ us hl => match us, hl with | [_], _ => rfl
  obtain ⟨d_NoCopy___init__, E_NoCopy___init__⟩ := D.def_ 44 (d := dm "NoCopy" "__init__" "NoCopy.__init__" s_NoCopy___init__ [] []) rfl
  have F_NoCopy___init__ : FunD K "__init__" "NoCopy.__init__" (defArgs s_NoCopy___init__) (defBody s_NoCopy___init__) (defScope s_NoCopy___init__) [] [] (He.ma K (He.ga K "NoCopy") "__init__") d_NoCopy___init__ := E_NoCopy___init__
  have f_NoCopy___init__ : Fun K "__init__" "NoCopy.__init__" s_NoCopy___init__ (He.ma K (He.ga K "NoCopy") "__init__") d_NoCopy___init__ := funOf F_NoCopy___init__
  have b_NoCopy___init__ := f_NoCopy___init__.binds (ps := ["self", "value"]) fun _ _ _ _ _ _ us hl => match us, hl with | [_, _], _ => rfl
  obtain ⟨d_BadSpans___init__, E_BadSpans___init__⟩ := D.def_ 45 (d := dm "BadSpans" "__init__" "BadSpans.__init__" s_BadSpans___init__ [] []) rfl
  have F_BadSpans___init__ : FunD K "__init__" "BadSpans.__init__" (defArgs s_BadSpans___init__) (defBody s_BadSpans___init__) (defScope s_BadSpans___init__) [] [] (He.ma K (He.ga K "BadSpans") "__init__") d_BadSpans___init__ := E_BadSpans___init__
  have f_BadSpans___init__ : Fun K "__init__" "BadSpans.__init__" s_BadSpans___init__ (He.ma K (He.ga K "BadSpans") "__init__") d_BadSpans___init__ := funOf F_BadSpans___init__
  have b_BadSpans___init__ := f_BadSpans___init__.binds (ps := ["self", "value"]) fun _ _ _ _ _ _ us hl => match us, hl with | [_, _], _ => rfl
  obtain ⟨d_BadWord___init__, E_BadWord___init__⟩ := D.def_ 46 (d := dm "BadWord" "__init__" "BadWord.__init__" s_BadWord___init__ [] []) rfl
  have F_BadWord___init__ : FunD K "__init__" "BadWord.__init__" (defArgs s_BadWord___init__) (defBody s_BadWord___init__) (defScope s_BadWord___init__) [] [] (He.ma K (He.ga K "BadWord") "__init__") d_BadWord___init__ := E_BadWord___init__
  have f_BadWord___init__ : Fun K "__init__" "BadWord.__init__" s_BadWord___init__ (He.ma K (He.ga K "BadWord") "__init__") d_BadWord___init__ := funOf F_BadWord___init__
  have b_BadWord___init__ := f_BadWord___init__.binds (ps := ["self", "value"]) fun _ _ _ _ _ _ us hl => match us, hl with | [_, _], _ => rfl
  obtain ⟨d_NoAsk___init__, E_NoAsk___init__⟩ := D.def_ 47 (d := dm "NoAsk" "__init__" "NoAsk.__init__" s_NoAsk___init__ [] []) rfl
  have F_NoAsk___init__ : FunD K "__init__" "NoAsk.__init__" (defArgs s_NoAsk___init__) (defBody s_NoAsk___init__) (defScope s_NoAsk___init__) [] [] (He.ma K (He.ga K "NoAsk") "__init__") d_NoAsk___init__ := E_NoAsk___init__
  have f_NoAsk___init__ : Fun K "__init__" "NoAsk.__init__" s_NoAsk___init__ (He.ma K (He.ga K "NoAsk") "__init__") d_NoAsk___init__ := funOf F_NoAsk___init__
  have b_NoAsk___init__ := f_NoAsk___init__.binds (ps := ["self", "value"]) fun _ _ _ _ _ _ us hl => match us, hl with | [_, _], _ => rfl
  obtain ⟨d_BadCount___init__, E_BadCount___init__⟩ := D.def_ 48 (d := dm "BadCount" "__init__" "BadCount.__init__" s_BadCount___init__ [] []) rfl
  have F_BadCount___init__ : FunD K "__init__" "BadCount.__init__" (defArgs s_BadCount___init__) (defBody s_BadCount___init__) (defScope s_BadCount___init__) [] [] (He.ma K (He.ga K "BadCount") "__init__") d_BadCount___init__ := E_BadCount___init__
  have f_BadCount___init__ : Fun K "__init__" "BadCount.__init__" s_BadCount___init__ (He.ma K (He.ga K "BadCount") "__init__") d_BadCount___init__ := funOf F_BadCount___init__
  have b_BadCount___init__ := f_BadCount___init__.binds (ps := ["self", "value"]) fun _ _ _ _ _ _ us hl => match us, hl with | [_, _], _ => rfl
  obtain ⟨d_Spans___init__, E_Spans___init__⟩ := D.def_ 49 (d := dm "Spans" "__init__" "Spans.__init__" s_Spans___init__ [] []) rfl
  have F_Spans___init__ : FunD K "__init__" "Spans.__init__" (defArgs s_Spans___init__) (defBody s_Spans___init__) (defScope s_Spans___init__) [] [] (He.ma K (He.ga K "Spans") "__init__") d_Spans___init__ := E_Spans___init__
  have f_Spans___init__ : Fun K "__init__" "Spans.__init__" s_Spans___init__ (He.ma K (He.ga K "Spans") "__init__") d_Spans___init__ := funOf F_Spans___init__
  obtain ⟨d_Steps___init__, E_Steps___init__⟩ := D.def_ 50 (d := dm "Steps" "__init__" "Steps.__init__" s_Steps___init__ [.adr (He.dflAt ("Steps", some "__init__") 0)] []) rfl
  have F_Steps___init__ : FunD K "__init__" "Steps.__init__" (defArgs s_Steps___init__) (defBody s_Steps___init__) (defScope s_Steps___init__) [.ref (He.dflAt ("Steps", some "__init__") 0 K)] [] (He.ma K (He.ga K "Steps") "__init__") d_Steps___init__ := E_Steps___init__
  obtain ⟨d_Site___init__, E_Site___init__⟩ := D.def_ 51 (d := dm "Site" "__init__" "Site.__init__" s_Site___init__ [] []) rfl
  have F_Site___init__ : FunD K "__init__" "Site.__init__" (defArgs s_Site___init__) (defBody s_Site___init__) (defScope s_Site___init__) [] [] (He.ma K (He.ga K "Site") "__init__") d_Site___init__ := E_Site___init__
  have f_Site___init__ : Fun K "__init__" "Site.__init__" s_Site___init__ (He.ma K (He.ga K "Site") "__init__") d_Site___init__ := funOf F_Site___init__
  have b_Site___init__ := f_Site___init__.binds (ps := ["self", "copies", "piece"]) fun _ _ _ _ _ _ us hl => match us, hl with | [_, _, _], _ => rfl
  obtain ⟨d_Ask___init__, E_Ask___init__⟩ := D.def_ 52 (d := dm "Ask" "__init__" "Ask.__init__" s_Ask___init__ [] []) rfl
  have F_Ask___init__ : FunD K "__init__" "Ask.__init__" (defArgs s_Ask___init__) (defBody s_Ask___init__) (defScope s_Ask___init__) [] [] (He.ma K (He.ga K "Ask") "__init__") d_Ask___init__ := E_Ask___init__
  have f_Ask___init__ : Fun K "__init__" "Ask.__init__" s_Ask___init__ (He.ma K (He.ga K "Ask") "__init__") d_Ask___init__ := funOf F_Ask___init__
  have b_Ask___init__ := f_Ask___init__.binds (ps := ["self", "source", "sent", "only", "spans"]) fun _ _ _ _ _ _ us hl => match us, hl with | [_, _, _, _, _], _ => rfl
  obtain ⟨d_Picture___init__, E_Picture___init__⟩ := D.def_ 53 (d := dm "Picture" "__init__" "Picture.__init__" s_Picture___init__ [] []) rfl
  have F_Picture___init__ : FunD K "__init__" "Picture.__init__" (defArgs s_Picture___init__) (defBody s_Picture___init__) (defScope s_Picture___init__) [] [] (He.ma K (He.ga K "Picture") "__init__") d_Picture___init__ := E_Picture___init__
  have f_Picture___init__ : Fun K "__init__" "Picture.__init__" s_Picture___init__ (He.ma K (He.ga K "Picture") "__init__") d_Picture___init__ := funOf F_Picture___init__
  have b_Picture___init__ := f_Picture___init__.binds (ps := ["self", "site", "rows"]) fun _ _ _ _ _ _ us hl => match us, hl with | [_, _, _], _ => rfl
  obtain ⟨d_State___init__, E_State___init__⟩ := D.def_ 54 (d := dm "State" "__init__" "State.__init__" s_State___init__ [] []) rfl
  have F_State___init__ : FunD K "__init__" "State.__init__" (defArgs s_State___init__) (defBody s_State___init__) (defScope s_State___init__) [] [] (He.ma K (He.ga K "State") "__init__") d_State___init__ := E_State___init__
  have f_State___init__ : Fun K "__init__" "State.__init__" s_State___init__ (He.ma K (He.ga K "State") "__init__") d_State___init__ := funOf F_State___init__
  have b_State___init__ := f_State___init__.binds (ps := ["self", "site", "time", "upcoming", "asks", "told", "gone", "picture"]) fun _ _ _ _ _ _ us hl => match us, hl with | [_, _, _, _, _, _, _, _], _ => rfl
  obtain ⟨d_Keeper___init__, E_Keeper___init__⟩ := D.def_ 55 (d := dm "Keeper" "__init__" "Keeper.__init__" s_Keeper___init__ [] [("piece", .int 4)]) rfl
  have F_Keeper___init__ : FunD K "__init__" "Keeper.__init__" (defArgs s_Keeper___init__) (defBody s_Keeper___init__) (defScope s_Keeper___init__) [] [("piece", .int 4)] (He.ma K (He.ga K "Keeper") "__init__") d_Keeper___init__ := E_Keeper___init__
  obtain ⟨d_Keeper_become, E_Keeper_become⟩ := D.def_ 56 (d := dm "Keeper" "become" "Keeper.become" s_Keeper_become [] []) rfl
  have F_Keeper_become : FunD K "become" "Keeper.become" (defArgs s_Keeper_become) (defBody s_Keeper_become) (defScope s_Keeper_become) [] [] (He.ma K (He.ga K "Keeper") "become") d_Keeper_become := E_Keeper_become
  have f_Keeper_become : Fun K "become" "Keeper.become" s_Keeper_become (He.ma K (He.ga K "Keeper") "become") d_Keeper_become := funOf F_Keeper_become
  have b_Keeper_become := f_Keeper_become.binds (ps := ["self", "state"]) fun _ _ _ _ _ _ us hl => match us, hl with | [_, _], _ => rfl
  obtain ⟨d_Keeper_wait, E_Keeper_wait⟩ := D.def_ 57 (d := dm "Keeper" "wait" "Keeper.wait" s_Keeper_wait [] []) rfl
  have F_Keeper_wait : FunD K "wait" "Keeper.wait" (defArgs s_Keeper_wait) (defBody s_Keeper_wait) (defScope s_Keeper_wait) [] [] (He.ma K (He.ga K "Keeper") "wait") d_Keeper_wait := E_Keeper_wait
  have f_Keeper_wait : Fun K "wait" "Keeper.wait" s_Keeper_wait (He.ma K (He.ga K "Keeper") "wait") d_Keeper_wait := funOf F_Keeper_wait
  have b_Keeper_wait := f_Keeper_wait.binds (ps := ["self", "many"]) fun _ _ _ _ _ _ us hl => match us, hl with | [_, _], _ => rfl
  obtain ⟨d_Keeper_ask, E_Keeper_ask⟩ := D.def_ 58 (d := dm "Keeper" "ask" "Keeper.ask" s_Keeper_ask [.non] [("only", .non)]) rfl
  have F_Keeper_ask : FunD K "ask" "Keeper.ask" (defArgs s_Keeper_ask) (defBody s_Keeper_ask) (defScope s_Keeper_ask) [.non] [("only", .non)] (He.ma K (He.ga K "Keeper") "ask") d_Keeper_ask := E_Keeper_ask
  obtain ⟨d_Keeper_lost, E_Keeper_lost⟩ := D.def_ 59 (d := dm "Keeper" "lost" "Keeper.lost" s_Keeper_lost [] []) rfl
  have F_Keeper_lost : FunD K "lost" "Keeper.lost" (defArgs s_Keeper_lost) (defBody s_Keeper_lost) (defScope s_Keeper_lost) [] [] (He.ma K (He.ga K "Keeper") "lost") d_Keeper_lost := E_Keeper_lost
  have f_Keeper_lost : Fun K "lost" "Keeper.lost" s_Keeper_lost (He.ma K (He.ga K "Keeper") "lost") d_Keeper_lost := funOf F_Keeper_lost
  have b_Keeper_lost := f_Keeper_lost.binds (ps := ["self", "number"]) fun _ _ _ _ _ _ us hl => match us, hl with | [_, _], _ => rfl
  have c_Keeper := He.cls_ok (D.fact 84 (f := .cls "Keeper") rfl)
  have k_Keeper := He.mkr_ok (D.fact 85 (f := .mkr "Keeper") rfl)
  have O_Keeper : OC K mg "Keeper" (He.ga K "Keeper") (He.ma K (He.ga K "Keeper") "__init__") fKe := ⟨c_Keeper, k_Keeper, m_Keeper, noB_ok nK⟩
  have c_State := He.cls_ok (D.fact 86 (f := .cls "State") rfl)
  have k_State := He.mkr_ok (D.fact 87 (f := .mkr "State") rfl)
  have O_State : OC K mg "State" (He.ga K "State") (He.ma K (He.ga K "State") "__init__") fSta := ⟨c_State, k_State, m_State, noB_ok nS⟩
  have c_Site := He.cls_ok (D.fact 88 (f := .cls "Site") rfl)
  have k_Site := He.mkr_ok (D.fact 89 (f := .mkr "Site") rfl)
  have O_Site : OC K mg "Site" (He.ga K "Site") (He.ma K (He.ga K "Site") "__init__") fSi := ⟨c_Site, k_Site, m_Site, noB_ok nSi_⟩
  have c_Picture := He.cls_ok (D.fact 90 (f := .cls "Picture") rfl)
  have k_Picture := He.mkr_ok (D.fact 91 (f := .mkr "Picture") rfl)
  have O_Picture : OC K mg "Picture" (He.ga K "Picture") (He.ma K (He.ga K "Picture") "__init__") fPi := ⟨c_Picture, k_Picture, m_Picture, noB_ok nP⟩
  have c_Steps := He.cls_ok (D.fact 92 (f := .cls "Steps") rfl)
  have k_Steps := He.mkr_ok (D.fact 93 (f := .mkr "Steps") rfl)
  have O_Steps : OC K mg "Steps" (He.ga K "Steps") (He.ma K (He.ga K "Steps") "__init__") fSt := ⟨c_Steps, k_Steps, m_Steps, noB_ok nT⟩
  have c_Ask := He.cls_ok (D.fact 94 (f := .cls "Ask") rfl)
  have k_Ask := He.mkr_ok (D.fact 95 (f := .mkr "Ask") rfl)
  have O_Ask : OC K mg "Ask" (He.ga K "Ask") (He.ma K (He.ga K "Ask") "__init__") ["source", "sent", "only", "spans"] := ⟨c_Ask, k_Ask, m_Ask, noB_ok nA⟩
  have c_Spans := He.cls_ok (D.fact 96 (f := .cls "Spans") rfl)
  have k_Spans := He.mkr_ok (D.fact 97 (f := .mkr "Spans") rfl)
  have t_become := He.meth_ok (D.fact 98 (f := .meth "Keeper" "become") rfl)
  have t_wait := He.meth_ok (D.fact 99 (f := .meth "Keeper" "wait") rfl)
  have t_ask := He.meth_ok (D.fact 100 (f := .meth "Keeper" "ask") rfl)
  have t_lost := He.meth_ok (D.fact 101 (f := .meth "Keeper" "lost") rfl)
  obtain ⟨SC, NS⟩ := spB_ok (mg := mg) xS c_Spans (noB_ok nSp _ List.mem_cons_self) m_Spans
  have EK := empB_ok xP
  have eAll := List.all_eq_true.mp xE
  have B1 := errB_ok (mg := mg) (eAll "NoCopy" (List.mem_of_getElem? (i := 0) rfl)) KE m_NoCopy m_KeeperError
  have B2 := errB_ok (mg := mg) (eAll "BadSpans" (List.mem_of_getElem? (i := 1) rfl)) KE m_BadSpans m_KeeperError
  have B3 := errB_ok (mg := mg) (eAll "BadWord" (List.mem_of_getElem? (i := 2) rfl)) KE m_BadWord m_KeeperError
  have B4 := errB_ok (mg := mg) (eAll "NoAsk" (List.mem_of_getElem? (i := 3) rfl)) KE m_NoAsk m_KeeperError
  have B5 := errB_ok (mg := mg) (eAll "BadCount" (List.mem_of_getElem? (i := 4) rfl)) KE m_BadCount m_KeeperError
  obtain ⟨dsK, rK, bK⟩ := bnd_keep F_Keeper___init__
  obtain ⟨dsT, rT, bT⟩ := bnd_steps F_Steps___init__
  have kbA := bnd_ask F_Keeper_ask
  have n1 : He.ga K "State" ≠ He.ga K "Keeper" := of_decide_eq_true d1
  have n2 : He.ga K "Site" ≠ He.ga K "Keeper" := of_decide_eq_true d2
  have n3 : (He.cT K asked_).2 ≠ (He.cT K called_).2 := of_decide_eq_true d3
  have eF : fa = He.ga K "law" := by
    rw [m_law] at hfa
    injection hfa with z
    injection z with z
    exact z.symm
  subst eF
  refine ⟨d_law, fun s u => FunD.bindsA (ps := ["_law_script"]) (show FunD K "law" "law" (defArgs s_law) (defBody s_law) (defScope s_law) [] [] (He.ga K "law") d_law from F_law) (fun _ _ _ _ _ _ us hl => match us, hl with | [_], _ => rfl) s [u] rfl, fun base _ _ hbs hTB => ?_⟩
  have gWhole := ok_whole (P := P) (w := w) (base := base) f_is_whole_number T
  have gWithin := ok_within (P := P) (w := w) (base := base) f_is_within gWhole m_is_whole_number k_is_whole_number b_is_whole_number
  have gNumIn := ok_numIn (P := P) (w := w) (base := base) f_is_number_in gWhole m_is_whole_number k_is_whole_number b_is_whole_number
  have gMade := ok_madeOf (P := P) (w := w) (base := base) f__is_made_of T
  have gName := ok_name (P := P) (w := w) (base := base) f_is_name T gMade m__is_made_of k__is_made_of b__is_made_of
  have gWord := ok_word (P := P) (w := w) (base := base) f_is_word T gMade m__is_made_of k__is_made_of b__is_made_of
  have gTupOf := ok_tupOf (P := P) (w := w) (base := base) f_is_tuple_of T
  have gLeads := ok_leads (P := P) (w := w) (base := base) f__leads_out T
  have gIsCopy := ok_isCopy (P := P) (w := w) (base := base) f_is_copy gTupOf m_is_tuple_of k_is_tuple_of b_is_tuple_of gName m_is_name k_is_name b_is_name
  have gAre := ok_are (P := P) (w := w) (base := base) f_are_copies T gIsCopy m_is_copy k_is_copy b_is_copy gLeads m__leads_out k__leads_out b__leads_out
  have gCheckC := ok_checkC (P := P) (w := w) (base := base) f_check_copies gAre m_are_copies k_are_copies b_are_copies
  have gAbove := ok_above (P := P) (w := w) (base := base) f_above_of T
  have gMask := ok_mask (P := P) (w := w) (base := base) f_mask_of T
  have gSharing := ok_sharing (P := P) (w := w) (base := base) f__sharing T
  have gSeen := ok_seen (P := P) (w := w) (base := base) f__seen_at T
  have gBy := ok_by (P := P) (w := w) (base := base) f__by_time T gSeen m__seen_at k__seen_at b__seen_at
  have gReached := ok_reached (P := P) (w := w) (base := base) f__reached T
  have gTurned := ok_turned (P := P) (w := w) (base := base) f__turned T
  have gSteps := ok_steps (P := P) (w := w) (base := base) F_Steps___init__ T O_Steps EK gBy m__by_time k__by_time b__by_time gSharing m__sharing k__sharing b__sharing gMask m_mask_of k_mask_of b_mask_of gReached m__reached k__reached b__reached gTurned m__turned k__turned b__turned
  have gNamed := ok_named (P := P) (w := w) (base := base) f__named_runs T
  have gContents := ok_contents (P := P) (w := w) (base := base) f_contents_of T gNamed m__named_runs k__named_runs b__named_runs
  have gPic := ok_pic (P := P) (w := w) (base := base) f_Picture___init__ T O_Picture O_Site O_Steps gSteps bT rT gContents m_contents_of k_contents_of b_contents_of
  have gSite := ok_site (P := P) (w := w) (base := base) f_Site___init__ O_Site gAbove m_above_of k_above_of b_above_of
  have gAskI := ok_askI (P := P) (w := w) (base := base) f_Ask___init__ O_Ask
  have gState := ok_state (P := P) (w := w) (base := base) f_State___init__ O_State
  have gLater := ok_later (P := P) (w := w) (base := base) f_later O_State gState b_State___init__
  have gWith := ok_with (P := P) (w := w) (base := base) f__with_asks O_State gState b_State___init__
  have gFirst := ok_first (P := P) (w := w) (base := base) f_first_state O_State gState b_State___init__ O_Picture gPic b_Picture___init__
  have gClosed := ok_closed (P := P) (w := w) (base := base) f__closed O_State gWith m__with_asks k__with_asks b__with_asks
  have gAfterAsk := ok_afterAsk (P := P) (w := w) (base := base) f_after_ask T O_State gWith m__with_asks k__with_asks b__with_asks gLater m_later k_later b_later O_Ask gAskI b_Ask___init__
  have gAfterLoss := ok_afterLoss (P := P) (w := w) (base := base) f_after_loss gClosed m__closed k__closed b__closed gLater m_later k_later b_later
  have gIsPair := ok_isPair (P := P) (w := w) (base := base) f__is_pair T gWithin m_is_within k_is_within b_is_within
  have gMerged := ok_merged (P := P) (w := w) (base := base) f__merged T
  have gSpans := ok_init (P := P) (w := w) (base := base) f_Spans___init__ T SC gIsPair m__is_pair k__is_pair b__is_pair gMerged m__merged k__merged b__merged
  have gB1 := ok_NoCopy (P := P) (w := w) (base := base) f_NoCopy___init__ B1
  have gB2 := ok_BadSpans (P := P) (w := w) (base := base) f_BadSpans___init__ B2
  have gB3 := ok_BadWord (P := P) (w := w) (base := base) f_BadWord___init__ B3
  have gB4 := ok_NoAsk (P := P) (w := w) (base := base) f_NoAsk___init__ B4
  have gB5 := ok_BadCount (P := P) (w := w) (base := base) f_BadCount___init__ B5
  have gCheckCopy := ok_checkCopy (P := P) (w := w) (base := base) f_check_copy T O_Site B1 gB1 b_NoCopy___init__
  have gCheckSpans := ok_checkSpans (P := P) (w := w) (base := base) f_check_spans T m_Spans B2 gB2 b_BadSpans___init__
  have gCheckAsk := ok_checkAsk (P := P) (w := w) (base := base) f_check_ask O_State B4 gNumIn m_is_number_in k_is_number_in b_is_number_in gB4 b_NoAsk___init__
  have gBecome := ok_become (P := P) (w := w) (base := base) f_Keeper_become T O_Keeper O_State n1 n2
  let KD : KDefs P w K mg base (He.ga K "Keeper") (He.ga K "State") (He.ga K "Site") := ⟨_, _, _, O_Keeper, O_State, O_Site, _, _, gBecome, b_Keeper_become, t_become, _, _, gWithin, m_is_within, k_is_within, b_is_within, _, _, gLater, m_later, k_later, b_later⟩
  have gKeep := ok_keep (P := P) (w := w) (base := base) F_Keeper___init__ KD gCheckC m_check_copies k_check_copies b_check_copies gFirst m_first_state k_first_state b_first_state gSite b_Site___init__
  have gWait := ok_wait (P := P) (w := w) (base := base) f_Keeper_wait KD B5 gB5 b_BadCount___init__
  have gLost := ok_lost (P := P) (w := w) (base := base) f_Keeper_lost KD gCheckAsk m_check_ask k_check_ask b_check_ask gAfterLoss m_after_loss k_after_loss b_after_loss
  have gAsk := ok_ask (P := P) (w := w) (base := base) F_Keeper_ask KD gCheckCopy m_check_copy k_check_copy b_check_copy gCheckSpans m_check_spans k_check_spans b_check_spans gWord m_is_word k_is_word b_is_word gAfterAsk m_after_ask k_after_ask b_after_ask B3 gB3 b_BadWord___init__
  have gDraw := ok_draw (P := P) (w := w) (base := base) f__law_draw T
  have gAny := ok_any (P := P) (w := w) (base := base) f__law_any T gDraw m__law_draw k__law_draw b__law_draw
  have gPot := ok_pot (P := P) (w := w) (base := base) f__law_pot T
  have gWords := ok_words (P := P) (w := w) (base := base) f__law_words T gDraw m__law_draw k__law_draw b__law_draw gAny m__law_any k__law_any b__law_any
  have gCopies := ok_copies (P := P) (w := w) (base := base) f__law_copies T gDraw m__law_draw k__law_draw b__law_draw gWords m__law_words k__law_words b__law_words
  have gLW := ok_lawWord (P := P) (w := w) (base := base) f__law_is_word T
  have gLN := ok_lawNum (P := P) (w := w) (base := base) f__law_is_number T
  let LD : LDefs P w K mg base (He.ga K "Keeper") (He.ga K "State") (He.ga K "Site") (He.ga K "Spans") (He.ga K "NoCopy") (He.ga K "BadSpans") (He.ga K "BadWord") (He.ga K "NoAsk") (He.ga K "BadCount") (He.ga K "KeeperError") :=
    ⟨T, c_Keeper, noB_ok nK, _, _, gDraw, m__law_draw, k__law_draw, b__law_draw, _, _, gAny, m__law_any, k__law_any, b__law_any, _, _, gLW, m__law_is_word, k__law_is_word, b__law_is_word, _, _, gLN, m__law_is_number, k__law_is_number, b__law_is_number, _, k_Spans, gSpans, m_Spans, NS, SC.kCC, SC, _, _, f__law_caught, m__law_caught, k__law_caught, b__law_caught,
      ⟨B1.mgB, B1.xf, B1.noV⟩, ⟨B2.mgB, B2.xf, B2.noV⟩, ⟨B3.mgB, B3.xf, B3.noV⟩, ⟨B4.mgB, B4.xf, B4.noV⟩, ⟨B5.mgB, B5.xf, B5.noV⟩, m_KeeperError, fun i j C D hi hj => exmB_ok xM i j C D hi hj,
      _, _, gAsk, t_ask, kbA, _, _, gLost, t_lost, b_Keeper_lost, _, _, gWait, t_wait, b_Keeper_wait, fun fs h x hx => h x hx⟩
  have hcA : d__law_asked_right.code = .ref (He.cT K asked_).1 := codeD (p := asked_) F__law_asked_right
  have hcC : d__law_call_right.code = .ref (He.cT K called_).1 := codeD (p := called_) F__law_call_right
  have TB1 := hTB (He.cT K asked_) List.mem_cons_self
  have TB2 := hTB (He.cT K called_) (List.mem_cons_of_mem _ List.mem_cons_self)
  have hu1 : ∀ p ∈ tbs K, p.1 = (He.cT K asked_).2 → p.2 = laN := fun p hp e => by
    rcases List.mem_cons.mp hp with z | z
    · rw [z]
    · rw [List.mem_singleton.mp z] at e
      exact absurd e.symm n3
  have hu2 : ∀ p ∈ tbs K, p.1 = (He.cT K called_).2 → p.2 = lcN := fun p hp e => by
    rcases List.mem_cons.mp hp with z | z
    · rw [z] at e
      exact absurd e n3
    · rw [List.mem_singleton.mp z]
  have gAsked := ok_asked (T := tbs K) f__law_asked_right LD hcA TB1 List.mem_cons_self hu1 hbs
  have gCalled := ok_called (T := tbs K) f__law_call_right LD hcC TB2 (List.mem_cons_of_mem _ List.mem_cons_self) hu2 hbs gAsked m__law_asked_right k__law_asked_right b__law_asked_right
  have gRight := ok_right f__law_right LD gCalled m__law_call_right k__law_call_right b__law_call_right gCopies m__law_copies k__law_copies b__law_copies k_Keeper gKeep m_Keeper bK rK
  exact ok_law f_law T gRight m__law_right k__law_right b__law_right gPot m__law_pot k__law_pot b__law_pot
end Sps
set_option Elab.async false
set_option linter.all false
set_option maxRecDepth 100000
set_option maxHeartbeats 0
namespace Sps
open PySem PySem.Spec PyProof.Rows L2
theorem tabs0 {K : PySem.W.Frag} {H : Hp} (h : ∀ p ∈ [He.cT K asked_, He.cT K called_], H p.2 = some (.tbl #[])) : LamX.Tabs (tbs K) H := fun p hp => by
  have e : H p.1 = some (.tbl #[]) := by
    rcases List.mem_cons.mp hp with z | z
    · rw [z]
      exact h _ List.mem_cons_self
    · rw [List.mem_singleton.mp z]
      exact h _ (List.mem_cons_of_mem _ List.mem_cons_self)
  exact ⟨#[], e, trivial, fun _ _ q => by cases q⟩
theorem inTf {K : PySem.W.Frag} {p : Addr × Addr} (hp : p ∈ [He.cT K asked_, He.cT K called_]) : ∃ q ∈ tfA, p = He.cT K q := by
  rcases List.mem_cons.mp hp with z | z
  · exact ⟨asked_, List.mem_cons_self, z⟩
  · exact ⟨called_, List.mem_cons_of_mem _ List.mem_cons_self, List.mem_singleton.mp z⟩
end Sps
open PySem PySem.W PySem.Calls PyProof.Rows in
set_option maxRecDepth 100000 in
set_option maxHeartbeats 0 in
theorem PySem.Challenge.cw_oneedition_k86_asks_and_time_holds : PySem.Challenge.rw_oneedition_k86_asks_and_time.Holds := by
  w_on; o_law
  refine HandSHeadRun.head_any (r := OpenLaw.row PySem.Challenge.rw_oneedition_k86_asks_and_time) (q := view (OpenLaw.row PySem.Challenge.rw_oneedition_k86_asks_and_time).prog [144]) (H := Sps.hkA) (ob := Sps.ob) (M := 30000) (loose := Sps.names) (d := HandSHeadRun.topDef (OpenLaw.row PySem.Challenge.rw_oneedition_k86_asks_and_time).prog 144) (kwd := []) Sps.ob_eq
    (by kernel_rfl) (fun s => by kernel_rfl) Sps.runA (by kernel_rfl) (by kernel_rfl) (by kernel_rfl) (by rfl) (by first | assumption | decide +kernel) (by decide +kernel) ⟨rfl, rfl, rfl, rfl, rfl, by decide +kernel⟩ ?hw ?hc
  case hw => w_witness2
  case hc =>
    refine Sps.walkTG (l := PySem.Challenge.rw_oneedition_k86_asks_and_time) (n := 63) (k := 11) (x := "_law_script") rfl (by decide) (by kernel_rfl) (by kernel_rfl) ⟨rfl, by decide, by decide⟩ ?F
    intro w mg fa h Y G hmg0
    obtain ⟨K, KX, c⟩ := Y
    have hmg : mg ("law" : PySem.Str) = some (.ref fa) := by
      have e : (HandSHeadRun.topDef (OpenLaw.row PySem.Challenge.rw_oneedition_k86_asks_and_time).prog 144).name = ("law" : PySem.Str) := by kernel_rfl
      rw [← e]
      exact hmg0
    obtain ⟨fd, hb, hF⟩ := Sps.allD (P := (PySem.Challenge.rw_oneedition_k86_asks_and_time).prog) (w := w) KX G hmg c
    refine ⟨K, fd, [He.cT K Sps.asked_, He.cT K Sps.called_], Sps.spLaw K (Sps.tbs K), KX, fun p hp => ?_, fun p hp => ?_, fun p hp => ?_, hb, fun H a ns hl hT hS => ⟨a, ns, rfl, hS, hl, Sps.tabs0 hT, fun _ => rfl⟩, hF⟩
    · obtain ⟨q, hq, rfl⟩ := Sps.inTf hp
      exact c.empty q hq
    · obtain ⟨q, hq, rfl⟩ := Sps.inTf hp
      exact c.out q hq
    · obtain ⟨q, hq, rfl⟩ := Sps.inTf hp
      exact PySem.W.codeHd_of_K KX (c.hd q hq)
