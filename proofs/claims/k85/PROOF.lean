import PyProof.Rows.All
import Wide.All
import OpenK.AllK
import Wide.FinOn
import HandS.ForMost
import HandS.Star
import HandS.More
import HandS.Sort
import HandS.SortRule
import HandS.SortInts
import HandS.IsInst
import HandS.TupAny
import HandS.Wide
import HandS.WideMore
import HandS.ListItems
import HandS.Flow
import HandS.DictEq
import HandS.SlotsOwn
import KE.KOpsOwn
import KE.KRevSl
import PyProof.ListRange
import HandS.Head0
import HandS.Head1
import HandS.Head2
import HandS.HeadEnd
import HandS.HeadHook1
import HandS.HeadHook2
import HandS.HeadHook3
import HandS.HeadHook4
import HandS.ExcField
import HandS.Walk
import HandS.DictTup
import HandS.TupSets
import KE.KDictPairs
import HandS.Zip
import HandS.Conv
import KE.KDictList
import KE.GoesMore
import KE.GoesZip
import HandS.DictComp
import HandS.Defaults
import HandS.Base
import HandS.ExcIs
import HandS.ExcInit
import HandS.TryMany
import HandS.WordsExc
import HandS.Text
import HandS.Lambda
import PyProof.Rows.StrMeet
import HandS.SetTxt0
import HandS.Set
import HandS.Strs
import HandS.Style
import HandS.EndTab
import HandS.EndBits
import PyProof.P3Eq
import HandS.MakeKwOnly
import PySem.Challenge.RW_oneedition_k85_copies_of_any_value
set_option Elab.async false
set_option linter.all false
set_option maxRecDepth 100000
set_option maxHeartbeats 4000000
/-! Rules of our own over the hand layer: operators of an own class, sorted over dicts and tuples of any length, dicts compared, ranges, t[::-1]. -/
namespace Sps
open PySem PySem.Spec PyProof.Rows L2
section
variable {X : Cx} {CX : CXT} {n : Nat} {C g : Addr} {sp : Sp} {E : XK}

/-- a & b and its like: both instances of the class at C -/
def rBin (C : Addr) (sp : Sp) (E : XK) : R2 := fun x y H Q => ∃ a dx fs b dy gs, x = .ref a ∧ y = .ref b ∧ H a = some (.ins C dx fs) ∧ H b = some (.ins C dy gs) ∧ sp [x, y] H Q E
theorem op_bin {op : Operator} (hc : PySem.W.selfFirst X.K C = true) (hs : PySem.W.findIn X.K (.ref C) (PySem.dunder op.info.2) = some (some (.ref g))) (hf : PySem.W.isFn X.K (.ref g) = true)
    (F : FnR X.prog X.w X.K X.mg X.base CX n g sp) (hr : Room n X.A) (hx : Passes CX X E) : OpR X (binaryOp op) (rBin C sp E) := by
  intro pins s σ H x y v u Q I rx ry h
  obtain ⟨a, dx, fs, b, dy, gs, rfl, rfl, ha, hb, q⟩ := h
  cases (show v = Value.ref a from rx)
  cases (show u = Value.ref b from ry)
  obtain ⟨mA, OA, _⟩ := ins_get I.hok ha
  obtain ⟨_, JA, _⟩ := OA.look
  obtain ⟨mB, OB, _⟩ := ins_get I.hok hb
  obtain ⟨_, JB, _⟩ := OB.look
  obtain ⟨m, hF⟩ := I.fr
  refine PySem.W.binop_K hF I.ok.mod.kin JA JB.type hc hs hf ?_
  refine wpAny_mono (wpAny_call (run_fnR (us := [.ref a, .ref b]) (vs := [.ref a, .ref b]) F hr hx I (.cons rfl (.cons rfl .nil)) q)) (fun w s' z => ?_) fun _ _ e => e
  obtain ⟨z', H', I', rz, qz⟩ := z
  exact SlX.cmpback rz ⟨z', H', I', rz, qz⟩

/-- a == y by the class's own def: y of any type that is told -/
def rEqO (K : PySem.W.Frag) (C : Addr) (sp : Sp) (E : XK) : R2 := fun x y H Q => ∃ a dx fs, x = .ref a ∧ H a = some (.ins C dx fs) ∧
  ((∃ b dy gs, y = .ref b ∧ H b = some (.ins C dy gs) ∧ PySem.W.notFirst K C (.ref C) = true) ∨ (∃ b ys, y = .ref b ∧ H b = some (.tup ys) ∧ PySem.W.notFirst K C (.type "tuple") = true) ∨ (∃ i, y = .int i ∧ PySem.W.notFirst K C (.type "int") = true)) ∧ sp [x, y] H Q E
theorem op_eqO (hs : PySem.W.findIn X.K (.ref C) "__eq__" = some (some (.ref g))) (hf : PySem.W.isFn X.K (.ref g) = true)
    (F : FnR X.prog X.w X.K X.mg X.base CX n g sp) (hr : Room n X.A) (hx : Passes CX X E) : OpR X (compareOp .Eq) (rEqO X.K C sp E) := by
  intro pins s σ H x y v u Q I rx ry h
  obtain ⟨a, dx, fs, rfl, ha, hy, q⟩ := h
  cases (show v = Value.ref a from rx)
  obtain ⟨mA, OA, _⟩ := ins_get I.hok ha
  obtain ⟨_, JA, _⟩ := OA.look
  obtain ⟨m, hF⟩ := I.fr
  have core : ∀ (tb : Value), PySem.W.Looks (model X.prog X.w) s.heap (typeOf u) tb → PySem.W.notFirst X.K C tb = true → wpAny (model X.prog X.w) X.A (compareOp .Eq (.ref a) u) (EP X pins σ Q) X.xe s := by
    intro tb hb hn
    show wpAny (model X.prog X.w) X.A (richCompare .Eq (.ref a) u) _ _ s
    refine PySem.W.cmp_K (op := .Eq) (tb := tb) hr.units0 hF I.ok.mod.kin JA hb hn hs hf ?_
    refine wpAny_mono (wpAny_call (run_fnR (us := [.ref a, u]) (vs := [.ref a, y]) F hr hx I (.cons rfl (.cons ry .nil)) q)) (fun w s' z => ?_) fun _ _ e => e
    obtain ⟨z', H', I', rz, qz⟩ := z
    exact SlX.cmpback rz ⟨z', H', I', rz, qz⟩
  rcases hy with ⟨b, dy, gs, rfl, hb, hn⟩ | ⟨b, ys, rfl, hb, hn⟩ | ⟨i, rfl, hn⟩
  · cases (show u = Value.ref b from ry)
    obtain ⟨mB, OB, _⟩ := ins_get I.hok hb
    obtain ⟨_, JB, _⟩ := OB.look
    exact core _ JB.type hn
  · cases (show u = Value.ref b from ry)
    obtain ⟨_, _, _, o, h1, h2, _⟩ := (show ObjOk X.prog X.w H s.heap b (.tup ys) from I.hok b _ hb)
    have hT : PySem.W.Looks (model X.prog X.w) s.heap (typeOf (.ref b)) o.cls := (PySem.W.Looks.ld h1).andThen .now
    rw [h2] at hT
    exact core _ hT hn
  · obtain ⟨t, e⟩ := (show ∃ t, u = Value.int i t from ry)
    subst e
    exact core _ (PySem.W.Looks.of_pure rfl) hn

/-- len(a) by the class's own def -/
def rLenO (C : Addr) (sp : Sp) (E : XK) : List V → Hp → VK → Prop := fun xs H Q => ∃ a dx fs, xs = [.ref a] ∧ H a = some (.ins C dx fs) ∧ sp [.ref a] H (fun v H' => ∃ i : Int, v = .int i ∧ 0 ≤ i ∧ i < 2 ^ 63 ∧ Q (.int i) H') E
theorem call_lenO (hs : PySem.W.findIn X.K (.ref C) "__len__" = some (some (.ref g))) (hf : PySem.W.isFn X.K (.ref g) = true)
    (F : FnR X.prog X.w X.K X.mg X.base CX n g sp) (hr : Room (n + 1) X.A) (hx : Passes CX X E) : CallR X (.builtin "len") (rLenO C sp E) := by
  intro pins s σ H xs us Q I r h
  obtain ⟨a, dx, fs, rfl, ha, q⟩ := h
  obtain ⟨u, rfl, ru⟩ := r.one
  cases (show u = Value.ref a from ru)
  obtain ⟨mA, OA, _⟩ := ins_get I.hok ha
  obtain ⟨_, JA, _⟩ := OA.look
  obtain ⟨m, hF⟩ := I.fr
  refine PySem.W.len_K hF I.ok.mod.kin JA hs hf ?_
  refine wpAny_mono (wpAny_call (SlX.run_at (us := [.ref a]) (ws := [.ref a]) F hr.in1 I.env0.in1 hx I (.cons rfl .nil) q)) (fun w s' z => ?_) fun _ _ e => e
  obtain ⟨z', H', I', rz, i, rfl, h0, h1, qz⟩ := z
  obtain ⟨t, e⟩ := (show ∃ t, w = Value.int i t from rz)
  subst e
  exact ⟨⟨h0, h1⟩, .int i, H', I'.tok _, ⟨_, rfl⟩, qz⟩

/-! ### sorted -/
/-- sorted(d), d a dict of ints, of any length -/
def rSortD : List V → Hp → VK → Prop := fun xs H Q => ∃ (a : Addr) (kvs : List (Key × V)) (ks : List Int), xs = [.ref a] ∧ Rd H a (.dK kvs) ∧ kvs.map (·.1) = ks.map Sum.inl ∧
  ∀ (ys : List Int) (p : Addr), ys.Perm ks → ys.Pairwise (· ≤ ·) → H p = none → Q (.ref p) (upd H p (.lst (ys.map V.int)))
theorem call_sortD (hcalm : X.calm = true) : CallR X (.builtin "sorted") rSortD := by
  intro pins s σ H xs us Q I r q
  obtain ⟨a, kvs, ks, ex, hd, hks, q⟩ := q
  subst ex
  obtain ⟨u, eu, rx⟩ := vals1 r
  subst eu
  cases rx
  obtain ⟨z, lo, vs, rel, dd⟩ := dk_rd I.hok hd
  obtain ⟨ep, hat⟩ := dd.dictAt
  have hkeys : vs.map (·.1) = ks.map Sum.inl := rel.keys.symm.trans hks
  have hl : vs.length = ks.length := by
    have e := congrArg List.length hkeys
    rw [List.length_map, List.length_map] at e
    exact e
  have hl2 : kvs.length = ks.length := by
    have e := congrArg List.length hks
    rw [List.length_map, List.length_map] at e
    exact e
  have h16 : vs.length ≤ sizeLine := by rw [hl, ← hl2]; exact z
  refine Calls.call_function_entry PyProof.Rows.kind_sorted PyProof.Rows.plain_sorted PyProof.Rows.entry_sorted (PyProof.Rows.args_sorted1 _) ?_
  unfold Builtin.«sorted»
  refine wpAny_bind (m := checkCount "sorted" 1 1 _) (wpAny_pure ?_)
  refine wpAny_bind (PySem.W.kdu_collect (A := X.A.in1) (PySem.W.kdl_dict (knd := mixKind X.prog X.w) (kvs := vs) (ep := ep) lo) (I.ok.hd hcalm) hat h16 fun h' tk acc hk hacc => ?_)
  have hal : acc.toList.length = ks.length := by rw [Array.length_toList, hacc.1, hl]
  have hS : IntsAre acc.toList ks := ints_each hal fun j v e => by
    obtain ⟨k, x, e1, e2⟩ := hacc.2 j v (by rw [← Array.getElem?_toList]; exact e)
    have e3 : (vs.map (·.1))[j]? = some k := by rw [List.getElem?_map, e1]; rfl
    rw [hkeys, List.getElem?_map] at e3
    cases e4 : ks[j]? with
    | none => rw [e4] at e3; cases e3
    | some y =>
      rw [e4] at e3
      have e5 : Sum.inl y = k := Option.some.inj e3
      subst e5
      rcases keyIs_shape (show keyIs (Sum.inl y) v = true from e2) with ⟨i, t, ek, ev⟩ | ⟨z, t, ek, ev⟩
      · cases ek
        exact ⟨y, t, rfl, ev⟩
      · cases ek
  have I1 : Inv X pins σ H { s with heap := h', toks := tk } := I.kept hk
  have hal2 : acc.toList.length ≤ sizeLine := by rw [hal, ← hl2]; exact z
  refine wpAny_bind (wpAny_newList ?_ hal2)
  have hoL : (h'.push (seqObj "list" acc.toList.toArray 0)).get? h'.objs.size = some (seqObj "list" acc.toList.toArray 0) := Heap.get?_push_size _ rfl
  show wpAny _ _ _ _ _ { s with heap := h'.push (seqObj "list" acc.toList.toArray 0), toks := tk }
  refine wpAny_bind (wpAny_holding (wpAny_call_entry PyProof.Rows.slot_list_sort ⟨_, hoL, rfl⟩ PyProof.Rows.entry_list_sort
    (SrtO.list_sort_ord SrtO.swo_int hoL hal2 (fun h2 => SrtO.ints_sortable hS h2) fun out g1 g2 => ⟨.none, rfl, ?_⟩) (PyProof.Rows.args_list_sort _)))
  obtain ⟨k1, k2, k3⟩ := SrtO.ints_out hS g1 g2
  obtain ⟨e', he'⟩ := PyProof.Rows.sortedHeap_at (vs := acc.toList) (out := out.toArray) hoL
  have hlen : ((out.map SrtO.iv).map V.int).length ≤ sizeLine := by
    rw [List.length_map, k2.length_eq, ← hl2]
    exact z
  refine wpAny_pure ⟨_, rfl, .ref h'.objs.size, upd H h'.objs.size (.lst ((out.map SrtO.iv).map V.int)), I1.laid (t' := tk) (fun b u e => ?_) (Nat.le_refl _)
    (show ObjOk X.prog X.w _ _ _ (.lst ((out.map SrtO.iv).map V.int)) from ⟨hlen, out, e', vals_of_ints k1, he'⟩), rfl, q _ _ k2 k3 (I1.hok.fresh (Nat.le_refl _))⟩
  have hb : b < h'.objs.size := Heap.lt_size e
  rw [PyProof.Rows.sortedHeap_old (Nat.ne_of_lt hb) (by rw [size_push']; exact Nat.lt_succ_of_lt hb)]
  exact Heap.get?_push_of_some _ e

/-- sorted(t), t a tuple of pairs of ints, of any length -/
def rSortT (K : PySem.W.Frag) : List V → Hp → VK → Prop := fun vs H Q => ∃ (a : Addr) (xs : List V) (k : V → Int × Int), vs = [V.ref a] ∧ SqT K H a xs ∧ (∀ x ∈ xs, ∃ t, x = V.ref t ∧ H t = some (.tup [.int (k x).1, .int (k x).2])) ∧
  ∀ ys p, SrtO.Srtd (ltP k) ys → ys.Perm xs → H p = none → Q (.ref p) (upd H p (.lst ys))
theorem call_sortT : CallR X (.builtin "sorted") (rSortT X.K) := by
  intro pins s σ H vs us Q I r h
  obtain ⟨a, xs, k, rfl, hs, hx, q⟩ := h
  obtain ⟨its, rv, ⟨o, ho, hc, n, hd⟩, hz⟩ := I.tuple hs
  obtain ⟨u, rfl, ru⟩ := vals1 r
  obtain rfl : u = Value.ref a := ru
  obtain ⟨e1, e2⟩ := refs_back rv fun x m => by
    obtain ⟨t, e, _⟩ := hx x m
    exact ⟨t, e⟩
  have hp : ∀ v ∈ its, Srt.IsPair s.heap v (k (backV v)).1 (k (backV v)).2 := fun v hv => by
    obtain ⟨t, rfl⟩ := e2 v hv
    have hm : V.ref t ∈ xs := by rw [e1]; exact List.mem_map.mpr ⟨_, hv, rfl⟩
    obtain ⟨t', e, ht⟩ := hx _ hm
    cases e
    obtain ⟨_, its2, r2, o2, ho2, hc2, n2, hd2⟩ := I.hok _ _ ht
    obtain ⟨u1, u2, rfl, ri, rj⟩ := vals2 r2
    obtain ⟨t1, rfl⟩ := ri
    obtain ⟨t2, rfl⟩ := rj
    exact ⟨t, o2, t1, t2, n2, rfl, ho2, hc2, hd2⟩
  have hz2 : its.length ≤ sizeLine := by rw [← rv.length]; exact hz
  refine Calls.call_function_entry PyProof.Rows.kind_sorted PyProof.Rows.plain_sorted PyProof.Rows.entry_sorted (PyProof.Rows.args_sorted1 _) ?_
  unfold Builtin.«sorted»
  refine wpAny_bind (m := checkCount "sorted" 1 1 _) (wpAny_pure ?_)
  refine wpAny_bind (wpAny_collect_seq a (.inr rfl) ho hc hd (fun h' hk => ?_) (by rw [List.size_toArray]; exact hz2))
  have et : its.toArray.toList = its := by simp
  rw [et]
  have I1 : Inv X pins σ H { s with heap := h' } := I.kept (t' := s.toks) hk
  refine wpAny_bind (wpAny_newList ?_ hz2)
  have hoL : (h'.push (seqObj "list" its.toArray 0)).get? h'.objs.size = some (seqObj "list" its.toArray 0) := Heap.get?_push_size _ rfl
  show wpAny _ _ _ _ _ { s with heap := h'.push (seqObj "list" its.toArray 0) }
  refine wpAny_bind (wpAny_holding (wpAny_call_entry PyProof.Rows.slot_list_sort ⟨_, hoL, rfl⟩ PyProof.Rows.entry_list_sort
    (SrtO.list_sort_ord (SrtO.swo_lex fun u => k (backV u)) hoL hz2 (fun h2 => SrtO.pairs_sortableO (by omega) (fun v hv => (hp v hv).keeps fun b o e _ => Heap.get?_push_of_some _ (hk b o e)) fun o e => ?_) fun out g1 g2 => ⟨.none, rfl, ?_⟩) (PyProof.Rows.args_list_sort _)))
  · have e' : some o = some (seqObj "list" its.toArray 0) := e.symm.trans hoL
    cases e'
    intro c
    exact absurd (Value.type.inj c) (by decide)
  · have h3 : ∀ u ∈ out, ∃ a, u = Value.ref a := fun u hu => e2 u (g2.perm.mem_iff.mp hu)
    obtain ⟨ep, he'⟩ := PyProof.Rows.sortedHeap_at (vs := its) (out := out.toArray) hoL
    have hb : SrtO.Stb (ltP k) (out.map backV) xs := by
      rw [e1]
      exact SrtO.Stb.map (ltP_swo k) backV g2
    have hlen : (out.map backV).length ≤ sizeLine := by
      rw [hb.len]
      exact hz
    refine wpAny_pure ⟨_, rfl, .ref h'.objs.size, upd H h'.objs.size (.lst (out.map backV)), I1.laid (t' := s.toks) (fun b u e => ?_) (Nat.le_refl _)
      (show ObjOk X.prog X.w _ _ _ (.lst (out.map backV)) from ⟨hlen, out, ep, vals_back h3, he'⟩), rfl, q _ _ (SrtO.srtd_map g1) hb.perm (I1.hok.fresh (Nat.le_refl _))⟩
    have hb : b < h'.objs.size := Heap.lt_size e
    rw [PyProof.Rows.sortedHeap_old (Nat.ne_of_lt hb) (by rw [size_push']; exact Nat.lt_succ_of_lt hb)]
    exact Heap.get?_push_of_some _ e

/-! ### dicts compared -/
/-- how d == e comes out, where every value is True -/
def sameKeys (ka kb : List (Key × V)) : Bool := ka.length == kb.length && ka.all fun p => (valV kb p.1).isSome
def rEqDB : R2 := fun x y H Q => ∃ a b ka kb, x = .ref a ∧ y = .ref b ∧ H a = some (.dK ka) ∧ H b = some (.dK kb) ∧ (∀ p ∈ ka, p.2 = V.bl true) ∧ (∀ p ∈ kb, p.2 = V.bl true) ∧ Q (.bl (sameKeys ka kb)) H
theorem valV_val {kb : List (Key × V)} {k : Key} {v : V} (h : ∀ p ∈ kb, p.2 = V.bl true) (e : valV kb k = some v) : v = V.bl true := by
  unfold valV at e
  cases q : kb.find? fun kv => decide (kv.1 = k) with
  | none => rw [q] at e; cases e
  | some p =>
    rw [q] at e
    have e2 : p.2 = v := Option.some.inj e
    rw [← e2]
    exact h p (List.mem_of_find?_eq_some q)
theorem hits_any {A : Around} {s : Shared} {kb : List (Key × V)} {vb : List (Key × Value)} (hb : ∀ p ∈ kb, p.2 = V.bl true) (rb : KV kb vb) {ka : List (Key × V)} {va : List (Key × Value)} (ra : KV ka va) :
    (∀ p ∈ ka, p.2 = V.bl true) → PySem.W.KeqHits A s vb va (ka.all fun p => (valV kb p.1).isSome) := by
  unfold KV at ra
  induction ra with
  | nil => intro _; exact .nil
  | @cons p q ps qs h t ih =>
    intro hp
    obtain ⟨h1, h2⟩ := h
    obtain ⟨k, v⟩ := q
    have h1' : p.1 = k := h1
    have ev := hp p List.mem_cons_self
    rw [List.all_cons]
    cases e : valV kb p.1 with
    | none =>
      have rr := rb.val p.1
      rw [e] at rr
      cases e3 : valueAt vb p.1 with
      | some y => rw [e3] at rr; exact rr.elim
      | none =>
        rw [h1'] at e3
        show PySem.W.KeqHits A s vb ((k, v) :: qs) (false && _)
        rw [Bool.false_and]
        exact .miss e3
    | some y0 =>
      have ey := valV_val hb e
      subst ey
      have rr : RelO (some (V.bl true)) (valueAt vb p.1) := by rw [← e]; exact rb.val p.1
      obtain ⟨y, hy, ry⟩ := rr.some_of
      rw [h1'] at hy
      rw [ev] at h2
      show PySem.W.KeqHits A s vb ((k, v) :: qs) (true && _)
      exact .hit hy (eqAt_same h2 ry rfl) (ih fun p' hm => hp p' (List.mem_cons_of_mem _ hm))
theorem op_eqDB (hu : X.A.units < cLine) : OpR X (compareOp .Eq) rEqDB := by
  intro pins s σ H x y v u Q I rx ry h
  obtain ⟨a, b, ka, kb, rfl, rfl, ea, eb, ha, hb, q⟩ := h
  obtain rfl : v = Value.ref a := rx
  obtain rfl : u = Value.ref b := ry
  obtain ⟨_, ya, va, ra, da⟩ := (show ObjOk X.prog X.w H s.heap a (.dK ka) from I.hok a _ ea)
  obtain ⟨_, yb, vb, rb, db⟩ := (show ObjOk X.prog X.w H s.heap b (.dK kb) from I.hok b _ eb)
  have hl : va.length = ka.length := ra.length.symm
  have hl2 : vb.length = kb.length := rb.length.symm
  exact PySem.W.keq_eq (knd := mixKind X.prog X.w) (r := ka.all fun p => (valV kb p.1).isSome) ya yb da db hu (fun _ => hits_any hb rb ra ha) (fin_bl I q (by rw [hl, hl2]; rfl))

/-! ### t[::-1] of a tuple -/
theorem adjust_back (n : Nat) : Builtin.Slice.sliceAdjust none none (-1) (n : Int) = ((n : Int) - 1, -1) := by
  unfold Builtin.Slice.sliceAdjust
  rfl
theorem places_back (n : Nat) : Builtin.Slice.slicePlaces ((n : Int) - 1) (-1) (-1) = n := by
  unfold Builtin.Slice.slicePlaces
  have h1 : ¬ ((-1 : Int) > 0) := by decide
  have h2 : (- (-1) : Int) = 1 := by decide
  simp only [h1, if_false, h2, Int.ediv_one]
  split <;> omega
theorem pick_back (xs : Array Value) : ((List.range xs.size).filterMap fun (m : Nat) => xs[((xs.size : Int) - 1 + (m : Int) * (-1)).toNat]?) = xs.toList.reverse := by
  have e : ((List.range xs.size).filterMap fun (m : Nat) => xs[((xs.size : Int) - 1 + (m : Int) * (-1)).toNat]?) = ((List.range xs.size).map fun k => xs.size - 1 - k).filterMap (xs[·]?) := by
    rw [List.filterMap_map]
    have aux : ∀ l : List Nat, (∀ m ∈ l, m < xs.size) → (l.filterMap fun (m : Nat) => xs[((xs.size : Int) - 1 + (m : Int) * (-1)).toNat]?) = l.filterMap ((xs[·]?) ∘ fun k => xs.size - 1 - k) := by
      intro l hl
      induction l with
      | nil => rfl
      | cons m l ih =>
        have hm := hl m List.mem_cons_self
        have e2 : ((xs.size : Int) - 1 + (m : Int) * (-1)).toNat = xs.size - 1 - m := by omega
        rw [List.filterMap_cons, List.filterMap_cons, ih (fun k hk => hl k (List.mem_cons_of_mem _ hk)), e2]
        rfl
    exact aux _ fun m hm => List.mem_range.mp hm
  rw [e, PySem.W.krv_range, List.filterMap_reverse, PySem.W.krv_all]
section
variable {prog : Program} {w : World} {A : Around} {E : Value → Shared → Prop} {s : Shared}
theorem getItem_back {t sl : Addr} {items : Array Value} {u : Tok} {Q : Value → Shared → Prop} (ht : IsTup s.heap t items) (hs : s.heap.IsSliceOf sl .none .none (.int (-1) u))
    (h : Q (.ref s.heap.objs.size) { s with heap := s.heap.push { cls := .type "tuple", data := .seq items.toList.reverse.toArray } })
    (hsz : items.size ≤ sizeLine) : wpAny (model prog w) A (getItem (.ref t) (.ref sl)) Q E s := by
  have hok : sizeOk (.seq items.toList.reverse.toArray) := by
    show items.toList.reverse.toArray.size ≤ sizeLine
    rw [List.size_toArray, List.length_reverse, Array.length_toList]
    exact hsz
  obtain ⟨os, hos, hcs, hds⟩ := id hs
  have hTs : s.TypeIs (.ref sl) "slice" := ⟨os, hos, hcs⟩
  unfold getItem
  try with_reducible refine wpAny_holding ?_
  first | refine wpAny_bind (wpAny_pure ?_) | skip
  refine wpAny_bind (wpAny_sequenceKey ht.typeIs (by decide) ?_)
  refine wpAny_bind (wpAny_callSpecial?_slot (name := Str.ofString "__getitem__") ht.typeIs PyProof.Rows.slot_tuple_getitem
    (wpAny_call_entry PyProof.Rows.slot_tuple_getitem ht.typeIs entry_tuple_getitem ?_ (args_tuple_getitem _ _)))
  show wpAny _ _ (Builtin.Tuple.tupleItemsOf (.ref t) >>= _) _ _ s
  refine wpAny_bind (tupleItemsOf_ ht ?_)
  refine wpAny_bind (wpAny_typeOf hTs ?_)
  rw [if_pos (by decide)]
  refine wpAny_bind ?_
  unfold Builtin.Slice.sliceApplied Builtin.Slice.sliceFields
  refine wpAny_bind (wpAny_bind (wpAny_field hos hds (x := .none) rfl (wpAny_bind (wpAny_field hos hds (x := .none) rfl (wpAny_bind (wpAny_field hos hds (x := .int (-1) u) rfl (wpAny_pure ?_)))))))
  refine wpAny_bind (slicePart_int ?_)
  show wpAny _ _ (if ((-1 : Int) == 0) = true then _ else _) _ _ s
  rw [if_neg (by decide)]
  refine wpAny_bind (slicePart_none (wpAny_bind (slicePart_none (wpAny_bind (wpAny_pure ?_)))))
  show wpAny _ _ (match Builtin.Slice.sliceAdjust none none (-1) (items.size : Int) with | (lo, hi) => pure (lo, (-1 : Int), Builtin.Slice.slicePlaces lo hi (-1))) _ _ s
  rw [adjust_back]
  show wpAny _ _ (pure ((items.size : Int) - 1, (-1 : Int), Builtin.Slice.slicePlaces ((items.size : Int) - 1) (-1) (-1))) _ _ s
  rw [places_back]
  refine wpAny_pure ?_
  have hno : ¬ ((((items.size : Int) - 1) == 0 && (-1 : Int) == 1 && items.size == items.size) = true) := by
    intro q
    rw [Bool.and_eq_true, Bool.and_eq_true] at q
    exact absurd (eq_of_beq q.1.2) (by decide)
  show wpAny _ _ (if (((items.size : Int) - 1) == 0 && (-1 : Int) == 1 && items.size == items.size) = true then _ else _) _ _ s
  rw [if_neg hno, pick_back]
  first
    | exact wpAny_bind (m := Builtin.Tuple.tupleExact _) (wpAny_newObj_type (wpAny_pure ⟨_, rfl, wpAny_pure h⟩) hok)
    | exact wpAny_bind (m := Builtin.Tuple.tupleExact _) (wpAny_newObj_type (wpAny_bind (wpAny_pure (wpAny_pure ⟨_, rfl, wpAny_pure h⟩))) hok)
    | exact wpAny_bind (wpAny_bind (m := Builtin.Tuple.tupleExact _) (wpAny_newObj_type (wpAny_pure (wpAny_pure ⟨_, rfl, wpAny_pure h⟩)) hok))
    | exact wpAny_bind (wpAny_bind (m := Builtin.Tuple.tupleExact _) (wpAny_newObj_type (wpAny_pure ⟨_, rfl, wpAny_pure h⟩) hok))
end
def tRevT (K : PySem.W.Frag) (te : TE) : TE := fun σ H Q => te σ H fun x H1 => ∃ a xs, x = .ref a ∧ SqT K H1 a xs ∧ ∀ p, H1 p = none → Q (.ref p) (upd H1 p (.tup xs.reverse))
theorem pe_revT {e : Expr} {te : TE} {k : Nat} {p1 p2 p3 pos : Pos} (he : PE X e te) : PE X (.Subscript e (.Slice none none (some (.UnaryOp .USub (.Constant (.int 1) k p1) p2)) p3) pos) (tRevT X.K te) := by
  refine ⟨fun pins s σ H Q I h => ?_⟩
  refine Subscript_ (thn (he.run pins s σ H _ I h) fun v s1 ⟨x, H1, I1, r1, q1⟩ => ?_)
  obtain ⟨a, xs, ex, hx, q⟩ := q1
  subst ex
  cases r1
  have hst : PO X (some (.UnaryOp .USub (.Constant (.int 1) k p1) p2)) (tPart (tUn (rU fun i => .int (-i)) (tC (.int 1)))) := po_some (pe_un un_neg pe_int)
  refine wpAny_Slice (thn (po_none.run pins s1 σ H1 (fun o H2 => o = none ∧ H2 = H1) I1 ⟨rfl, rfl⟩) fun vl s2 ⟨l, H2, I2, pl, el, e2⟩ => ?_)
  subst el e2
  refine thn (po_none.run pins s2 σ H2 (fun o H3 => o = none ∧ H3 = H2) I2 ⟨rfl, rfl⟩) fun vu s3 ⟨u, H3, I3, pu, eu, e3⟩ => ?_
  subst eu e3
  refine thn (hst.run pins s3 σ H3 (fun o H4 => o = some (-1) ∧ H4 = H3) I3 ⟨1, rfl, -1, rfl, rfl, rfl⟩) fun vs s4 ⟨o, H4, I4, ps, eo, e4⟩ => ?_
  subst eo e4
  cases pl
  cases pu
  generalize em : some (-1 : Int) = om at ps
  cases ps with
  | none => cases em
  | int i t =>
    have ei : i = -1 := (Option.some.inj em).symm
    subst ei
    have I5 : Inv X pins σ H4 { s4 with heap := s4.heap.push { cls := .type "slice", data := .fields #[.none, .none, .int (-1) t] } } := I4.kept (t' := s4.toks) fun b ob q => Heap.get?_push_of_some _ q
    obtain ⟨its, r, ht, hz⟩ := I5.tuple hx
    have hlen := r.length
    show wpAny (model X.prog X.w) X.A (subscriptTail e (.Slice none none (some (.UnaryOp .USub (.Constant (.int 1) k p1) p2)) p3) (.ref a) (.ref s4.heap.objs.size)) (EP X pins σ Q) X.xe { s4 with heap := s4.heap.push { cls := .type "slice", data := .fields #[.none, .none, .int (-1) t] } }
    refine tail_any (ops := [.ref a, .ref s4.heap.objs.size]) ht.typeIs (PyProof.Rows.slot_tuple_getitem.lookup) ?_ (by with_unfolding_all rfl)
    refine getItem_back ht (Heap.IsSliceOf.new _ .none .none (.int (-1) t)) ?_ (by rw [List.size_toArray]; omega)
    refine ⟨.ref _, _, I5.laid (t' := s4.toks) (o := .tup xs.reverse) (fun b ob q => Heap.get?_push_of_some _ q) (Nat.le_refl _) ?_, rfl, q _ (I5.hok.fresh (Nat.le_refl _))⟩
    refine ⟨by rw [List.length_reverse]; exact hz, _, r.reverse, _, Heap.get?_push_size _ rfl, rfl, 0, ?_⟩
    simp

/-! ### range(n) as a value, its length -/
theorem cr_range1 : CallR X (.type "range") (fun vs H Q => ∃ j, vs = [V.int j] ∧ ∀ p, H p = none → Q (.ref p) (upd H p (.rng 0 j))) := by
  intro pins s σ H vs us Q I r h
  obtain ⟨j, rfl, q⟩ := h
  obtain ⟨u, rfl, ru⟩ := vals1 r
  obtain ⟨t, rfl⟩ := ru
  refine call_range_1 ⟨.ref s.heap.objs.size, upd H s.heap.objs.size (.rng 0 j), I.laid (t' := s.toks + 1 + 1) (fun b o e => Heap.get?_push_of_some _ e) (Nat.le_refl _) ?_, rfl, q _ (I.hok.fresh (Nat.le_refl _))⟩
  exact ⟨s.toks, t, s.toks + 1, Heap.get?_push_size _ rfl⟩
theorem call_lenRg : CallR X (.builtin "len") (fun xs H Q => ∃ (a : Addr) (n : Nat), xs = [.ref a] ∧ H a = some (.rng 0 (n : Int)) ∧ (n : Int) < 2 ^ 62 ∧ Q (.int n) H) := by
  intro pins s σ H xs us Q I r h
  obtain ⟨a, n, rfl, ha, hn, q⟩ := h
  obtain ⟨u, rfl, ru⟩ := vals1 r
  obtain rfl : u = Value.ref a := ru
  obtain ⟨t, v, w', e⟩ := I.hok a _ ha
  refine call_len_range (n := n) (show IsRange s.heap a 0 n 1 t v w' from e) ?_ (by omega) ⟨.int n, H, I.tok _, ⟨_, rfl⟩, q⟩
  rw [rangeSize_one]
  split <;> omega

/-! ### a power of any size that fits -/
theorem op_powW : OpR X (binaryOp .Pow) (rI (fun i j => 0 ≤ j ∧ (Builtin.Int.intBits i : Int) * j ≤ 2 ^ 27) fun i j => .int (i ^ j.toNat)) := opI fun _ _ _ _ _ _ _ hc q => pow_int hc.1 hc.2 q
end
end Sps
set_option Elab.async false
set_option linter.all false
set_option maxRecDepth 100000
set_option maxHeartbeats 4000000
/-! The row's program: its defs by name. -/
namespace Sps
open PySem PySem.Spec PyProof.Rows L2
abbrev pw : Program := PySem.Challenge.pw_oneedition_k85_copies_of_any_value
def top (i : Nat) : Stmt := pw.main.body.getD i (.Pass ⟨0, 0, 0, 0⟩)
abbrev s__wall : Stmt := top 0
abbrev s_BadSpans___init__ : Stmt := inClass (top 3) 0
abbrev s_BadCopies___init__ : Stmt := inClass (top 4) 0
abbrev s_BadPiece___init__ : Stmt := inClass (top 5) 0
abbrev s_BadWord___init__ : Stmt := inClass (top 6) 0
abbrev s_BadLength___init__ : Stmt := inClass (top 7) 0
abbrev s_BadTime___init__ : Stmt := inClass (top 8) 0
abbrev s_BadNames___init__ : Stmt := inClass (top 9) 0
abbrev s_BadStart___init__ : Stmt := inClass (top 10) 0
abbrev s_BadBytes___init__ : Stmt := inClass (top 11) 0
abbrev s_NoCopy___init__ : Stmt := inClass (top 12) 0
abbrev s_NoAsk___init__ : Stmt := inClass (top 13) 0
abbrev s_NoMark___init__ : Stmt := inClass (top 14) 0
abbrev s_NoAnswer___init__ : Stmt := inClass (top 15) 0
abbrev s_NoHead___init__ : Stmt := inClass (top 16) 0
abbrev s_NoWord___init__ : Stmt := inClass (top 17) 0
abbrev s_Ended___init__ : Stmt := inClass (top 18) 0
abbrev s_Contradiction___init__ : Stmt := inClass (top 19) 0
abbrev s_TooMany___init__ : Stmt := inClass (top 20) 0
abbrev s_is_whole_number : Stmt := top 24
abbrev s_is_within : Stmt := top 25
abbrev s_is_number_in : Stmt := top 26
abbrev s__is_made_of : Stmt := top 27
abbrev s_is_name : Stmt := top 28
abbrev s_is_word : Stmt := top 29
abbrev s_is_tuple_of : Stmt := top 30
abbrev s__is_pair : Stmt := top 33
abbrev s__merged : Stmt := top 34
abbrev s__gaps : Stmt := top 35
abbrev s_Spans___init__ : Stmt := inClass (top 36) 0
abbrev s_Spans___and__ : Stmt := inClass (top 36) 1
abbrev s_Spans___or__ : Stmt := inClass (top 36) 2
abbrev s_Spans___sub__ : Stmt := inClass (top 36) 3
abbrev s_Spans___contains__ : Stmt := inClass (top 36) 4
abbrev s_Spans___len__ : Stmt := inClass (top 36) 5
abbrev s_Spans___eq__ : Stmt := inClass (top 36) 6
abbrev s__leads_out : Stmt := top 39
abbrev s_is_copy : Stmt := top 40
abbrev s_are_copies : Stmt := top 41
abbrev s_check_copies : Stmt := top 42
abbrev s_check_copy : Stmt := top 43
abbrev s_check_spans : Stmt := top 44
abbrev s_check_answer : Stmt := top 45
abbrev s_check_answers : Stmt := top 46
abbrev s_check_word : Stmt := top 47
abbrev s_check_ask : Stmt := top 48
abbrev s_check_mark : Stmt := top 49
abbrev s_check_flowing : Stmt := top 50
abbrev s_check_length : Stmt := top 51
abbrev s_check_until : Stmt := top 52
abbrev s_are_names : Stmt := top 53
abbrev s_check_names : Stmt := top 54
abbrev s_are_bytes : Stmt := top 55
abbrev s_check_part : Stmt := top 56
abbrev s_joined : Stmt := top 58
abbrev s_cut : Stmt := top 59
abbrev s_spans_of : Stmt := top 60
abbrev s_byte_at : Stmt := top 61
abbrev s_members : Stmt := top 63
abbrev s_lowest : Stmt := top 64
abbrev s_mask_of : Stmt := top 65
abbrev s__sharing : Stmt := top 66
abbrev s__seen_at : Stmt := top 67
abbrev s__by_time : Stmt := top 68
abbrev s__reached : Stmt := top 69
abbrev s__turned : Stmt := top 70
abbrev s_Steps___init__ : Stmt := inClass (top 71) 0
abbrev s_Steps_are_two : Stmt := inClass (top 71) 1
abbrev s_Steps__older_than : Stmt := inClass (top 71) 2
abbrev s_Steps_tied_by_edition : Stmt := inClass (top 71) 3
abbrev s_Steps_tied_by_meaning : Stmt := inClass (top 71) 4
abbrev s_Steps_group : Stmt := inClass (top 71) 5
abbrev s_Content___init__ : Stmt := inClass (top 73) 0
abbrev s__told : Stmt := top 74
abbrev s_union : Stmt := top 75
abbrev s__pieces_fit : Stmt := top 76
abbrev s__named_runs : Stmt := top 77
abbrev s__with_named : Stmt := top 78
abbrev s_contents_of : Stmt := top 79
abbrev s_may_be_same : Stmt := top 81
abbrev s_is_not_newer : Stmt := top 82
abbrev s_is_same : Stmt := top 83
abbrev s_above_of : Stmt := top 85
abbrev s_Site___init__ : Stmt := inClass (top 86) 0
abbrev s_Ask___init__ : Stmt := inClass (top 87) 0
abbrev s_Answer___init__ : Stmt := inClass (top 88) 0
abbrev s_with_runs : Stmt := top 89
abbrev s_with_stage : Stmt := top 90
abbrev s_Picture___init__ : Stmt := inClass (top 93) 0
abbrev s_Picture_content : Stmt := inClass (top 93) 1
abbrev s_Picture_least_number : Stmt := inClass (top 93) 2
abbrev s_with_ghost : Stmt := top 94
abbrev s_without_world : Stmt := top 95
abbrev s__seen_now : Stmt := top 97
abbrev s_surely_has : Stmt := top 98
abbrev s__or_dash : Stmt := top 100
abbrev s__spans_word : Stmt := top 101
abbrev s__site_lines : Stmt := top 102
abbrev s__ask_line : Stmt := top 103
abbrev s__head_lines : Stmt := top 104
abbrev s__answer_lines : Stmt := top 105
abbrev s_text_of : Stmt := top 106
abbrev s_State___init__ : Stmt := inClass (top 108) 0
abbrev s_first_state : Stmt := top 109
abbrev s_picture_of : Stmt := top 110
abbrev s_later : Stmt := top 111
abbrev s__with_asks : Stmt := top 112
abbrev s__with_told : Stmt := top 113
abbrev s__checked : Stmt := top 114
abbrev s__put : Stmt := top 115
abbrev s__closed : Stmt := top 116
abbrev s_after_ask : Stmt := top 117
abbrev s_after_answer : Stmt := top 118
abbrev s_after_part : Stmt := top 119
abbrev s_after_end : Stmt := top 120
abbrev s_Trial___init__ : Stmt := inClass (top 123) 0
abbrev s_Trial___enter__ : Stmt := inClass (top 123) 1
abbrev s_Trial___exit__ : Stmt := inClass (top 123) 2
abbrev s_Trial_keep : Stmt := inClass (top 123) 3
abbrev s__ranks : Stmt := top 125
abbrev s__laid_out : Stmt := top 126
abbrev s_world_of : Stmt := top 127
abbrev s_Keeper___init__ : Stmt := inClass (top 129) 0
abbrev s_Keeper_become : Stmt := inClass (top 129) 1
abbrev s_Keeper___eq__ : Stmt := inClass (top 129) 2
abbrev s_Keeper_wait : Stmt := inClass (top 129) 3
abbrev s_Keeper_ask : Stmt := inClass (top 129) 4
abbrev s_Keeper_head : Stmt := inClass (top 129) 5
abbrev s_Keeper_changed : Stmt := inClass (top 129) 6
abbrev s_Keeper_lost : Stmt := inClass (top 129) 7
abbrev s_Keeper_part : Stmt := inClass (top 129) 8
abbrev s_Keeper_ended : Stmt := inClass (top 129) 9
abbrev s_Keeper_compared : Stmt := inClass (top 129) 10
abbrev s_Keeper_alike : Stmt := inClass (top 129) 11
abbrev s_Keeper_reason : Stmt := inClass (top 129) 12
abbrev s_Keeper_world : Stmt := inClass (top 129) 13
abbrev s_Keeper_groups : Stmt := inClass (top 129) 14
abbrev s_Keeper_length : Stmt := inClass (top 129) 15
abbrev s_Keeper_known : Stmt := inClass (top 129) 16
abbrev s_Keeper_byte : Stmt := inClass (top 129) 17
abbrev s_Keeper_is_whole : Stmt := inClass (top 129) 18
abbrev s_Keeper_stretches : Stmt := inClass (top 129) 19
abbrev s_Keeper_ground : Stmt := inClass (top 129) 20
abbrev s_Keeper_let_go : Stmt := inClass (top 129) 21
abbrev s_Keeper_fold : Stmt := inClass (top 129) 22
abbrev s_Keeper_sightings : Stmt := inClass (top 129) 23
abbrev s_Keeper_may_have : Stmt := inClass (top 129) 24
abbrev s_Keeper_has : Stmt := inClass (top 129) 25
abbrev s_Keeper_possible : Stmt := inClass (top 129) 26
abbrev s_Keeper_order : Stmt := inClass (top 129) 27
abbrev s_Keeper_ordered : Stmt := inClass (top 129) 28
abbrev s_Keeper_trial : Stmt := inClass (top 129) 29
abbrev s_Keeper_tried : Stmt := inClass (top 129) 30
abbrev s_Keeper__place : Stmt := inClass (top 129) 31
abbrev s_Keeper__two : Stmt := inClass (top 129) 32
abbrev s_Keeper__content : Stmt := inClass (top 129) 33
abbrev s__law_pot : Stmt := top 131
abbrev s__law_draw : Stmt := top 132
abbrev s__law_any : Stmt := top 133
abbrev s__law_words : Stmt := top 134
abbrev s__law_copies : Stmt := top 135
abbrev s__law_is_name : Stmt := top 136
abbrev s__law_are_pairs : Stmt := top 137
abbrev s__law_are_copies : Stmt := top 138
abbrev s__law_spoilt : Stmt := top 139
abbrev s__law_caught : Stmt := top 140
abbrev s__law_right : Stmt := top 141
abbrev s_law : Stmt := top 142
/-- what the top leaves of names -/
structure Names (mg : Str → Option Value) : Prop where
  ValueError : mg "ValueError" = none
  abs : mg "abs" = none
  all : mg "all" = none
  any : mg "any" = none
  bool : mg "bool" = none
  dict : mg "dict" = none
  enumerate : mg "enumerate" = none
  int : mg "int" = none
  isinstance : mg "isinstance" = none
  len : mg "len" = none
  list : mg "list" = none
  max : mg "max" = none
  min : mg "min" = none
  range : mg "range" = none
  repr : mg "repr" = none
  set : mg "set" = none
  sorted : mg "sorted" = none
  str : mg "str" = none
  sum : mg "sum" = none
  tuple : mg "tuple" = none
  zip : mg "zip" = none
  LETTERS : ∃ t, mg "LETTERS" = some (.str "abcdefghijklmnopqrstuvwxyz" t)
  DIGITS : ∃ t, mg "DIGITS" = some (.str "0123456789" t)
  END : ∃ t, mg "END" = some (.int (1000000) t)
  LAST_TIME : ∃ t, mg "LAST_TIME" = some (.int (1000000000) t)
  GHOST : ∃ t, mg "GHOST" = some (.int (-1) t)
  LIMIT : ∃ t, mg "LIMIT" = some (.int (4) t)
end Sps
set_option Elab.async false
set_option linter.all false
set_option maxRecDepth 100000
set_option maxHeartbeats 0
/-! The head: what is told of the program's start. -/
namespace Sps
open PySem PySem.Spec PyProof.Rows L2
def dd (x : Str) (st : Stmt) : He.DefD := ⟨(x, none), x, x, defArgs st, defBody st, defScope st, [], []⟩
def dm (c m q : Str) (st : Stmt) (dfl : List He.Dv) (kwd : List (Str × He.Dv)) : He.DefD := ⟨(c, some m), m, q, defArgs st, defBody st, defScope st, dfl, kwd⟩
def fnF : List He.DefD := [
  dd "is_whole_number" s_is_whole_number,
  dd "is_within" s_is_within,
  dd "_is_made_of" s__is_made_of,
  dd "is_name" s_is_name,
  dd "is_tuple_of" s_is_tuple_of,
  dd "_leads_out" s__leads_out,
  dd "is_copy" s_is_copy,
  dd "are_copies" s_are_copies,
  dd "check_copies" s_check_copies,
  dd "mask_of" s_mask_of,
  dd "_sharing" s__sharing,
  dd "_seen_at" s__seen_at,
  dd "_by_time" s__by_time,
  dd "_reached" s__reached,
  dd "_turned" s__turned,
  dd "_named_runs" s__named_runs,
  dd "contents_of" s_contents_of,
  dd "above_of" s_above_of,
  dd "first_state" s_first_state,
  dd "_law_pot" s__law_pot,
  dd "_law_draw" s__law_draw,
  dd "_law_any" s__law_any,
  dd "_law_words" s__law_words,
  dd "_law_copies" s__law_copies,
  dd "_law_is_name" s__law_is_name,
  dd "_law_are_pairs" s__law_are_pairs,
  dd "_law_are_copies" s__law_are_copies,
  dd "_law_spoilt" s__law_spoilt,
  dd "_law_caught" s__law_caught,
  dd "_law_right" s__law_right,
  dd "law" s_law]
def fnM : List He.DefD := [
  dm "BadCopies" "__init__" "BadCopies.__init__" s_BadCopies___init__ [] [],
  dm "BadPiece" "__init__" "BadPiece.__init__" s_BadPiece___init__ [] [],
  dm "Steps" "__init__" "Steps.__init__" s_Steps___init__ [.adr (He.dflAt ("Steps", some "__init__") 0)] [],
  dm "Site" "__init__" "Site.__init__" s_Site___init__ [] [],
  dm "Picture" "__init__" "Picture.__init__" s_Picture___init__ [] [],
  dm "State" "__init__" "State.__init__" s_State___init__ [] [],
  dm "Keeper" "__init__" "Keeper.__init__" s_Keeper___init__ [] [("piece", .int 4)],
  dm "Keeper" "become" "Keeper.become" s_Keeper_become [] [],
  dm "Keeper" "groups" "Keeper.groups" s_Keeper_groups [] []]
def fnA : List He.DefD := fnF ++ fnM
def faG : List He.Fa := [.glo "is_whole_number", .glo "is_within", .glo "_is_made_of", .glo "is_name", .glo "is_tuple_of", .glo "_leads_out", .glo "is_copy", .glo "are_copies", .glo "check_copies", .glo "mask_of", .glo "_sharing", .glo "_seen_at", .glo "_by_time", .glo "_reached", .glo "_turned", .glo "_named_runs", .glo "contents_of", .glo "above_of", .glo "first_state", .glo "_law_pot", .glo "_law_draw", .glo "_law_any", .glo "_law_words", .glo "_law_copies", .glo "_law_is_name", .glo "_law_are_pairs", .glo "_law_are_copies", .glo "_law_spoilt", .glo "_law_caught", .glo "_law_right", .glo "law", .glo "Keeper", .glo "State", .glo "Site", .glo "Picture", .glo "Steps", .glo "BadCopies", .glo "BadPiece", .glo "KeeperError"]
def faF : List He.Fa := [.free "ValueError", .free "abs", .free "all", .free "any", .free "bool", .free "dict", .free "enumerate", .free "int", .free "isinstance", .free "len", .free "list", .free "max", .free "min", .free "range", .free "repr", .free "set", .free "sorted", .free "str", .free "sum", .free "tuple", .free "zip"]
def faC : List He.Fa := [.str "LETTERS" "abcdefghijklmnopqrstuvwxyz", .str "DIGITS" "0123456789", .int "END" 1000000, .int "LAST_TIME" 1000000000, .int "GHOST" (-1), .int "LIMIT" 4]
def faO : List He.Fa := [.cls "Keeper", .mkr "Keeper", .cls "State", .mkr "State", .cls "Site", .mkr "Site", .cls "Picture", .mkr "Picture", .cls "Steps", .mkr "Steps"]
def faM : List He.Fa := [.meth "Keeper" "become", .meth "Keeper" "groups"]
def faA : List He.Fa := faG ++ (faF ++ (faC ++ (faO ++ faM)))
def tfA : List He.Defn := [("_law_right", none)]
def errs : List Str := ["BadCopies", "BadPiece"]
def oB (a b : Option (Option Value)) : Bool := decide (a = b)
/-- the class at C as an error's class is laid: own texts in its order, then ValueError's -/
def exClsB (K : PySem.W.Frag) (C : Addr) : Bool := match K.lookup C with
  | some ⟨.type c, _, .cls cd, sl⟩ => decide (c = "type") && (match cd.mro, sl.toList with
    | .ref D :: bm, [_, _, _, _, some (.builtin n), _] => decide (D = C) && (decide (n = "ValueError.__new__") && (!cd.hasDel && (cd.hasDict && PySem.HandSPX.refsVE bm)))
    | _, _ => false)
  | _ => false
def errB (K : PySem.W.Frag) (e : Str) : Bool :=
  exClsB K (He.ga K e) && (xfB K (He.ga K e) && (oB (PySem.W.findIn K (.ref (He.ga K e)) "__setattr__") (some (some (.builtin "object.__setattr__"))) &&
  (decide (PySem.W.typeIn K (.ref (He.ga K e)) = some (.type "type")) && (PySem.W.keepIn K (.ref (He.ga K e)) && (oB (PySem.W.findIn K (.ref (He.ga K e)) "value") (some none) &&
  (oB (PySem.W.findIn K (.ref (He.ga K e)) "__init__") (some (some (.ref (He.ma K (He.ga K e) "__init__")))) && decide (PySem.W.typeIn K (.ref (He.ma K (He.ga K e) "__init__")) = some (.type "function"))))))))
def keB (K : PySem.W.Frag) : Bool := oB (PySem.W.specialIn K (.ref (He.ga K "KeeperError")) "__getattribute__") (some (some (.builtin "type.__getattribute__"))) && (decide (PySem.W.typeIn K (.ref (He.ga K "KeeperError")) = some (.type "type")) && (PySem.W.readsIn K (He.ga K "KeeperError") (.type "type") &&
  (match PySem.W.findCls K (.ref (He.ga K "KeeperError")) (.type "type") "__init__" with
    | some (.val v) => decide (v = .builtin "ValueError.__init__")
    | _ => false)))
def empB (K : PySem.W.Frag) : Bool := match K.lookup (He.dflAt ("Steps", some "__init__") 0 K) with
  | some ⟨.type c, _, .seq its _, _⟩ => decide (c = "tuple") && its.isEmpty
  | _ => false
/-- no name of the class's own among these -/
def noB (K : PySem.W.Frag) (c : Str) (fs : List Str) : Bool := fs.all fun f => oB (PySem.W.findIn K (.ref (He.ga K c)) f) (some none)
theorem noB_ok {K : PySem.W.Frag} {c : Str} {fs : List Str} (h : noB K c fs = true) : ∀ x ∈ fs, NoAttr K (He.ga K c) x := fun x hx => of_decide_eq_true (p := PySem.W.findIn K (.ref (He.ga K c)) x = some none) (List.all_eq_true.mp h x hx)
def nosB (K : PySem.W.Frag) : Bool := noB K "Keeper" ["copies", "piece", "inside", "trials", "state", "now", "open_asks", "answers"] && (noB K "State" ["site", "time", "upcoming", "asks", "told", "gone", "picture"] && (noB K "Site" ["copies", "piece", "above"] && (noB K "Picture" ["site", "rows", "ghosts", "place", "steps", "editions", "least", "contents", "fits"] && (noB K "Steps" ["plain", "weak", "weaks", "ways", "meaning", "meaning_back", "older", "links", "edition", "edition_back"]))))
def exmB (K : PySem.W.Frag) : Bool := (List.range 2).all fun i => (List.range 2).all fun j => decide (PySem.W.exmOne K (.ref ((errs.map (He.ga K)).getD i 0)) (.ref ((errs.map (He.ga K)).getD j 0)) = some (decide (i = j)))
theorem exmB_ok {K : PySem.W.Frag} (h : exmB K = true) (i j : Nat) (C D : Addr) (hi : (errs.map (He.ga K))[i]? = some C) (hj : (errs.map (He.ga K))[j]? = some D) : PySem.W.exmOne K (.ref C) (.ref D) = some (decide (i = j)) := by
  have li : i < 2 := by
    have z := (List.getElem?_eq_some_iff.mp hi).1
    rwa [List.length_map] at z
  have lj : j < 2 := by
    have z := (List.getElem?_eq_some_iff.mp hj).1
    rwa [List.length_map] at z
  have q := of_decide_eq_true (List.all_eq_true.mp (List.all_eq_true.mp h i (List.mem_range.mpr li)) j (List.mem_range.mpr lj))
  rwa [List.getD_eq_getElem?_getD, hi, List.getD_eq_getElem?_getD, hj] at q
def difB (K : PySem.W.Frag) : Bool := decide (He.ga K "State" ≠ He.ga K "Keeper") && (decide (He.ga K "Site" ≠ He.ga K "Keeper") && decide (He.ga K "Picture" ≠ He.ga K "Keeper"))
def exB (K : PySem.W.Frag) : Bool := (errs.all fun e => errB K e) && (keB K && (empB K && (nosB K && (exmB K && difB K))))
/-! ### the places that are looked at: by names, then what the defs, the classes, their own names and the defaults lead to -/
def refsN (o : Obj) : List Addr := match o.data with
  | .func fd => He.refV fd.code ++ (He.refV fd.defaults ++ He.refV fd.kwdefaults)
  | .cls cd => [cd.ns]
  | .seq its _ => its.toList.flatMap He.refV
  | .dict es _ => es.toList.flatMap fun e => He.refV e.val
  | _ => []
def stepN (g : Addr → Option Obj) (as : List Addr) : List Addr := as.flatMap fun a => match g a with
  | some o => refsN o
  | none => []
/-- a list told number by number -/
def frL {α : Type} : List Addr → (List Addr → α) → α
  | [], k => k []
  | a :: r, k => HandSHeadRun.frNat a fun a => frL r fun r => k (a :: r)
theorem frL_eq {α : Type} : ∀ (as : List Addr) (k : List Addr → α), frL as k = k as
  | [], _ => rfl
  | a :: r, k => by
    show HandSHeadRun.frNat a (fun a => frL r fun r => k (a :: r)) = _
    rw [HandSHeadRun.frNat_eq]
    exact frL_eq r _
def frP {α : Type} : PySem.W.Frag → (PySem.W.Frag → α) → α
  | [], k => k []
  | (a, o) :: r, k => HandSHeadRun.frNat a fun a => frP r fun r => k ((a, o) :: r)
theorem frP_eq {α : Type} : ∀ (K : PySem.W.Frag) (k : PySem.W.Frag → α), frP K k = k K
  | [], _ => rfl
  | (a, o) :: r, k => by
    show HandSHeadRun.frNat a (fun a => frP r fun r => k ((a, o) :: r)) = _
    rw [HandSHeadRun.frNat_eq]
    exact frP_eq r _
def needs0 : List Str := ["is_whole_number", "is_within", "_is_made_of", "is_name", "is_tuple_of", "_leads_out", "is_copy", "are_copies", "check_copies", "mask_of", "_sharing", "_seen_at", "_by_time", "_reached", "_turned", "_named_runs", "contents_of", "above_of", "first_state", "_law_pot"]
def needs1 : List Str := ["_law_draw", "_law_any", "_law_words", "_law_copies", "_law_is_name", "_law_are_pairs", "_law_are_copies", "_law_spoilt", "_law_caught", "_law_right", "law", "Keeper", "State", "Site", "Picture", "Steps", "BadCopies", "BadPiece", "KeeperError"]
def needs : List Str := needs0 ++ needs1
def asN (g : Addr → Option Obj) (xs : List Str) {α : Type} (k : List Addr → α) : α :=
  frL (xs.map fun x => He.ga (He.frG g [mainGlobals]) x) fun a1 => frL (stepN g a1) fun a2 => frL (stepN g a2) fun a3 => frL (stepN g a3) fun a4 => frL (stepN g a4) fun a5 => k (mainGlobals :: cStatics :: (a1 ++ (a2 ++ (a3 ++ (a4 ++ a5)))))
/-- what the names lead to -/
def kN (xs : List Str) (g : Addr → Option Obj) : PySem.W.Frag := asN g xs fun as => He.frT g as
theorem kN_is (xs : List Str) (g : Addr → Option Obj) : ∃ as, kN xs g = He.frT g as := by
  unfold kN asN
  simp only [frL_eq]
  exact ⟨_, rfl⟩
def fK (xs : List Str) (g : Addr → Option Obj) {α : Type} (k : PySem.W.Frag → α) : α := asN g xs fun as => frP (He.frT g as) k
theorem fK_eq (xs : List Str) (g : Addr → Option Obj) {α : Type} (k : PySem.W.Frag → α) : fK xs g k = k (kN xs g) := by
  unfold fK kN asN
  simp only [frL_eq, frP_eq]
def obsN (xs : List Str) (fa : List He.Fa) (fn : List He.DefD) (tf : List He.Defn) (ex : PySem.W.Frag → Bool) (g : Addr → Option Obj) : He.AlX := (He.obsT fa fn [] (kN xs g), ex (kN xs g) && He.tabsB g tf (kN xs g))
theorem says_of {xs : List Str} {fa : List He.Fa} {fn : List He.DefD} {tf : List He.Defn} {ex : PySem.W.Frag → Bool} {w : World} {h : Heap} (e : obsN xs fa fn tf ex h.get? = He.valX fn [] w) : He.SaysX fa fn [] tf ex w h (kN xs h.get?) := by
  obtain ⟨as, ek⟩ := kN_is xs h.get?
  have e1 : He.SaysT fa fn [] w (kN xs h.get?) := congrArg (fun z : He.AlX => z.1) e
  have e2 : (ex (kN xs h.get?) && He.tabsB h.get? tf (kN xs h.get?)) = true := congrArg (fun z : He.AlX => z.2) e
  obtain ⟨h1, h2⟩ := Bool.and_eq_true_iff.mp e2
  have none_ : ∀ {a : Addr} {o : Obj}, h.get? a = some o → He.emptyTab o = true → (kN xs h.get?).lookup a = none := fun q z => by
    rw [ek]
    exact He.frT_none q z
  generalize kN xs h.get? = K at e1 e2 h1 h2 none_ ⊢
  have all : ∀ p ∈ tf, PySem.W.codeHdIn K (He.cT K p).1 (He.cT K p).2 = true ∧ ∃ o, h.get? (He.cT K p).2 = some o ∧ He.emptyTab o = true := fun p hp => by
    obtain ⟨h4, h5⟩ := Bool.and_eq_true_iff.mp (List.all_eq_true.mp h2 p hp)
    refine ⟨h4, ?_⟩
    cases q : h.get? (He.cT K p).2 with
    | none =>
      rw [q] at h5
      cases h5
    | some o =>
      rw [q] at h5
      exact ⟨o, rfl, h5⟩
  refine ⟨e1, h1, fun p hp => (all p hp).1, fun p hp => ?_, fun p hp => ?_⟩
  · obtain ⟨_, o, q, z⟩ := all p hp
    exact none_ q z
  · obtain ⟨_, o, q, z⟩ := all p hp
    rw [q, He.emptyTab_eq z]
theorem kN_in {xs : List Str} {h : Heap} : (kN xs h.get?).In h := by
  obtain ⟨as, ek⟩ := kN_is xs h.get?
  rw [ek]
  exact He.frT_in
def hookN (xs : List Str) (fa : List He.Fa) (fn : List He.DefD) (tf : List He.Defn) (ex : PySem.W.Frag → Bool) : PySem.W.Hook where
  α := He.AlX
  obs := fun s => obsN xs fa fn tf ex s.heap.get?
  val := fun w => He.valX fn [] w
  says := fun w h => ∃ K : PySem.W.Frag, K.In h ∧ He.SaysX fa fn [] tf ex w h K
  of := fun _ _ e => ⟨_, kN_in, says_of e⟩
  keeps := fun _ _ _ ⟨K, hK, c⟩ k => ⟨K, PySem.W.Frag.In.keeps hK k, ⟨c.t, c.more, c.hd, c.out, fun p hp => k _ _ (c.empty p hp)⟩⟩
abbrev Rk85 : PySem.W.OpenRow := PySem.W.OpenLaw.row PySem.Challenge.rw_oneedition_k85_copies_of_any_value
abbrev qk85 : Program := PySem.W.view Rk85.prog [142]
abbrev hkA : PySem.W.Hook := hookN needs faA fnA tfA exB
/-- the same, told piece by piece -/
def ob (s : PySem.W.SharedT) : He.AlX := fK needs (HandSHeadRun.getT s) fun K => (He.obsT faA fnA [] K, exB K && He.tabsB (HandSHeadRun.getT s) tfA K)
theorem ob_eq (s : PySem.W.SharedT) : ob s = hkA.obs s.abs := by
  have e : HandSHeadRun.getT s = s.abs.heap.get? := funext (HandSHeadRun.getT_eq s)
  unfold ob
  rw [fK_eq, e]
  rfl
def names0 : List Str := ["_wall", "KeeperError", "BadSpans", "BadCopies", "BadPiece", "BadWord", "BadLength", "BadTime", "BadNames", "BadStart", "BadBytes", "NoCopy", "NoAsk", "NoMark", "NoAnswer", "NoHead", "NoWord", "Ended", "Contradiction", "TooMany", "LETTERS", "DIGITS", "is_whole_number", "is_within", "is_number_in", "_is_made_of", "is_name", "is_word", "is_tuple_of", "END"]
def names1 : List Str := ["_is_pair", "_merged", "_gaps", "Spans", "LAST_TIME", "_leads_out", "is_copy", "are_copies", "check_copies", "check_copy", "check_spans", "check_answer", "check_answers", "check_word", "check_ask", "check_mark", "check_flowing", "check_length", "check_until", "are_names", "check_names", "are_bytes", "check_part", "joined", "cut", "spans_of", "byte_at", "members", "lowest", "mask_of"]
def names2 : List Str := ["_sharing", "_seen_at", "_by_time", "_reached", "_turned", "Steps", "Content", "_told", "union", "_pieces_fit", "_named_runs", "_with_named", "contents_of", "may_be_same", "is_not_newer", "is_same", "above_of", "Site", "Ask", "Answer", "with_runs", "with_stage", "GHOST", "Picture", "with_ghost", "without_world", "_seen_now", "surely_has", "_or_dash", "_spans_word"]
def names3 : List Str := ["_site_lines", "_ask_line", "_head_lines", "_answer_lines", "text_of", "State", "first_state", "picture_of", "later", "_with_asks", "_with_told", "_checked", "_put", "_closed", "after_ask", "after_answer", "after_part", "after_end", "LIMIT", "Trial", "_ranks", "_laid_out", "world_of", "Keeper", "_law_pot", "_law_draw", "_law_any", "_law_words", "_law_copies", "_law_is_name"]
def names4 : List Str := ["_law_are_pairs", "_law_are_copies", "_law_spoilt", "_law_caught", "_law_right"]
def names : List Str := names0 ++ names1 ++ names2 ++ names3 ++ names4
/-- the run's end: `kernel_rfl` of an equation that starts with this is the test of any one fact -/
noncomputable def theS (w : World) (os : OsState) := HandSHeadRun.endF (HandSHeadRun.stepQ (HandSHeadRun.denQ HandSHeadRun.tabQ) Rk85.prog w) 30000 Rk85.prog w os
end Sps
set_option Elab.async false
set_option linter.all false
set_option maxRecDepth 100000
set_option maxHeartbeats 0
/-! The head's run, told in four parts: one alone takes too much room. -/
namespace Sps
open PySem PySem.Spec PyProof.Rows L2
theorem r1 (w : World) (os : OsState) : (HandSHeadRun.endF (HandSHeadRun.stepQ (HandSHeadRun.denQ HandSHeadRun.tabQ) Rk85.prog w) 30000 Rk85.prog w os).map (fun s => (HandSHeadRun.looksF Rk85.prog (PySem.W.boot_heap w.params) s.abs, HandSHeadRun.seenQ qk85 names (importedModules Rk85.prog.main.body) (fun s => PySem.W.xlAt qk85 [] s && PySem.W.recOk Rk85.toRowW.records s) s.abs)) = some (true, PySem.W.openGood qk85 names) := by
  kernel_rfl
theorem r2 (w : World) (os : OsState) : (theS w os).map (fun s => fK needs (HandSHeadRun.getT s) fun K => (faA.all fun f => f.ok K) && (exB K && He.tabsB (HandSHeadRun.getT s) tfA K)) = some true := by
  kernel_rfl
theorem r3 (w : World) (os : OsState) : (theS w os).map (fun s => fK needs (HandSHeadRun.getT s) fun K => fnA.all fun d => d.ok K) = some true := by
  kernel_rfl
theorem r4 (w : World) (os : OsState) : (theS w os).map (fun s => fK needs (HandSHeadRun.getT s) fun K => fnA.map fun d => He.fnW K d.at_) = some (fnA.map He.DefD.val) := by
  kernel_rfl
theorem join2 {σ A B C : Type} {x : Option σ} {l : σ → A} {q : σ → B} {o : σ → C} {a : A} {b : B} {v : C} (h1 : x.map (fun s => (l s, q s)) = some (a, b)) (h2 : ∀ s, x = some s → o s = v) : x.map (fun s => (l s, q s, o s)) = some (a, b, v) := by
  obtain ⟨s, hs, h⟩ := Option.map_eq_some_iff.mp h1
  rw [hs]
  show some (l s, q s, o s) = _
  rw [h2 s hs]
  injection h with e1 e2
  rw [e1, e2]
theorem joinK {A : Type} {as : List He.Fa} {fs : List He.DefD} {b : Bool} {K : PySem.W.Frag} (e2 : ((as.all fun f => f.ok K) && b) = true) (e3 : (fs.all fun d => d.ok K) = true) (e4 : (fs.map fun d => He.fnW K d.at_) = fs.map He.DefD.val) (w : World) :
    ((He.obsT as fs [] K, b) : He.AlX) = He.valX fs [] w := by
  obtain ⟨e5, e6⟩ := Bool.and_eq_true_iff.mp e2
  unfold He.obsT He.obsD He.valX He.valT He.valD
  rw [e3, e4, e5, e6] <;> rfl
theorem some_of {σ C : Type} {x : Option σ} {f : σ → C} {v : C} (h : x.map f = some v) {s : σ} (e : x = some s) : f s = v := by
  rw [e] at h
  exact Option.some.inj h
theorem obA (w : World) (os : OsState) (s : PySem.W.SharedT) (e : theS w os = some s) : ob s = He.valX fnA [] w := by
  have e2 := some_of (r2 w os) e
  have e3 := some_of (r3 w os) e
  have e4 := some_of (r4 w os) e
  rw [fK_eq] at e2 e3 e4
  unfold ob
  rw [fK_eq]
  exact joinK (A := Nat) e2 e3 e4 w
theorem runA (w : World) : HandSHeadRun.RunEq Rk85 qk85 hkA ob 30000 names w := by
  unfold HandSHeadRun.RunEq
  intro os
  refine join2 (r1 w os) fun s e => ?_
  exact obA w os s e
end Sps
set_option Elab.async false
set_option linter.all false
set_option maxRecDepth 100000
set_option maxHeartbeats 4000000
/-! Small words: heaps kept, a term whose reading never holds. -/
namespace Sps
open PySem PySem.Spec PyProof.Rows L2
theorem iteNS_not {c A B : Prop} [Decidable c] (hc : ¬ c) (h : A) : if (!decide c) = true then A else B := by
  rw [decide_eq_false hc]
  exact iteT h
theorem ite_t {c A B : Prop} [Decidable c] (hc : c) (h : A) : if decide c = true then A else B := by
  rw [decide_eq_true hc]
  exact iteT h
theorem ite_f {c A B : Prop} [Decidable c] (hc : ¬ c) (h : B) : if decide c = true then A else B := by
  rw [decide_eq_false hc]
  exact iteF h
theorem Same.upd {H : Hp} {p : Addr} {o : HO} (h : H p = none) : Same H (L2.upd H p o) := fun b u e => by rw [upd_ne (ne_of_none e h)]; exact e
theorem Same.upd' {H H1 : Hp} {p : Addr} {o : HO} (s : Same H H1) (h : H1 p = none) : Same H (L2.upd H1 p o) := s.trans (Same.upd h)
/-- a store at a place that is none of the old ones -/
theorem Same.put {H H1 : Hp} {p : Addr} {o : HO} (s : Same H H1) (h : H p = none) : Same H (L2.upd H1 p o) := fun b u e => by rw [upd_ne (ne_of_none e h)]; exact s b u e
def optV : Option Str → V
  | none => .non
  | some z => .str z
/-- all but what stands at l -/
def SameX (l : Addr) (H H' : Hp) : Prop := ∀ b o, b ≠ l → H b = some o → H' b = some o
theorem Same.x {H H' : Hp} (s : Same H H') (l : Addr) : SameX l H H' := fun b o _ e => s b o e
theorem SameX.trans {H H1 H2 : Hp} {l : Addr} (a : SameX l H H1) (b : SameX l H1 H2) : SameX l H H2 := fun c o n e => b c o n (a c o n e)
theorem SameX.refl (H : Hp) (l : Addr) : SameX l H H := fun _ _ _ e => e
theorem SameX.upd {H : Hp} {l : Addr} {o : HO} : SameX l H (L2.upd H l o) := fun b u n e => by rw [upd_ne n]; exact e
theorem SameX.same {H H1 H' : Hp} {l : Addr} (s : Same H H1) (x : SameX l H1 H') (n : H l = none) : Same H H' := fun b o e => x b o (ne_of_none e n) (s b o e)
theorem tupAt {K : PySem.W.Frag} {H : Hp} {a : Addr} {xs : List V} (h : H a = some (.tup xs)) : SqT K H a xs := SqT.of h
section
variable {X : Cx}
/-- an expression that is not reached -/
theorem pe_no {e : Expr} : PE X e (fun _ _ _ => False) := ⟨fun _ _ _ _ _ _ h => h.elim⟩
end
section
variable {J : It} {n : Nat} {G : Hp → Prop} {Y : Nat → Hp → V → Hp → Prop}
/-- a comprehension without a test that stores nothing: the values it makes -/
theorem lc_vals (w : Walk J n G Y) {g : TG} {te : TE} {vs : List Nat} {σ : L2.St} {H1 : Hp} {D : Addr} {Qd : Hp → Prop} (fs : Nat → V) (hn : n < sizeLine) (hD : H1 D = none) (hG : ∀ H, Same H1 H → G H)
    (hs : ∀ (i : Nat) (x : V) (H H' : Hp) (Nx : Hp → Prop), i < n → Same H1 H → Y i H x H' → (∀ y H4, y = fs i → Same H H4 → ∃ acc, H4 D = some (.lst acc) ∧ acc.length < sizeLine ∧ Nx (L2.upd H4 D (.lst (acc ++ [y])))) →
      g x (wipe σ vs) H' fun σ2 H2 => wipe σ2 vs = wipe σ vs ∧ te σ2 H2 fun y H4 => ∃ acc, H4 D = some (.lst acc) ∧ acc.length < sizeLine ∧ Nx (L2.upd H4 D (.lst (acc ++ [y]))))
    (hd : ∀ H, Same H1 H → H D = some (.lst ((List.range n).map fs)) → Qd H) :
    ∃ W : Nat → Nat → Hp → Prop, (∃ m, W 0 m (L2.upd H1 D (.lst []))) ∧ ∀ i m H, W i m H →
      (J.stop i H ∧ Qd H) ∨ (J.go i H ∧ ∃ Nx : Hp → Prop, (∀ H', Nx H' → ∃ m', m' < m ∧ W (i + 1) m' H') ∧ ∀ x H', J.yld i H x H' → g x (wipe σ vs) H' fun σ2 H2 => wipe σ2 vs = wipe σ vs ∧ tYes σ2 H2 fun b H3 =>
        if b = true then te σ2 H3 fun y H4 => ∃ acc, H4 D = some (.lst acc) ∧ acc.length < sizeLine ∧ Nx (L2.upd H4 D (.lst (acc ++ [y]))) else Nx H3) := by
  refine lc_it w (tt := tYes) (fun i H => Same H1 H ∧ H D = some (.lst ((List.range i).map fs))) ⟨Same.upd hD, upd_same⟩ (fun i H _ p => hG H p.1) (fun i x H H' hi p y => ?_) fun H p => hd H p.1 p.2
  obtain ⟨s, e⟩ := p
  exact hs i x H H' (fun H2 => Same H1 H2 ∧ H2 D = some (.lst ((List.range (i + 1)).map fs))) hi s y fun z H4 ez s4 => ⟨_, s4 _ _ e, by rw [List.length_map, List.length_range]; omega, Same.put (s.trans s4) hD, by rw [upd_same, List.range_succ, List.map_append, ez]; rfl⟩
end
end Sps
set_option Elab.async false
set_option linter.all false
set_option maxRecDepth 100000
set_option maxHeartbeats 4000000
/-! kinds: what each def promises. -/
namespace Sps
open PySem PySem.Spec PyProof.Rows L2
section
variable {P : Program} {w : World} {K : PySem.W.Frag} {mg : Str → Option Value} {base : Heap}
/-- no int, or a bool -/
def NoInt (K : PySem.W.Frag) (H : Hp) (x : V) : Prop := ∃ t, TyX K H x t ∧ (PySem.W.kitOne K t (.type "int") = some false ∨ (PySem.W.kitOne K t (.type "int") = some true ∧ PySem.W.kitOne K t (.type "bool") = some true))
def spWhole (K : PySem.W.Frag) : Sp := fun vs H Q _ => ∃ x : V, vs = [x] ∧ ((∃ v, x = .int v ∧ Q (.bl true) H) ∨ (NoInt K H x ∧ Q (.bl false) H))
theorem scWh : FnScope ["value"] ["value"] (defScope s_is_whole_number) := ⟨rfl, rfl, rfl, by decide +kernel, rfl, by decide +kernel, by decide +kernel⟩
theorem ok_whole {f : Addr} {fd : FuncData} (F : Fun K "is_whole_number" "is_whole_number" s_is_whole_number f fd) (T : Names mg) : FnOk P w K mg base CX0 1 f fd ["value"] (spWhole K) := by
  refine F.ok scWh (fun vs H Q E h => ?_) (fun cdv A outer s H vs Q E hr h => ?_)
  · obtain ⟨x, rfl, _⟩ := h
    rfl
  · obtain ⟨x, rfl, h⟩ := h
    refine ⟨_, pss_one (ps_ret (pe_and (pe_callB call_isi (by rfl) T.isinstance (by decide +kernel) (pa_cons (pv 0) (pa_cons (pe_bltn (v := .ty "int") (by rfl) T.int (by decide +kernel) rfl) pa_nil)))
      (pe_one (pe_not (pe_callB call_isi (by rfl) T.isinstance (by decide +kernel) (pa_cons (pv 0) (pa_cons (pe_bltn (v := .ty "bool") (by rfl) T.bool (by decide +kernel) rfl) pa_nil))))))), ?_⟩
    rcases h with ⟨v, rfl, h⟩ | ⟨⟨t, ty, hb⟩, h⟩
    · refine ⟨_, rfl, _, _, _, _, true, rfl, .ty "int", .base (.int v), kit_ty (by decide +kernel), true, rfl, ?_⟩
      refine iteT ?_
      refine ⟨_, rfl, _, _, _, _, false, rfl, .ty "bool", .base (.int v), kit_ty (by decide +kernel), false, rfl, ?_⟩
      exact h
    · rcases hb with hi | ⟨hi, hb⟩
      · refine ⟨_, rfl, _, _, _, _, false, rfl, .ty "int", ty, hi, false, rfl, ?_⟩
        exact iteF h
      · refine ⟨_, rfl, _, _, _, _, true, rfl, .ty "int", ty, hi, true, rfl, ?_⟩
        refine iteT ?_
        refine ⟨_, rfl, _, _, _, _, true, rfl, .ty "bool", ty, hb, true, rfl, ?_⟩
        exact h
def spWithin (K : PySem.W.Frag) : Sp := fun vs H Q _ => ∃ (x : V) (l m : Int), vs = [x, .int l, .int m] ∧ ((∃ v, x = .int v ∧ Q (.bl (decide (l ≤ v) && decide (v ≤ m))) H) ∨ (NoInt K H x ∧ Q (.bl false) H))
theorem scW : FnScope ["value", "least", "most"] ["value", "least", "most"] (defScope s_is_within) := ⟨rfl, rfl, rfl, by decide +kernel, rfl, by decide +kernel, by decide +kernel⟩
theorem ok_within {f g : Addr} {fd fdG : FuncData} (F : Fun K "is_within" "is_within" s_is_within f fd) (G : FnOk P w K mg base CX0 1 g fdG ["value"] (spWhole K)) (mgG : mg "is_whole_number" = some (.ref g)) (kG : PySem.W.keepIn K (.ref g) = true) (bG : Binds K fdG ["value"] []) : FnOk P w K mg base CX0 2 f fd ["value", "least", "most"] (spWithin K) := by
  refine F.ok scW (fun vs H Q E h => ?_) (fun cdv A outer s H vs Q E hr h => ?_)
  · obtain ⟨x, l, m, rfl, _⟩ := h
    rfl
  · obtain ⟨x, l, m, rfl, h⟩ := h
    refine ⟨_, pss_one (ps_ret (pe_and (pe_call G hr rfl mgG kG bG .nil pass0 (pa_cons (pv 0) pa_nil))
      (pe_one (pe_chain op_le op_le (pv 1) (pv 0) (pv 2))))), ?_⟩
    rcases h with ⟨v, rfl, h⟩ | ⟨n, h⟩
    · refine ⟨_, rfl, _, rfl, .inl ⟨v, rfl, _, rfl, ?_⟩⟩
      refine iteT ?_
      refine ⟨_, rfl, _, rfl, _, _, rfl, rfl, _, rfl, ?_⟩
      refine ite2 (fun c => ?_) (fun c => ?_)
      · refine ⟨_, rfl, _, _, rfl, rfl, ?_⟩
        rw [c] at h
        exact h
      · have c' : decide (l ≤ v) = false := by simpa using c
        rw [c'] at h
        exact h
    · refine ⟨_, rfl, _, rfl, .inr ⟨n, _, rfl, ?_⟩⟩
      exact iteF h
/-! ### is_number_in -/
def spNumIn (K : PySem.W.Frag) : Sp := fun vs H Q _ => ∃ (x : V) (d : Addr) (kvs : List (Key × V)), vs = [x, .ref d] ∧ H d = some (.dK kvs) ∧ ((∃ v, x = .int v ∧ Q (.bl (valV kvs (Sum.inl v)).isSome) H) ∨ (NoInt K H x ∧ Q (.bl false) H))
theorem scNI : FnScope ["value", "table"] ["value", "table"] (defScope s_is_number_in) := ⟨rfl, rfl, rfl, by decide +kernel, rfl, by decide +kernel, by decide +kernel⟩
theorem ok_numIn {f g : Addr} {fd fdG : FuncData} (F : Fun K "is_number_in" "is_number_in" s_is_number_in f fd) (G : FnOk P w K mg base CX0 1 g fdG ["value"] (spWhole K)) (mgG : mg "is_whole_number" = some (.ref g)) (kG : PySem.W.keepIn K (.ref g) = true) (bG : Binds K fdG ["value"] []) : FnOk P w K mg base CX0 2 f fd ["value", "table"] (spNumIn K) := by
  refine F.ok scNI (fun vs H Q E h => ?_) (fun cdv A outer s H vs Q E hr h => ?_)
  · obtain ⟨_, _, _, rfl, _⟩ := h
    rfl
  · obtain ⟨x, d, kvs, rfl, hd, h⟩ := h
    have hu := hu_of hr
    refine ⟨_, pss_one (ps_ret (pe_and (pe_call G hr rfl mgG kG bG .nil pass0 (pa_cons (pv 0) pa_nil))
      (pe_one (pe_cmp (pc_din hu (pv 0) (pv 1)))))), ?_⟩
    rcases h with ⟨v, rfl, h⟩ | ⟨n, h⟩
    · refine ⟨_, rfl, _, rfl, .inl ⟨v, rfl, _, rfl, ?_⟩⟩
      refine iteT ?_
      exact ⟨_, rfl, _, rfl, d, _, rfl, DGet.k (k := Sum.inl v) hd, h⟩
    · refine ⟨_, rfl, _, rfl, .inr ⟨n, _, rfl, ?_⟩⟩
      exact iteF h
/-! ### words -/
/-- a text, or none -/
inductive StrV (K : PySem.W.Frag) (H : Hp) : V → Option Str → Prop
  | yes (z : Str) (h : z.length ≤ sizeLine) : StrV K H (.str z) (some z)
  | no {x : V} {t : Value} (ty : TyX K H x t) (k : PySem.W.kitOne K t (.type "str") = some false) : StrV K H x none
theorem kit_ss (K : PySem.W.Frag) : PySem.W.kitOne K (.type "str") (.type "str") = some true := kit_ty (by decide +kernel)
def lettersOk (L z : Str) : Bool := (decide (1 ≤ z.length) && decide (z.length ≤ 8)) && z.cps.toList.all fun c => decide (c ∈ L.cps.toList)
def okS (L : Str) : Option Str → Bool
  | some z => lettersOk L z
  | none => false
def spLet (K : PySem.W.Frag) : Sp := fun vs H Q _ => ∃ (x : V) (L : Str) (o : Option Str), vs = [x, .str L] ∧ StrV K H x o ∧ ∀ H', Same H H' → Q (.bl (okS L o)) H'
theorem scMO : FnScope ["value", "letters", "letter"] ["value", "letters"] (defScope s__is_made_of) := ⟨rfl, rfl, rfl, by decide +kernel, rfl, by decide +kernel, by decide +kernel⟩
theorem all_range {n : Nat} {f : Nat → Bool} {l : List Nat} {g : Nat → Bool} (hl : l.length = n) (h : ∀ (i : Nat) c, l[i]? = some c → f i = g c) : ((List.range n).map f).all id = l.all g := by
  subst hl
  induction l generalizing f with
  | nil => rfl
  | cons c l ih =>
    rw [List.length_cons, List.range_succ_eq_map, List.map_cons, List.all_cons, List.all_cons, List.map_map, ih (f := f ∘ Nat.succ) fun i c' e => h (i + 1) c' e]
    rw [show id (f 0) = g c from h 0 c rfl]
def sgn (L z : Str) (i : Nat) : Bool := match z.cps[i]? with
  | some c => decide (c ∈ L.cps.toList)
  | none => false
theorem ok_madeOf {f : Addr} {fd : FuncData} (F : Fun K "_is_made_of" "_is_made_of" s__is_made_of f fd) (T : Names mg) : FnOk P w K mg base CX0 1 f fd ["value", "letters"] (spLet K) := by
  refine F.ok scMO (fun vs H Q E h => ?_) (fun cdv A outer s H vs Q E hr h => ?_)
  · obtain ⟨_, _, _, rfl, _⟩ := h
    rfl
  · obtain ⟨x, L, o, rfl, hx, h⟩ := h
    refine ⟨_, pss_cons (ps_if (PW.pt (pw_or (pt_not (pt_val (pe_callB call_isi (by rfl) T.isinstance (by decide +kernel) (pa_cons (pv 0) (pa_cons (pe_bltn (v := .ty "str") (by rfl) T.str (by decide +kernel) rfl) pa_nil)))))
      (pw_or1 (pt_not (pt_chain op_le op_le pe_int (pe_callB call_len_str (by rfl) T.len PySem.boot_len (pa_cons (pv 0) pa_nil)) pe_int))))) (pss_one (ps_ret pe_bl)) pss_nil)
      (pss_one (ps_ret (pe_callB (cr_all rfl) (by rfl) T.all (by decide +kernel) (pa_cons (pe_lc (own := [("letter", 2)]) (g := gName 2) (tt := tYes) rfl scMO.nd (pi_str (pv 0)) (blkOk_by (own := [("letter", 2)]) (N := ["value", "letters", "letter"]) (sc := defScope s__is_made_of) (by decide +kernel))
        (fun _ _ _ _ _ => pg_name (i := 2) scMO.nd rfl (Or.inl rfl)) (fun _ _ _ _ _ => pts_nil) (fun _ _ _ _ _ => pe_cmpR op_in_sign (pv 2) (pv 1) rfl)) pa_nil)))), ?_⟩
    cases hx with
    | no ty k =>
      refine ⟨_, rfl, _, _, _, _, false, rfl, .ty "str", ty, k, false, rfl, ?_⟩
      exact iteT (iteT (h H (Same.refl H)))
    | yes z hz =>
      refine ⟨_, rfl, _, _, _, _, true, rfl, .ty "str", .base (.str z), kit_ss K, true, rfl, ?_⟩
      refine iteF ?_
      have len : okS L (some z) = ((decide ((1 : Int) ≤ (z.length : Int)) && decide ((z.length : Int) ≤ 8)) && z.cps.toList.all fun c => decide (c ∈ L.cps.toList)) := by
        show lettersOk L z = _
        unfold lettersOk
        congr 2
        · exact decide_eq_decide.mpr (by omega)
        · exact decide_eq_decide.mpr (by omega)
      have no : (decide ((1 : Int) ≤ (z.length : Int)) && decide ((z.length : Int) ≤ 8)) = false → Q (.bl false) H := fun e => by
        have q := h H (Same.refl H)
        rw [len, e, Bool.false_and] at q
        exact q
      refine ⟨_, rfl, z, rfl, hz, _, _, rfl, rfl, _, rfl, ?_⟩
      refine ite2 (fun c1 => ?_) (fun c1 => ?_)
      · refine ⟨_, _, rfl, rfl, _, rfl, ?_⟩
        refine ite2 (fun c2 => ?_) (fun c2 => ?_)
        · refine no ?_
          have : decide ((z.length : Int) ≤ 8) = false := by simpa using c2
          rw [this, Bool.and_false]
        · have c2' : decide ((z.length : Int) ≤ 8) = true := by simpa using c2
          have h8 : z.length ≤ 8 := by have := of_decide_eq_true c2'; omega
          refine ⟨_, rfl, z, rfl, fun D hD => lc_vals walk_str (fun i => V.bl (sgn L z i)) ?_ hD (fun _ _ => trivial) (fun i x H1 H2 Nx hi sH y k => ?_) (fun H1 sH hL => ?_)⟩
          · exact Nat.lt_of_le_of_lt (Nat.le_trans (show z.cps.size ≤ 8 from h8) (by decide)) (by decide : 8 < sizeLine)
          · obtain ⟨rfl, c, hc, rfl⟩ := y
            refine ⟨rfl, ?_⟩
            refine ⟨_, rfl, _, rfl, c, L, rfl, rfl, ?_⟩
            refine k _ _ ?_ (Same.refl _)
            unfold sgn
            rw [hc]
          · have el : (List.range z.cps.size).map (fun i => V.bl (sgn L z i)) = ((List.range z.cps.size).map (sgn L z)).map V.bl := by rw [List.map_map]; rfl
            rw [el] at hL
            refine ⟨D, _, rfl, SqL.of hL, ?_⟩
            rw [all_range (l := z.cps.toList) (g := fun c => decide (c ∈ L.cps.toList)) (by simp) (fun i c e => by rw [Array.getElem?_toList] at e; unfold sgn; rw [e])]
            have q := h H1 sH
            rw [len, c1, c2', Bool.true_and] at q
            exact q
      · refine ⟨false, rfl, iteT (no ?_)⟩
        have : decide ((1 : Int) ≤ (z.length : Int)) = false := by simpa using c1
        rw [this, Bool.false_and]
/-! ### is_name, is_word -/
abbrev alphaL : Str := "abcdefghijklmnopqrstuvwxyz"
abbrev wordL : Str := "abcdefghijklmnopqrstuvwxyz0123456789"
def spName (K : PySem.W.Frag) : Sp := fun vs H Q _ => ∃ (x : V) (o : Option Str), vs = [x] ∧ StrV K H x o ∧ ∀ H', Same H H' → Q (.bl (okS alphaL o)) H'
theorem scNm : FnScope ["value"] ["value"] (defScope s_is_name) := ⟨rfl, rfl, rfl, by decide +kernel, rfl, by decide +kernel, by decide +kernel⟩
theorem ok_name {f g : Addr} {fd fdG : FuncData} (F : Fun K "is_name" "is_name" s_is_name f fd) (T : Names mg) (G : FnOk P w K mg base CX0 1 g fdG ["value", "letters"] (spLet K)) (mgG : mg "_is_made_of" = some (.ref g)) (kG : PySem.W.keepIn K (.ref g) = true) (bG : Binds K fdG ["value", "letters"] []) : FnOk P w K mg base CX0 2 f fd ["value"] (spName K) := by
  refine F.ok scNm (fun vs H Q E h => ?_) (fun cdv A outer s H vs Q E hr h => ?_)
  · obtain ⟨_, _, rfl, _⟩ := h
    rfl
  · obtain ⟨x, o, rfl, hx, h⟩ := h
    obtain ⟨tL, mL⟩ := T.LETTERS
    refine ⟨_, pss_one (ps_ret (pe_call G hr rfl mgG kG bG .nil pass0 (pa_cons (pv 0) (pa_cons (pe_glob (v := .str alphaL) rfl mL ⟨_, rfl⟩) pa_nil)))), ?_⟩
    exact ⟨_, rfl, _, alphaL, o, rfl, hx, h⟩
theorem wordL_eq : (alphaL ++ ("0123456789" : Str)) = wordL := by decide +kernel
def spWord (K : PySem.W.Frag) : Sp := fun vs H Q _ => ∃ (x : V) (o : Option Str), vs = [x] ∧ StrV K H x o ∧ ∀ H', Same H H' → Q (.bl (okS wordL o)) H'
theorem scWd : FnScope ["value"] ["value"] (defScope s_is_word) := ⟨rfl, rfl, rfl, by decide +kernel, rfl, by decide +kernel, by decide +kernel⟩
theorem ok_word {f g : Addr} {fd fdG : FuncData} (F : Fun K "is_word" "is_word" s_is_word f fd) (T : Names mg) (G : FnOk P w K mg base CX0 1 g fdG ["value", "letters"] (spLet K)) (mgG : mg "_is_made_of" = some (.ref g)) (kG : PySem.W.keepIn K (.ref g) = true) (bG : Binds K fdG ["value", "letters"] []) : FnOk P w K mg base CX0 2 f fd ["value"] (spWord K) := by
  refine F.ok scWd (fun vs H Q E h => ?_) (fun cdv A outer s H vs Q E hr h => ?_)
  · obtain ⟨_, _, rfl, _⟩ := h
    rfl
  · obtain ⟨x, o, rfl, hx, h⟩ := h
    obtain ⟨tL, mL⟩ := T.LETTERS
    obtain ⟨tD, mD⟩ := T.DIGITS
    refine ⟨_, pss_one (ps_ret (pe_call G hr rfl mgG kG bG .nil pass0 (pa_cons (pv 0) (pa_cons (pe_op op_add_str (pe_glob (v := .str alphaL) rfl mL ⟨_, rfl⟩) (pe_glob (v := .str "0123456789") rfl mD ⟨_, rfl⟩)) pa_nil)))), ?_⟩
    exact ⟨_, rfl, _, _, rfl, rfl, by decide +kernel, _, wordL, o, by rw [wordL_eq]; rfl, hx, h⟩
/-! ### is_tuple_of -/
inductive TupV (K : PySem.W.Frag) (H : Hp) : V → Option (List V) → Prop
  | yes {a : Addr} {xs : List V} (h : Rd H a (.tup xs)) : TupV K H (.ref a) (some xs)
  | no {x : V} {t : Value} (ty : TyX K H x t) (k : PySem.W.kitOne K t (.type "tuple") = some false) : TupV K H x none
theorem kit_tt (K : PySem.W.Frag) : PySem.W.kitOne K (.type "tuple") (.type "tuple") = some true := kit_ty (by decide +kernel)
theorem tyRd {K : PySem.W.Frag} {H : Hp} {a : Addr} {xs : List V} (h : Rd H a (.tup xs)) : TyX K H (.ref a) (.type "tuple") := by
  rcases h with h | ⟨o, h⟩
  · exact .base (.tup h)
  · exact .fTuple h
def isTup (n : Int) : Option (List V) → Bool
  | some xs => decide ((xs.length : Int) = n)
  | none => false
def spTupOf (K : PySem.W.Frag) : Sp := fun vs H Q _ => ∃ (x : V) (n : Int) (o : Option (List V)), vs = [x, .int n] ∧ TupV K H x o ∧ Q (.bl (isTup n o)) H
theorem scTO : FnScope ["value", "many"] ["value", "many"] (defScope s_is_tuple_of) := ⟨rfl, rfl, rfl, by decide +kernel, rfl, by decide +kernel, by decide +kernel⟩
theorem ok_tupOf {f : Addr} {fd : FuncData} (F : Fun K "is_tuple_of" "is_tuple_of" s_is_tuple_of f fd) (T : Names mg) : FnOk P w K mg base CX0 1 f fd ["value", "many"] (spTupOf K) := by
  refine F.ok scTO (fun vs H Q E h => ?_) (fun cdv A outer s H vs Q E hr h => ?_)
  · obtain ⟨_, _, _, rfl, _⟩ := h
    rfl
  · obtain ⟨x, n, o, rfl, hx, h⟩ := h
    refine ⟨_, pss_one (ps_ret (pe_and (pe_callB call_isi (by rfl) T.isinstance (by decide +kernel) (pa_cons (pv 0) (pa_cons (pe_bltn (v := .ty "tuple") (by rfl) T.tuple (by decide +kernel) rfl) pa_nil)))
      (pe_one (pe_cmpR op_eq (pe_callB call_len_seq (by rfl) T.len PySem.boot_len (pa_cons (pv 0) pa_nil)) (pv 1) (nomark _))))), ?_⟩
    cases hx with
    | no ty k =>
      refine ⟨_, rfl, _, _, _, _, false, rfl, .ty "tuple", ty, k, false, rfl, ?_⟩
      exact iteF h
    | yes hA =>
      rename_i a xs
      refine ⟨_, rfl, _, _, _, _, true, rfl, .ty "tuple", tyRd hA, kit_tt K, true, rfl, ?_⟩
      refine iteT ?_
      refine ⟨_, rfl, a, xs, rfl, .inr (.inl hA), _, rfl, rfl, ?_⟩
      have e : decide (V.int (xs.length : Nat) = V.int n) = decide ((xs.length : Int) = n) := decide_eq_decide.mpr ⟨V.int.inj, fun z => by rw [z]⟩
      rw [e]
      exact h
end
end Sps
set_option Elab.async false
set_option linter.all false
set_option maxRecDepth 100000
set_option maxHeartbeats 4000000
/-! checks: copies. -/
namespace Sps
open PySem PySem.Spec PyProof.Rows L2
/-! ### rows of copies -/
abbrev Cp := Str × Option Str
def cpEnt (r : Cp) : Key × V := (Sum.inr r.1, optV r.2)
def look (rs : List Cp) (n : Str) : Option (Option Str) := (rs.find? fun r => decide (r.1 = n)).map (·.2)
theorem look_cons {r : Cp} {rs : List Cp} {n : Str} : look (r :: rs) n = if r.1 = n then some r.2 else look rs n := by
  unfold look
  rw [List.find?_cons]
  by_cases h : r.1 = n
  · rw [decide_eq_true h, if_pos h]; rfl
  · rw [decide_eq_false h, if_neg h]
theorem valV_look (rs : List Cp) (n : Str) : valV (rs.map cpEnt) (Sum.inr n) = (look rs n).map optV := by
  induction rs with
  | nil => rfl
  | cons r rs ih =>
    rw [look_cons]
    unfold valV at ih ⊢
    rw [List.map_cons, List.find?_cons]
    by_cases h : r.1 = n
    · have e : decide ((cpEnt r).1 = Sum.inr n) = true := decide_eq_true (by show (Sum.inr r.1 : Key) = Sum.inr n; rw [h])
      rw [e, if_pos h]; rfl
    · have e : decide ((cpEnt r).1 = Sum.inr n) = false := decide_eq_false (fun z => h (Sum.inr.inj z))
      rw [e, if_neg h]; exact ih
def lead (rs : List Cp) : Nat → Str → Bool
  | 0, _ => false
  | k + 1, n => match look rs n with
    | some none => true
    | some (some m) => lead rs k m
    | none => false
/-- each name that is followed is there -/
def Closed (rs : List Cp) : Prop := ∀ n m, look rs n = some (some m) → (look rs m).isSome = true
section
variable {P : Program} {w : World} {K : PySem.W.Frag} {mg : Str → Option Value} {base : Heap}
theorem call_lenRd {X : Cx} : CallR X (.builtin "len") (fun xs H Q => ∃ a kvs, xs = [.ref a] ∧ Rd H a (.dK kvs) ∧ Q (.int kvs.length) H) := by
  intro pins s σ H xs us Q I r h
  obtain ⟨a, kvs, rfl, ha, q⟩ := h
  obtain ⟨u, rfl, ru⟩ := vals1 r
  obtain rfl : u = Value.ref a := ru
  exact d_len I ha fun t s' I' => ⟨.int _, H, I', ⟨t, rfl⟩, q⟩
theorem DGet.rd {H : Hp} {a : Addr} {kvs : List (Key × V)} {k : Key} (e : Rd H a (.dK kvs)) : DGet H a (kV k) (valV kvs k) := .inl ⟨kvs, k, e, rfl, rfl⟩
def spLeads : Sp := fun vs H Q _ => ∃ (d : Addr) (n : Str) (rs : List Cp), vs = [.ref d, .str n] ∧ Rd H d (.dK (rs.map cpEnt)) ∧ rs.length ≤ 1000 ∧ Closed rs ∧ (look rs n).isSome = true ∧ Q (.bl (lead rs rs.length n)) H
theorem scLd : FnScope ["followed", "name", "_"] ["followed", "name"] (defScope s__leads_out) := ⟨rfl, rfl, rfl, by decide +kernel, rfl, by decide +kernel, by decide +kernel⟩
theorem ok_leads {f : Addr} {fd : FuncData} (F : Fun K "_leads_out" "_leads_out" s__leads_out f fd) (T : Names mg) : FnOk P w K mg base CX0 1 f fd ["followed", "name"] spLeads := by
  refine F.ok scLd (fun vs H Q E h => ?_) (fun cdv A outer s H vs Q E hr h => ?_)
  · obtain ⟨_, _, _, rfl, _⟩ := h
    rfl
  · obtain ⟨d, n, rs, rfl, hd, hlen, hcl, hn, h⟩ := h
    have hu := hu_of hr
    refine ⟨_, pss_cons (ps_for PassesOwn.never rfl (pi_range1 rfl T.range (pa_cons (pe_callB call_lenRd (by rfl) T.len PySem.boot_len (pa_cons (pv 0) pa_nil)) pa_nil)) (pg_name (i := 2) scLd.nd rfl (Or.inl rfl))
        (pss_cons (ps_set (i := 1) scLd.nd rfl (Or.inl rfl) (pe_dget hu (pv 0) (pv 1) (fun _ _ => rfl)))
        (pss_one (ps_if (pt_cmpR op_isN (pv 1) pe_non (nomark _)) (pss_one (ps_ret pe_bl)) pss_nil))))
      (pss_one (ps_ret pe_bl)), ?_⟩
    have el : (((rs.map cpEnt).length : Nat) : Int) = (rs.length : Nat) := by rw [List.length_map]
    refine ⟨_, rfl, d, _, rfl, hd, (rs.length : Nat), by rw [el], by omega, by omega, for_range (lo := 0) (n := rs.length) (fun i σ H' => ∃ (m : Str) (y : Option V), σ = [some (.ref d), some (.str m), y] ∧ H' = H ∧ lead rs rs.length n = lead rs (rs.length - i) m ∧ (look rs m).isSome = true) ⟨n, none, rfl, rfl, rfl, hn⟩ ?_ ?_⟩
    · rintro i σ H0 hi ⟨m, y, rfl, rfl, e, hm⟩
      obtain ⟨o, ho⟩ := Option.isSome_iff_exists.mp hm
      have hv : valV (rs.map cpEnt) (Sum.inr m) = some (optV o) := by rw [valV_look, ho]; rfl
      obtain ⟨k, hk⟩ : ∃ k, rs.length - i = k + 1 := ⟨rs.length - i - 1, by omega⟩
      rw [hk] at e
      refine ⟨_, rfl, _, rfl, d, optV o, rfl, by have g := DGet.rd (k := Sum.inr m) hd; rw [hv] at g; exact g, ?_⟩
      cases o with
      | none =>
        refine ⟨_, rfl, rfl, _, rfl, ite_t rfl ?_⟩
        have : lead rs (k + 1) m = true := by unfold lead; rw [ho]
        rw [e, this] at h
        exact h
      | some m2 =>
        refine ⟨_, rfl, rfl, _, rfl, ite_f (by intro z; cases z) ?_⟩
        have : lead rs (k + 1) m = lead rs k m2 := by rw [lead, ho]
        refine ⟨m2, _, rfl, rfl, ?_, hcl m m2 ho⟩
        rw [e, this, show rs.length - (i + 1) = k by omega]
    · rintro σ H' ⟨m, y, rfl, rfl, e, _⟩
      rw [Nat.sub_self] at e
      rw [e] at h
      exact h
end
end Sps
set_option Elab.async false
set_option linter.all false
set_option maxRecDepth 100000
set_option maxHeartbeats 4000000
/-! sorted of a list of pairs whose first items are texts, no two of them the same. -/
namespace Sps
open PySem PySem.Spec PyProof.Rows L2
/-- the text of a pair, read off the heap -/
def rowTx (h : Heap) (v : Value) : Str := DT.txOf (DT.seqAt0 h (DT.refOf (some v)))
/-- v is a pair of the text y and None, or the text m -/
def RowIn (h : Heap) (v : Value) (y : Str) (m : Option Str) : Prop :=
  ∃ (a : Addr) (t : Tok) (u : Value), v = .ref a ∧ IsTup h a #[.str y t, u] ∧ (match m with | none => u = .none | some z => ∃ t2, u = .str z t2)
theorem RowIn.tx {h : Heap} {v : Value} {y : Str} {m : Option Str} (x : RowIn h v y m) : rowTx h v = y := by
  obtain ⟨a, t, u, rfl, h1, _⟩ := x
  show DT.txOf (DT.seqAt0 h a) = y
  rw [DT.seqAt0_of h1]
  rfl
theorem RowIn.keeps {h h' : Heap} {v : Value} {y : Str} {m : Option Str} (x : RowIn h v y m) (k : ∀ b o, h.get? b = some o → o.cls = .type "tuple" → h'.get? b = some o) : RowIn h' v y m := by
  obtain ⟨a, t, u, e, ⟨o, ho, hc, r⟩, hm⟩ := x
  exact ⟨a, t, u, e, ⟨o, k _ _ ho hc, hc, r⟩, hm⟩
section
variable {prog : Program} {w : World} {A : Around} {E : Value → Shared → Prop} {s : Shared}
theorem firsts_rows {h : Heap} {M : Str → Option Str} : ∀ vs : List Value, (∀ v ∈ vs, ∃ y, RowIn h v y (M y)) → ∃ fs : List Value, PySem.W.KatTups h vs fs ∧ fs.length = vs.length ∧ ∀ f ∈ fs, ∃ (y : Str) (t : Tok), f = Value.str y t
  | [], _ => ⟨[], .nil, rfl, fun f hf => by simp at hf⟩
  | v :: vs, x => by
    obtain ⟨fs, k, hl, hi⟩ := firsts_rows vs fun u hu => x u (List.mem_cons_of_mem _ hu)
    obtain ⟨y, a, t, u, rfl, ⟨o, ho, hc, n, hd⟩, _⟩ := x v (List.mem_cons_self ..)
    refine ⟨.str y t :: fs, .cons ho hc hd rfl k, by rw [List.length_cons, List.length_cons, hl], fun f hf => ?_⟩
    rcases List.mem_cons.mp hf with rfl | hf
    · exact ⟨y, t, rfl⟩
    · exact hi f hf
theorem kind_rows {vs : List Value} {ρ : Str → Int} {M : Str → Option Str} (h2 : 2 ≤ vs.length) (x : ∀ v ∈ vs, ∃ y, RowIn s.heap v y (M y))
    (hρ : ∀ v ∈ vs, ∀ u ∈ vs, decide ((rowTx s.heap v).cps.toList < (rowTx s.heap u).cps.toList) = decide (ρ (rowTx s.heap v) < ρ (rowTx s.heap u))) (Q : SortKind → Shared → Prop)
    (h : ∀ κ, TS.Cmp prog w A s κ (pairsOf vs) (fun v => ρ (rowTx s.heap v)) → Q κ s) : wpAny (model prog w) A (keyKind' vs.toArray) Q E s := by
  obtain ⟨fs, k, hl, hi⟩ := firsts_rows vs x
  refine PySem.W.kat_kind (T := Value.type "str") k (by omega) (fun f hf => ?_) rfl (h _ ?_)
  · obtain ⟨y, t, rfl⟩ := hi f hf
    exact PySem.W.Looks.of_pure rfl
  · have hb : (Value.type "str" != Value.type "tuple") = true := by first | rfl | decide | simp
    rw [hb]
    intro p q hp hq Q' E' hQ
    rw [pairsOf_toList] at hp hq
    have mp := (mem_zip_self hp).2
    have mq := (mem_zip_self hq).2
    obtain ⟨y, py⟩ := x _ mp
    obtain ⟨z, pz⟩ := x _ mq
    have hr := hρ _ mp _ mq
    have hQ' : Q' (decide (y.cps.toList < z.cps.toList)) s := by
      rw [py.tx, pz.tx] at hr
      rw [hr]
      have hQ2 : Q' (decide (ρ (rowTx s.heap p.1) < ρ (rowTx s.heap q.1))) s := hQ
      rw [py.tx, pz.tx] at hQ2
      exact hQ2
    obtain ⟨a, t, u, e1, ⟨o, ho, hc, n, hd⟩, hu⟩ := py
    obtain ⟨a', t', u', e2, ⟨o', ho', hc', n', hd'⟩, hu'⟩ := pz
    rw [e1, e2]
    refine PySem.W.kat_lt ho hd ho' hd' ?_
    show PySem.W.KatLex prog w A true false Q' [(Value.str y t, Value.str z t'), (u, u')] 0 s
    by_cases e : y = z
    · subst e
      have irr : decide (y.cps.toList < y.cps.toList) = false := decide_eq_false (List.lt_irrefl _)
      rw [irr] at hQ'
      refine PySem.W.kat_cons (wpAny_eqBool_str ?_)
      rw [decide_eq_true rfl]
      refine PySem.W.kat_yes (PySem.W.kat_cons ?_)
      cases hm : M y with
      | none =>
        rw [hm] at hu hu'
        rw [hu, hu']
        exact SeqAt.EqAt.same Value.none prog w _ _ (PySem.W.kat_yes (PySem.W.kat_nil hQ'))
      | some m =>
        rw [hm] at hu hu'
        obtain ⟨t2, eu⟩ := hu
        obtain ⟨t3, eu'⟩ := hu'
        rw [eu, eu']
        refine wpAny_eqBool_str ?_
        rw [decide_eq_true rfl]
        exact PySem.W.kat_yes (PySem.W.kat_nil hQ')
    · refine PySem.W.kat_cons (wpAny_eqBool_str ?_)
      rw [decide_eq_false e]
      refine PySem.W.kat_no ?_
      show wpAny _ _ (oneLt' true _ _) _ _ _
      exact oneLt_str hQ'
/-- list.sort of such a list -/
theorem sort_rows {a : Addr} {vs : List Value} {n : Nat} {ρ : Str → Int} {M : Str → Option Str} {P : PySem.Fin → Shared → Prop} (ho : s.heap.get? a = some (seqObj "list" vs.toArray n)) (h64 : vs.length < 64) (x : ∀ v ∈ vs, ∃ y, RowIn s.heap v y (M y))
    (hρ : ∀ v ∈ vs, ∀ u ∈ vs, decide ((rowTx s.heap v).cps.toList < (rowTx s.heap u).cps.toList) = decide (ρ (rowTx s.heap v) < ρ (rowTx s.heap u)))
    (h : ∀ out : Array Value, out.toList.Perm vs → out.toList.Pairwise (fun u v => ρ (rowTx s.heap u) ≤ ρ (rowTx s.heap v)) → P (.done (.ret .none)) { s with heap := sortedHeap s.heap a vs out }) :
    wpAny (model prog w) A (Builtin.«list.sort» ⟨[.ref a], []⟩) P E s := by
  have keep : ∀ b o, s.heap.get? b = some o → o.cls = .type "tuple" → (TS.midHeap s.heap a vs).get? b = some o := fun b o e hc => by
    refine TS.midHeap_old ?_ e
    rintro rfl
    rw [ho] at e
    have e' : seqObj "list" vs.toArray n = o := Option.some.inj e
    rw [← e'] at hc
    have c' : Value.type "list" = Value.type "tuple" := hc
    injection c' with c''
    exact absurd c'' (by decide)
  have tx : ∀ v ∈ vs, rowTx (TS.midHeap s.heap a vs) v = rowTx s.heap v := fun v hv => by
    obtain ⟨y, r⟩ := x v hv
    rw [(r.keeps keep).tx, r.tx]
  refine SK.plain_sort (r := fun v => ρ (rowTx (TS.midHeap s.heap a vs) v)) ho h64 (fun h2 Q hQ => ?_) fun ps out h1 h2 h3 => ?_
  · refine kind_rows (s := { s with heap := TS.midHeap s.heap a vs }) (ρ := ρ) (M := M) h2 (fun v hv => ?_) (fun v hv u hu => ?_) Q hQ
    · obtain ⟨y, r⟩ := x v hv
      exact ⟨y, r.keeps keep⟩
    · show decide ((rowTx (TS.midHeap s.heap a vs) v).cps.toList < (rowTx (TS.midHeap s.heap a vs) u).cps.toList) = decide (ρ (rowTx (TS.midHeap s.heap a vs) v) < ρ (rowTx (TS.midHeap s.heap a vs) u))
      rw [tx v hv, tx u hu]
      exact hρ v hv u hu
  · obtain ⟨p, o⟩ := TS.out_rank (r := fun v => ρ (rowTx (TS.midHeap s.heap a vs) v)) h1 h2 h3
    refine h out p (List.Pairwise.imp_of_mem (fun {u v} hu hv q => ?_) o)
    have q' : ρ (rowTx (TS.midHeap s.heap a vs) u) ≤ ρ (rowTx (TS.midHeap s.heap a vs) v) := q
    rw [tx u (p.mem_iff.mp hu), tx v (p.mem_iff.mp hv)] at q'
    exact q'
/-- sorted(xs) -/
theorem sorted_rows {l : Addr} {vs : List Value} {ρ : Str → Int} {M : Str → Option Str} {Q : Value → Shared → Prop} (hl : s.heap.IsList l vs.toArray) (h64 : vs.length < 64) (x : ∀ v ∈ vs, ∃ y, RowIn s.heap v y (M y))
    (hρ : ∀ v ∈ vs, ∀ u ∈ vs, decide ((rowTx s.heap v).cps.toList < (rowTx s.heap u).cps.toList) = decide (ρ (rowTx s.heap v) < ρ (rowTx s.heap u)))
    (h : ∀ out : Array Value, out.toList.Perm vs → out.toList.Pairwise (fun u v => ρ (rowTx s.heap u) ≤ ρ (rowTx s.heap v)) → Q (.ref (s.heap.objs.size + 1)) { s with heap := sortedAll s.heap vs out }) :
    wpAny (model prog w) A (call (.builtin "sorted") [.ref l]) Q E s := by
  refine Calls.call_function_entry kind_sorted plain_sorted entry_sorted (args_sorted1 _) ?_
  unfold Builtin.«sorted»
  refine wpAny_bind (m := checkCount "sorted" 1 1 _) (wpAny_pure ?_)
  refine wpAny_bind (collect_list hl ?_ (by rw [sizeLine_eq]; omega))
  refine wpAny_bind (wpAny_newList ?_ (by rw [sizeLine_eq]; omega))
  have hsz : ((s.heap.push (seqObj "list" #[] 0)).update s.heap.objs.size (Obj.mapSeq (· ++ vs.toArray))).objs.size = s.heap.objs.size + 1 := by
    rw [Heap.size_update, size_push']
  have hoL : (((s.heap.push (seqObj "list" #[] 0)).update s.heap.objs.size (Obj.mapSeq (· ++ vs.toArray))).push (seqObj "list" vs.toArray 0)).get? (s.heap.objs.size + 1) = some (seqObj "list" vs.toArray 0) := by
    rw [← hsz]; exact Heap.get?_push_size _ rfl
  have keep : ∀ b o, s.heap.get? b = some o → o.cls = .type "tuple" → (((s.heap.push (seqObj "list" #[] 0)).update s.heap.objs.size (Obj.mapSeq (· ++ vs.toArray))).push (seqObj "list" vs.toArray 0)).get? b = some o := fun b o q _ => by
    have hlt : b < s.heap.objs.size := Heap.lt_size q
    rw [Heap.get?_push_ne _ _ _ (by rw [hsz]; exact Nat.ne_of_lt (Nat.lt_succ_of_lt hlt)), Heap.get?_update_ne _ _ _ _ (Nat.ne_of_lt hlt), Heap.get?_push_ne _ _ _ (Nat.ne_of_lt hlt)]
    exact q
  show wpAny _ _ _ _ _ { s with heap := ((s.heap.push (seqObj "list" #[] 0)).update s.heap.objs.size (Obj.mapSeq (· ++ vs.toArray))).push (seqObj "list" vs.toArray 0) }
  rw [hsz]
  have tx : ∀ v ∈ vs, rowTx (((s.heap.push (seqObj "list" #[] 0)).update s.heap.objs.size (Obj.mapSeq (· ++ vs.toArray))).push (seqObj "list" vs.toArray 0)) v = rowTx s.heap v := fun v hv => by
    obtain ⟨y, r⟩ := x v hv
    rw [(r.keeps keep).tx, r.tx]
  refine wpAny_bind (wpAny_holding (wpAny_call_entry slot_list_sort ⟨_, hoL, rfl⟩ entry_list_sort (sort_rows (ρ := ρ) (M := M) hoL h64 (fun v hv => ?_) (fun v hv u hu => ?_) fun out a1 a2 => ⟨_, rfl, ?_⟩) (args_list_sort _)))
  · obtain ⟨y, r⟩ := x v hv
    exact ⟨y, r.keeps keep⟩
  · show decide ((rowTx _ v).cps.toList < (rowTx _ u).cps.toList) = decide (ρ (rowTx _ v) < ρ (rowTx _ u))
    rw [tx v hv, tx u hu]
    exact hρ v hv u hu
  · refine wpAny_pure ⟨_, rfl, h out a1 (List.Pairwise.imp_of_mem (fun {u v} hu hv q => ?_) a2)⟩
    rw [← tx u (a1.mem_iff.mp hu), ← tx v (a1.mem_iff.mp hv)]
    exact q
end
/-! ### the rank of a text among some -/
def ltS (x y : Str) : Bool := decide (x.cps.toList < y.cps.toList)
theorem ltS_irr (x : Str) : ltS x x = false := decide_eq_false (List.lt_irrefl _)
theorem ltS_tr {x y z : Str} (h : ltS x y = true) (k : ltS y z = true) : ltS x z = true := decide_eq_true (List.lt_trans (of_decide_eq_true h) (of_decide_eq_true k))
theorem ltS_tot {x y : Str} (h : ltS x y = false) : x = y ∨ ltS y x = true := by
  cases k : ltS y x with
  | true => exact .inr rfl
  | false =>
    left
    have h1 : ¬ x.cps.toList < y.cps.toList := of_decide_eq_false h
    have h2 : ¬ y.cps.toList < x.cps.toList := of_decide_eq_false k
    have e := List.le_antisymm (List.not_lt.mp h2) (List.not_lt.mp h1)
    cases x
    cases y
    rw [Str.mk.injEq]
    exact Array.toList_inj.mp e
def rank (ws : List Str) (x : Str) : Int := ((ws.filter fun y => ltS y x).length : Nat)
theorem rank_lt {ws : List Str} {x y : Str} (hx : x ∈ ws) : decide (x.cps.toList < y.cps.toList) = decide (rank ws x < rank ws y) := by
  have mono : ∀ {u v : Str}, (∀ z, ltS z u = true → ltS z v = true) → ∀ l : List Str, (l.filter fun z => ltS z u).length ≤ (l.filter fun z => ltS z v).length := fun {u v} k l => by
    induction l with
    | nil => exact Nat.le_refl _
    | cons z l ih =>
      rw [List.filter_cons, List.filter_cons]
      cases e : ltS z u with
      | true => rw [k z e]; simp only [if_true, List.length_cons]; omega
      | false =>
        cases ltS z v
        · simpa using ih
        · simp only [if_true, Bool.false_eq_true, if_false, List.length_cons]; omega
  have strict : ∀ {u v : Str}, (∀ z, ltS z u = true → ltS z v = true) → ltS u v = true → ∀ l : List Str, u ∈ l → (l.filter fun z => ltS z u).length < (l.filter fun z => ltS z v).length := fun {u v} k huv l hu => by
    induction l with
    | nil => cases hu
    | cons z l ih =>
      have m := mono k l
      rw [List.filter_cons, List.filter_cons]
      by_cases ez : u = z
      · subst ez
        rw [ltS_irr, huv]
        simp only [if_true, Bool.false_eq_true, if_false, List.length_cons]
        omega
      · have hu' : u ∈ l := by
          rcases List.mem_cons.mp hu with q | q
          · exact absurd q ez
          · exact q
        have i := ih hu'
        cases e : ltS z u with
        | true => rw [k z e]; simp only [if_true, List.length_cons]; omega
        | false =>
          cases ltS z v
          · simpa using i
          · simp only [if_true, Bool.false_eq_true, if_false, List.length_cons]; omega
  unfold rank
  cases e : ltS x y with
  | true =>
    have h1 := strict (fun z hz => ltS_tr hz e) e ws hx
    have e' : decide (x.cps.toList < y.cps.toList) = true := e
    rw [e']
    exact (decide_eq_true (by omega)).symm
  | false =>
    have e' : decide (x.cps.toList < y.cps.toList) = false := e
    rw [e']
    refine (decide_eq_false ?_).symm
    rcases ltS_tot e with q | q
    · rw [q]; omega
    · have h1 := mono (fun z hz => ltS_tr hz q) ws
      omega
/-! ### the rule -/
abbrev Rw := Addr × Str × Option Str
def rwV (r : Rw) : V := .ref r.1
def RwAt (H : Hp) (r : Rw) : Prop := H r.1 = some (.tup [.str r.2.1, optV r.2.2])
def rSortRows : List V → Hp → VK → Prop := fun vs H Q => ∃ (a : Addr) (rs : List Rw), vs = [.ref a] ∧ H a = some (.lst (rs.map rwV)) ∧ rs.length < 64 ∧ (∀ r ∈ rs, RwAt H r) ∧ (rs.map (·.2.1)).Nodup ∧
  ∀ (ss : List Rw) (p : Addr), ss.Perm rs → ss.Pairwise (fun x y => ltS x.2.1 y.2.1 = true) → H p = none → Q (.ref p) (L2.upd H p (.lst (ss.map rwV)))
theorem cr_sortRows {X : Cx} : CallR X (.builtin "sorted") rSortRows := by
  intro pins s σ H vs us Q I r h
  obtain ⟨a, rs, rfl, hs, h64, hx, hnd, q⟩ := h
  obtain ⟨its, rv, hl, hz⟩ := I.list (SqL.of (K := X.K) hs)
  rw [Vals.ref1 r]
  -- the values that stand in the list
  have hits : its = rs.map fun r => Value.ref r.1 := by
    have aux : ∀ (rs : List Rw) (us : List Value), Vals (rs.map rwV) us → us = rs.map fun r => Value.ref r.1 := fun rs => by
      induction rs with
      | nil => intro us v; cases v; rfl
      | cons r rs ih =>
        intro us v
        cases v with
        | cons r1 r2 =>
          rw [List.map_cons, ← ih _ r2]
          rw [show _ = Value.ref r.1 from r1]
    exact aux rs its rv
  subst hits
  have back : ∀ v ∈ rs.map (fun r => Value.ref r.1), ∃ r ∈ rs, v = Value.ref r.1 := fun v hv => by
    obtain ⟨r, m, e⟩ := List.mem_map.mp hv
    exact ⟨r, m, e.symm⟩
  -- what follows a text is told by it
  let M : Str → Option Str := fun y => ((rs.find? fun r => decide (r.2.1 = y)).map (·.2.2)).getD none
  have hM : ∀ r ∈ rs, M r.2.1 = r.2.2 := by
    have aux : ∀ (l : List Rw), (l.map (·.2.1)).Nodup → ∀ r ∈ l, l.find? (fun r' => decide (r'.2.1 = r.2.1)) = some r := fun l => by
      induction l with
      | nil => intro _ r m; cases m
      | cons x l ih =>
        intro nd r m
        rw [List.map_cons, List.nodup_cons] at nd
        rw [List.find?_cons]
        rcases List.mem_cons.mp m with e | m
        · subst e
          rw [decide_eq_true rfl]
        · have ne : x.2.1 ≠ r.2.1 := fun e => nd.1 (by rw [e]; exact List.mem_map.mpr ⟨r, m, rfl⟩)
          rw [decide_eq_false ne]
          exact ih nd.2 r m
    intro r m
    show ((rs.find? fun r' => decide (r'.2.1 = r.2.1)).map (·.2.2)).getD none = r.2.2
    rw [aux rs hnd r m]
    rfl
  have row : ∀ r ∈ rs, RowIn s.heap (Value.ref r.1) r.2.1 (M r.2.1) := fun r m => by
    obtain ⟨_, its2, rv2, o, ho, hc, n, hd⟩ := (show ObjOk X.prog X.w H s.heap r.1 (.tup [.str r.2.1, optV r.2.2]) from I.hok r.1 _ (hx r m))
    rw [hM r m]
    cases rv2 with
    | @cons _ u1 _ _ r1 r2 =>
      cases r2 with
      | @cons _ u2 _ _ r2 r3 =>
        cases r3
        obtain ⟨t, rfl⟩ := (show ∃ t, u1 = Value.str r.2.1 t from r1)
        refine ⟨r.1, t, u2, rfl, ⟨o, ho, hc, n, hd⟩, ?_⟩
        cases e : r.2.2 with
        | none => rw [e] at r2; exact r2
        | some z => rw [e] at r2; exact r2
  have tx : ∀ r ∈ rs, rowTx s.heap (Value.ref r.1) = r.2.1 := fun r m => (row r m).tx
  refine sorted_rows (ρ := rank (rs.map (·.2.1))) (M := M) hl.isList (by rw [List.length_map]; exact h64) (fun v hv => ?_) (fun v hv u hu => ?_) fun out h1 h2 => ?_
  · obtain ⟨r, m, rfl⟩ := back v hv
    exact ⟨_, row r m⟩
  · obtain ⟨r, m, rfl⟩ := back v hv
    obtain ⟨r', m', rfl⟩ := back u hu
    rw [tx r m, tx r' m']
    exact rank_lt (List.mem_map.mpr ⟨r, m, rfl⟩)
  · obtain ⟨ep, he'⟩ := PyProof.Rows.sortedAll_at s.heap (rs.map fun r => Value.ref r.1) out
    -- the rows in their new sequence
    obtain ⟨ss, hp, es⟩ : ∃ ss : List Rw, ss.Perm rs ∧ ss.map (fun r => Value.ref r.1) = out.toList := perm_lift (fun r : Rw => Value.ref r.1) h1 rs rfl
    have hlen : (ss.map rwV).length ≤ sizeLine := by
      rw [List.length_map, hp.length_eq, sizeLine_eq]
      omega
    have rv3 : Vals (ss.map rwV) out.toList := by
      rw [← es]
      exact vals_maps rwV (fun r : Rw => Value.ref r.1) ss fun _ _ => rfl
    refine ⟨.ref _, L2.upd H (s.heap.objs.size + 1) (.lst (ss.map rwV)), I.laid (t' := s.toks) (fun _ _ => PyProof.Rows.sortedAll_old) (Nat.le_succ _) ⟨hlen, out.toList, ep, rv3, he'⟩, rfl, q ss _ hp ?_ (I.hok.fresh (Nat.le_succ _))⟩
    have h2' : ss.Pairwise fun x y => rank (rs.map (·.2.1)) x.2.1 ≤ rank (rs.map (·.2.1)) y.2.1 := by
      rw [← es, List.pairwise_map] at h2
      refine List.Pairwise.imp_of_mem (fun {x y} mx my k => ?_) h2
      rw [tx x (hp.mem_iff.mp mx), tx y (hp.mem_iff.mp my)] at k
      exact k
    have nd2 : (ss.map (·.2.1)).Nodup := (hp.map _).nodup_iff.mpr hnd
    have ne2 : ss.Pairwise fun x y => x.2.1 ≠ y.2.1 := List.pairwise_map.mp nd2
    refine List.Pairwise.imp_of_mem (fun {x y} mx my k => ?_) (h2'.and ne2)
    obtain ⟨k1, k2⟩ := k
    cases e : ltS x.2.1 y.2.1 with
    | true => rfl
    | false =>
      exfalso
      rcases ltS_tot e with z | z
      · exact k2 z
      · have z2 := rank_lt (ws := rs.map (·.2.1)) (x := y.2.1) (y := x.2.1) (List.mem_map.mpr ⟨y, hp.mem_iff.mp my, rfl⟩)
        rw [show decide (y.2.1.cps.toList < x.2.1.cps.toList) = true from z] at z2
        have := of_decide_eq_true z2.symm
        omega
end Sps
set_option Elab.async false
set_option linter.all false
set_option maxRecDepth 100000
set_option maxHeartbeats 4000000
/-! Rules of our own: dict(t) of a tuple of pairs. -/
namespace Sps
open PySem PySem.Spec PyProof.Rows L2
/-! ### dict(t) -/
def rDictT (K : PySem.W.Frag) : List V → Hp → VK → Prop := fun xs H Q => ∃ (a : Addr) (o : Obj) (ps : List Addr) (kvs : List (Key × V)), xs = [.ref a] ∧ H a = some (.frz o (.tup (ps.map V.ref))) ∧ o.dict = none ∧ Paired (fun p kv => SqT K H p [kV kv.1, kv.2]) ps kvs ∧
  ∀ p, H p = none → Q (.ref p) (L2.upd H p (.dK (mergeK [] kvs)))
theorem call_dictT {X : Cx} (hcalm : X.calm = true) : CallR X (.type "dict") (rDictT X.K) := by
  intro pins s σ H xs us Q I r q
  obtain ⟨a, o, ps, kvs, ex, hq, hdn, hp, q⟩ := q
  subst ex
  obtain ⟨u, eu, rx⟩ := vals1 r
  subst eu
  cases rx
  obtain ⟨ho, hz, its, rv, o', ho', hc, n, hd⟩ := (show ObjOk X.prog X.w H s.heap a (.frz o (.tup (ps.map V.ref))) from I.hok a _ hq)
  rw [ho] at ho'
  cases ho'
  have ei := refs_at rv
  subst ei
  rw [List.length_map] at hz
  obtain ⟨prs, rel, hl, hpr⟩ := pairs_of I hp
  -- the pairs, their keys as values
  obtain ⟨us, hus⟩ : ∃ us : List (Value × Value), us.length = ps.length ∧ ∀ (j : Nat) (k v : Value), us[j]? = some (k, v) → ∃ (b : Addr) (q : Key × Value), ps[j]? = some b ∧ prs[j]? = some q ∧ v = q.2 ∧ IsTup s.heap b #[k, q.2] ∧ keyIs q.1 k = true := by
    have aux : ∀ (prs : List (Key × Value)) (ps : List Addr), prs.length = ps.length → (∀ (j : Nat) (q : Key × Value), prs[j]? = some q → ∃ (b : Addr) (u : Value), ps[j]? = some b ∧ IsTup s.heap b #[u, q.2] ∧ keyIs q.1 u = true) →
        ∃ us : List (Value × Value), us.length = ps.length ∧ ∀ (j : Nat) (k v : Value), us[j]? = some (k, v) → ∃ (b : Addr) (q : Key × Value), ps[j]? = some b ∧ prs[j]? = some q ∧ v = q.2 ∧ IsTup s.heap b #[k, q.2] ∧ keyIs q.1 k = true := by
      intro prs
      induction prs with
      | nil =>
        intro ps hl _
        cases ps with
        | nil => exact ⟨[], rfl, fun j k v e => by simp at e⟩
        | cons _ _ => cases hl
      | cons p prs ih =>
        intro ps hl hp
        cases ps with
        | nil => cases hl
        | cons b ps =>
          obtain ⟨us, h1, h2⟩ := ih ps (by simpa using hl) fun j q e => by
            obtain ⟨b', u', e1, e2, e3⟩ := hp (j + 1) q (by simpa using e)
            exact ⟨b', u', by simpa using e1, e2, e3⟩
          obtain ⟨b', u, e1, e2, e3⟩ := hp 0 p rfl
          have eb : b = b' := by simpa using e1
          subst eb
          refine ⟨(u, p.2) :: us, by rw [List.length_cons, List.length_cons, h1], fun j k v e => ?_⟩
          cases j with
          | zero =>
            have e' : (u, p.2) = (k, v) := by simpa using e
            cases e'
            exact ⟨b, p, rfl, rfl, rfl, e2, e3⟩
          | succ j =>
            obtain ⟨b2, q, a1, a2, a3, a4, a5⟩ := h2 j k v (by simpa using e)
            exact ⟨b2, q, by simpa using a1, by simpa using a2, a3, a4, a5⟩
    exact aux prs ps hl hpr
  obtain ⟨hul, huk⟩ := hus
  have PA := PySem.PairArg.tuple (prog := X.prog) (w := X.w) a (ps.map Value.ref).toArray (fun j => ps.getD j 0) us
  refine PySem.call_dict_pairs (knd := mixKind X.prog X.w) (kvs := prs) PA (I.ok.hd hcalm) ⟨⟨o, n, ho, hc, hdn, hd⟩, by simp [hul], fun j k v e => ?_⟩ ⟨by rw [hl, hul], fun i k v e => ?_⟩ (by rw [hul]; exact hz) fun h' tk hd' k => ?_
  · obtain ⟨b, q, e1, e2, e3, e4, e5⟩ := huk j k v e
    refine ⟨?_, .inl ?_⟩
    · rw [List.getElem?_toArray, List.getElem?_map, e1]
      simp [List.getD, e1]
    · have eb : ps.getD j 0 = b := by simp [List.getD, e1]
      show s.heap.IsTuple (ps.getD j 0) #[k, v]
      rw [eb, e3]
      exact e4
  · obtain ⟨b, q, e1, e2, e3, e4, e5⟩ := huk i k v e
    exact ⟨q.1, by rw [e3]; exact e2, e5⟩
  · have hm : (s.heap.objs.size == sysModules) = false := beq_eq_false_iff_ne.mpr (Nat.ne_of_gt I.big)
    have hlen : (mergeK [] kvs).length ≤ sizeLine := by
      refine Nat.le_trans (length_mergeK kvs []) ?_
      rw [List.length_nil, Nat.zero_add, rel.length, hl]
      exact hz
    exact ⟨.ref s.heap.objs.size, L2.upd H s.heap.objs.size (.dK (mergeK [] kvs)), I.laid (t' := tk) (fun b ob e => k b ob (by simp) e) (Nat.le_refl _) (show ObjOk X.prog X.w _ _ _ (.dK (mergeK [] kvs)) from ⟨hlen, hm, merged [] prs, KV.merge rel .nil, hd'⟩), rfl, q _ (I.hok.fresh (Nat.le_refl _))⟩
/-! ### tuple(xs) of a list, locked at once -/
def rTupF (K : PySem.W.Frag) : List V → Hp → VK → Prop := fun xs H Q => ∃ (p : Addr) (ys : List V), xs = [.ref p] ∧ SqL K H p ys ∧ ∀ (l : Addr) (o : Obj), H l = none → o.dict = none → Q (.ref l) (L2.upd H l (.frz o (.tup ys)))
theorem call_tupF {X : Cx} : CallR X (.type "tuple") (rTupF X.K) := by
  intro pins s σ H xs us Q I r h
  obtain ⟨p, ys, rfl, hq, q⟩ := h
  obtain ⟨u, rfl, rx⟩ := vals1 r
  cases rx
  obtain ⟨its, r', pl, hz⟩ := I.list hq
  have hlen := r'.length
  refine call_tuple_list pl.isList (fun h' kp => ?_) (by simp only [List.size_toArray] <;> omega)
  have I1 : Inv X pins σ H { s with heap := h' } := I.kept (t' := s.toks) kp
  have I2 : Inv X pins σ (L2.upd H h'.objs.size (.frz { cls := .type "tuple", data := .seq its.toArray } (.tup ys))) { s with heap := h'.push { cls := .type "tuple", data := .seq its.toArray } } :=
    I1.laid (t' := s.toks) (fun b o e => Heap.get?_push_of_some _ e) (Nat.le_refl _) (show ObjOk X.prog X.w _ _ _ (.frz _ (.tup ys)) from ⟨Heap.get?_push_size _ rfl, hz, its, r', IsTup.new _ _⟩)
  exact ⟨.ref h'.objs.size, _, I2, rfl, q _ _ (I1.hok.fresh (Nat.le_refl _)) rfl⟩
/-! ### list(d.values()) -/
def tListVals (te : TE) : TE := fun σ H Q => te σ H fun x H1 => ∃ (d : Addr) (kvs : List (Key × V)), x = .ref d ∧ H1 d = some (.dK kvs) ∧ ∀ p, H1 p = none → Q (.ref p) (L2.upd H1 p (.lst (kvs.map (·.2))))
theorem pe_listVals {X : Cx} {e : Expr} {te : TE} {p apos cpos pos : Pos} (hc : X.calm = true) (he : PE X e te) (hg : Gl X "list") (hm : X.mg "list" = none) (hv : bootBuiltins "list" = some (.type "list") := by decide +kernel) (hbase : attributeBase e "values" X.env (eval e X.env) = eval e X.env := by rfl) (hline : (apos.endLine == cpos.line) = true := by rfl)
    (hs : starEach [.Call (.Attribute e "values" apos) [] [] cpos] X.env = (false, eval (.Call (.Attribute e "values" apos) [] [] cpos) X.env) :: starEach [] X.env := by rfl) :
    PE X (.Call (.Name "list" p) [.Call (.Attribute e "values" apos) [] [] cpos] [] pos) (tListVals te) := by
  refine ⟨fun pins s σ H Q I hq => ?_⟩
  refine wpAny_Call_Name_kw (ld_blt I hg hm hv ?_)
  refine PyProof.Rows.callWith_type1 ?_ hs rfl
  rw [hs]
  show wpAny _ _ (spliced ((false, eval (.Call (.Attribute e "values" apos) [] [] cpos) X.env) :: backTo pos (starEach [] X.env))) _ _ s
  refine Calls.spliced_cons ?_
  refine wpAny_Call_method (T := "dict") (id := "dict.values") hbase rfl hline F.plainAttrs_dict F.slot_dict_values F.type_dict_values (thn (he.run pins s σ H _ I hq) fun u s1 ⟨x, H1, I1, rx, d, kvs, ex, hd, q⟩ => ?_)
  subst ex
  obtain rfl : u = Value.ref d := rx
  obtain ⟨hz, hs0, vs, kv, hdo⟩ := I1.hok d _ hd
  obtain ⟨ep, hat⟩ := hdo.dictAt
  have lk : kvs.length = vs.length := Paired.length kv
  refine ⟨hdo.typeIs, hdo.mapOf.noDict, ?_⟩
  show wpAny _ _ (callWith cpos (.builtin "dict.values") [.ref d] [] []) _ X.xe s1
  refine method_meetsIn F.slot_dict_values F.entry_dict_values rfl (PySem.evalArgs_none ⟨rfl, hdo.typeIs, F.args_dict_values_1 _, _, meets_dict_values (mixKind X.prog X.w) d hs0, ⟨vs, hdo⟩, ?_⟩)
  refine Calls.spliced_nil ?_
  have I2 : Inv X pins σ H1 { s1 with heap := s1.heap.push { cls := .type "dict_values", data := .fields #[.ref d] } } := I1.kept (t' := s1.toks) fun b ob q => Heap.get?_push_of_some _ q
  refine PySem.W.kdl_call (PySem.W.kdl_values (knd := mixKind X.prog X.w) (kvs := vs) (ep := ep)) (I1.ok.hd hc) ⟨⟨_, Heap.get?_push_size _ rfl, rfl, rfl⟩, hat.push _⟩ (by omega) fun h' tk acc c hk hS hacc => ?_
  have ev : acc.toList = vs.map (·.2) := PySem.W.kdl_vals_eq acc.toList (by rw [Array.length_toList]; exact hacc.1) fun j v e => hacc.2 j v (by rw [← Array.getElem?_toList]; exact e)
  have rv : Vals (kvs.map (·.2)) acc.toList := by
    rw [ev]
    clear hS hacc ev hat hdo hd q lk hz
    induction kv with
    | nil => exact .nil
    | cons h t ih => exact .cons h.2 ih
  refine ⟨.ref _, L2.upd H1 (s1.heap.push { cls := .type "dict_values", data := .fields #[.ref d] }).objs.size (.lst (kvs.map (·.2))), I2.laid (t' := tk) (fun b ob e => hk b ob e) (Nat.le_refl _) (show ObjOk X.prog X.w _ _ _ (.lst (kvs.map (·.2))) from ⟨by rw [List.length_map]; omega, acc.toList, c, rv, ?_⟩), rfl, q _ (I2.hok.fresh (Nat.le_refl _))⟩
  rw [Array.toArray_toList]
  exact hS
/-! ### zip of two tuples, as a walk -/
theorem walk_zipT {K : PySem.W.Frag} {a b : Addr} {xs ys : List V} {n : Nat} (hn : n = min xs.length ys.length) : Walk (RZ.ItzT K a b) n (fun H => SqT K H a xs ∧ SqT K H b ys) (YPair (fun i => xs[i]?) (fun i => ys[i]?)) := by
  subst hn
  refine ⟨fun i _ hi q => ?_, fun _ q => ⟨xs, ys, q.1, q.2, by omega⟩, fun i H v H' _ q y => ?_⟩
  · have h1 : i < xs.length := by omega
    have h2 : i < ys.length := by omega
    exact ⟨xs, ys, xs[i], ys[i], q.1, q.2, by simp [h1], by simp [h2]⟩
  · obtain ⟨T, x, z, h1, h2, h3, h4, h5⟩ := y
    exact ⟨T, x, z, h1, h2, h3, h4 xs q.1, h5 ys q.2⟩
end Sps
set_option Elab.async false
set_option linter.all false
set_option maxRecDepth 100000
set_option maxHeartbeats 4000000
/-! checks: are_copies. -/
namespace Sps
open PySem PySem.Spec PyProof.Rows L2
/-! ### comprehensions of truth values -/
theorem all_rng {n : Nat} {b : Nat → Bool} : ((List.range n).map b).all id = (List.range n).all b := by rw [List.all_map]; rfl
section
variable {J : It} {n : Nat} {G : Hp → Prop} {Y : Nat → Hp → V → Hp → Prop}
theorem lc_bools (w : Walk J n G Y) {g : TG} {te : TE} {vs : List Nat} {σ : L2.St} {H1 : Hp} {D : Addr} {Qd : Hp → Prop} (b : Nat → Bool) (hn : n < sizeLine) (hD : H1 D = none) (hG : ∀ H, Same H1 H → G H)
    (hs : ∀ (i : Nat) (x : V) (H H' : Hp) (Nx : Hp → Prop), i < n → Same H1 H → Y i H x H' → (∀ y H4, y = V.bl (b i) → Same H H4 → ∃ acc, H4 D = some (.lst acc) ∧ acc.length < sizeLine ∧ Nx (L2.upd H4 D (.lst (acc ++ [y])))) →
      g x (wipe σ vs) H' fun σ2 H2 => wipe σ2 vs = wipe σ vs ∧ te σ2 H2 fun y H4 => ∃ acc, H4 D = some (.lst acc) ∧ acc.length < sizeLine ∧ Nx (L2.upd H4 D (.lst (acc ++ [y]))))
    (hd : ∀ H, Same H1 H → H D = some (.lst (((List.range n).map b).map V.bl)) → Qd H) :
    ∃ W : Nat → Nat → Hp → Prop, (∃ m, W 0 m (L2.upd H1 D (.lst []))) ∧ ∀ i m H, W i m H →
      (J.stop i H ∧ Qd H) ∨ (J.go i H ∧ ∃ Nx : Hp → Prop, (∀ H', Nx H' → ∃ m', m' < m ∧ W (i + 1) m' H') ∧ ∀ x H', J.yld i H x H' → g x (wipe σ vs) H' fun σ2 H2 => wipe σ2 vs = wipe σ vs ∧ tYes σ2 H2 fun b H3 =>
        if b = true then te σ2 H3 fun y H4 => ∃ acc, H4 D = some (.lst acc) ∧ acc.length < sizeLine ∧ Nx (L2.upd H4 D (.lst (acc ++ [y]))) else Nx H3) :=
  lc_vals w (fun i => V.bl (b i)) hn hD hG hs fun H s e => hd H s (by rw [e, List.map_map]; rfl)
end
/-! ### rows -/
def nm (rs : List Cp) (i : Nat) : Str := (rs[i]?.map (·.1)).getD ⟨#[]⟩
def ascB (rs : List Cp) : Bool := (List.range (rs.length - 1)).all fun i => ltS (nm rs i) (nm rs (i + 1))
def follB (rs : List Cp) (r : Cp) : Bool := match r.2 with
  | none => true
  | some f => (look rs f).isSome
def closedB (rs : List Cp) : Bool := rs.all (follB rs)
def leadsB (rs : List Cp) : Bool := rs.all fun r => lead rs rs.length r.1
def goodB (rs : List Cp) : Bool := ascB rs && (closedB rs && leadsB rs)
def okRow (r : Cp) : Prop := lettersOk alphaL r.1 = true ∧ ∀ f, r.2 = some f → lettersOk alphaL f = true
theorem nm_at {rs : List Cp} {i : Nat} {r : Cp} (h : rs[i]? = some r) : nm rs i = r.1 := by unfold nm; rw [h]; rfl
theorem asc_pair : ∀ {rs : List Cp}, ascB rs = true → rs.Pairwise fun a b => ltS a.1 b.1 = true
  | [], _ => .nil
  | [_], _ => List.pairwise_singleton _ _
  | a :: b :: rs, h => by
    have h1 := List.all_eq_true.mp h
    have h0 : ltS a.1 b.1 = true := h1 0 (List.mem_range.mpr (by simp only [List.length_cons]; omega))
    have ih : (b :: rs).Pairwise fun a b => ltS a.1 b.1 = true := asc_pair (by
      refine List.all_eq_true.mpr fun i hi => ?_
      have := h1 (i + 1) (List.mem_range.mpr (by have := List.mem_range.mp hi; simp only [List.length_cons] at this ⊢; omega))
      exact this)
    refine List.pairwise_cons.mpr ⟨fun c hc => ?_, ih⟩
    rcases List.mem_cons.mp hc with e | hc
    · rw [e]; exact h0
    · exact ltS_tr h0 ((List.pairwise_cons.mp ih).1 c hc)
theorem pair_nodup {rs : List Cp} (h : rs.Pairwise fun a b => ltS a.1 b.1 = true) : (rs.map (·.1)).Nodup := by
  refine List.pairwise_map.mpr (List.Pairwise.imp (fun {a b} q e => ?_) h)
  rw [e, ltS_irr] at q
  cases q
theorem merge_app : ∀ (more acc : List (Key × V)), ((acc ++ more).map (·.1)).Nodup → mergeK acc more = acc ++ more
  | [], acc, _ => by rw [List.append_nil]; rfl
  | p :: more, acc, h => by
    show mergeK (putK acc p.1 p.2) more = _
    have hp : p.1 ∉ acc.map (·.1) := by
      rw [List.map_append, List.nodup_append] at h
      intro m
      exact h.2.2 p.1 m p.1 (by simp) rfl
    have e : putK acc p.1 p.2 = acc ++ [p] := by
      unfold putK
      have hf : acc.any (fun kv => decide (kv.1 = p.1)) = false := List.any_eq_false.mpr fun kv m z => hp (by rw [← of_decide_eq_true z]; exact List.mem_map.mpr ⟨kv, m, rfl⟩)
      simp [hf]
    rw [e, merge_app more (acc ++ [p]) (by simpa using h)]
    simp
theorem merge_rows {rs : List Cp} (h : (rs.map (·.1)).Nodup) : mergeK [] (rs.map cpEnt) = rs.map cpEnt := by
  rw [merge_app _ [] ?_]
  · rfl
  · rw [List.nil_append, List.map_map]
    have e : (fun r : Cp => (cpEnt r).1) = (Sum.inr ∘ fun r : Cp => r.1) := rfl
    show (rs.map ((·.1) ∘ cpEnt)).Nodup
    rw [show ((fun x : Key × V => x.1) ∘ cpEnt) = (Sum.inr ∘ fun r : Cp => r.1) from rfl, ← List.map_map]
    exact List.Pairwise.map _ (fun a b q z => q (Sum.inr.inj z)) h
theorem closed_of {rs : List Cp} (h : closedB rs = true) : Closed rs := by
  intro n m e
  unfold look at e
  cases q : rs.find? fun r => decide (r.1 = n) with
  | none => rw [q] at e; cases e
  | some r =>
    rw [q] at e
    have e2 : r.2 = some m := Option.some.inj e
    have := List.all_eq_true.mp h r (List.mem_of_find?_eq_some q)
    unfold follB at this
    rw [e2] at this
    exact this
theorem look_mem {rs : List Cp} {r : Cp} (m : r ∈ rs) : (look rs r.1).isSome = true := by
  unfold look
  rw [Option.isSome_map, List.find?_isSome]
  exact ⟨r, m, decide_eq_true rfl⟩
/-- the rows as a tuple of pairs -/
def RowsAt (H : Hp) (a : Addr) (rs : List Cp) : Prop := ∃ (o : Obj) (ts : List Addr), H a = some (.frz o (.tup (ts.map V.ref))) ∧ o.dict = none ∧ Paired (fun (t : Addr) (r : Cp) => H t = some (.tup [.str r.1, optV r.2])) ts rs
theorem paired_imp {α β : Type} {F G : α → β → Prop} (k : ∀ a b, F a b → G a b) : ∀ {xs : List α} {ys : List β}, Paired F xs ys → Paired G xs ys
  | _, _, .nil => .nil
  | _, _, .cons h t => .cons (k _ _ h) (paired_imp k t)
theorem RowsAt.same {H H' : Hp} {a : Addr} {rs : List Cp} (h : RowsAt H a rs) (s : Same H H') : RowsAt H' a rs := let ⟨o, ts, h1, h2, h3⟩ := h; ⟨o, ts, s _ _ h1, h2, paired_imp (fun _ _ e => s _ _ e) h3⟩
theorem paired_at {α β : Type} {F : α → β → Prop} : ∀ {xs : List α} {ys : List β}, Paired F xs ys → ∀ {i : Nat} {x : α}, xs[i]? = some x → ∃ y, ys[i]? = some y ∧ F x y
  | _, _, .nil, i, x, h => by cases h
  | _, _, .cons r t, 0, x, h => by
    have e := Option.some.inj h
    subst e
    exact ⟨_, rfl, r⟩
  | _, _, .cons r t, i + 1, x, h => paired_at t h
section
variable {P : Program} {w : World} {K : PySem.W.Frag} {mg : Str → Option Value} {base : Heap}
/-! ### is_copy -/
theorem short {L z : Str} (h : lettersOk L z = true) : z.length ≤ sizeLine := by
  unfold lettersOk at h
  have h1 := (Bool.and_eq_true_iff.mp (Bool.and_eq_true_iff.mp h).1).2
  have h2 := of_decide_eq_true h1
  exact Nat.le_trans h2 (by decide)
theorem rd_same {H H' : Hp} {a : Addr} {o : HO} (h : Rd H a o) (s : Same H H') : Rd H' a o := by
  rcases h with h | ⟨u, h⟩
  · exact .inl (s _ _ h)
  · exact .inr ⟨u, s _ _ h⟩
/-- what is_copy tells of a value: its row, or none -/
inductive ElV (K : PySem.W.Frag) (H : Hp) : V → Option Cp → Prop
  | copy {t : Addr} {r : Cp} (h : Rd H t (.tup [.str r.1, optV r.2])) (ok : okRow r) : ElV K H (.ref t) (some r)
  | kind {x : V} (h : TupV K H x none) : ElV K H x none
  | size {t : Addr} {xs : List V} (h : Rd H t (.tup xs)) (n : xs.length ≠ 2) : ElV K H (.ref t) none
  | name {t : Addr} {x y : V} {o : Option Str} (h : Rd H t (.tup [x, y])) (s : StrV K H x o) (b : okS alphaL o = false) : ElV K H (.ref t) none
  | foll {t : Addr} {z : Str} {y : V} {o : Option Str} (h : Rd H t (.tup [.str z, y])) (ok : lettersOk alphaL z = true) (nn : y ≠ .non) (s : StrV K H y o) (b : okS alphaL o = false) : ElV K H (.ref t) none
theorem tyX_same {K : PySem.W.Frag} {H H' : Hp} {x : V} {t : Value} (ty : TyX K H x t) (s : Same H H') : TyX K H' x t := by
  cases ty with
  | base b =>
    refine .base ?_
    cases b with
    | non => exact .non
    | bl y => exact .bl y
    | int i => exact .int i
    | str y => exact .str y
    | flt y => exact .flt y
    | lst e => exact .lst (s _ _ e)
    | frz e => exact .frz (s _ _ e)
    | tup e => exact .tup (s _ _ e)
    | dK e => exact .dK (s _ _ e)
    | dT e => exact .dT (s _ _ e)
    | ins e cl ha hn htk hm => exact .ins (s _ _ e) cl ha hn htk hm
  | byt b => exact .byt b
  | set e => exact .set (s _ _ e)
  | kList e c => exact .kList e c
  | kTuple e c => exact .kTuple e c
  | kDict e c => exact .kDict e c
  | fTuple e => exact .fTuple (s _ _ e)
  | fDict e => exact .fDict (s _ _ e)
def spIsCopy (K : PySem.W.Frag) : Sp := fun vs H Q _ => ∃ (x : V) (o : Option Cp), vs = [x] ∧ ElV K H x o ∧ ∀ H', Same H H' → Q (.bl o.isSome) H'
theorem scIC : FnScope ["value"] ["value"] (defScope s_is_copy) := ⟨rfl, rfl, rfl, by decide +kernel, rfl, by decide +kernel, by decide +kernel⟩
theorem ok_isCopy {f g gN : Addr} {fd fdG fdN : FuncData} (F : Fun K "is_copy" "is_copy" s_is_copy f fd) (G : FnOk P w K mg base CX0 1 g fdG ["value", "many"] (spTupOf K)) (mgG : mg "is_tuple_of" = some (.ref g)) (kG : PySem.W.keepIn K (.ref g) = true) (bG : Binds K fdG ["value", "many"] [])
    (N : FnOk P w K mg base CX0 2 gN fdN ["value"] (spName K)) (mgN : mg "is_name" = some (.ref gN)) (kN : PySem.W.keepIn K (.ref gN) = true) (bN : Binds K fdN ["value"] []) : FnOk P w K mg base CX0 3 f fd ["value"] (spIsCopy K) := by
  refine F.ok scIC (fun vs H Q E h => ?_) (fun cdv A outer s H vs Q E hr h => ?_)
  · obtain ⟨_, _, rfl, _⟩ := h
    rfl
  · obtain ⟨v, o, rfl, he, h⟩ := h
    have hr1 : Room 1 _ := hr.mono (by decide)
    refine ⟨_, pss_one (ps_ret (pe_and (pe_call G hr1 rfl mgG kG bG .nil pass0 (pa_cons (pv 0) (pa_cons pe_int pa_nil)))
      (pe_and (pe_call N hr rfl mgN kN bN .nil pass0 (pa_cons (pe_ix ix_tup (pv 0) pe_int (fun _ _ => rfl)) pa_nil))
        (pe_one (pe_or (pe_cmpR op_isN (pe_ix ix_tup (pv 0) pe_int (fun _ _ => rfl)) pe_non (nomark _))
          (pe_one (pe_call N hr rfl mgN kN bN .nil pass0 (pa_cons (pe_ix ix_tup (pv 0) pe_int (fun _ _ => rfl)) pa_nil)))))))), ?_⟩
    have strV_same : ∀ {H1 H2 : Hp} {x : V} {o : Option Str}, Same H1 H2 → StrV K H1 x o → StrV K H2 x o := fun s q => by
      cases q with
      | yes z l => exact .yes z l
      | no ty k => exact .no (tyX_same ty s) k
    cases he with
    | kind hk => exact ⟨_, rfl, _, 2, _, rfl, hk, _, rfl, iteF (h H (Same.refl H))⟩
    | size ht n =>
      refine ⟨_, rfl, _, 2, _, rfl, .yes ht, _, rfl, ?_⟩
      have e : isTup 2 (some _) = false := decide_eq_false (fun z => n (by exact_mod_cast z))
      rw [e]
      exact iteF (h H (Same.refl H))
    | name ht hs b =>
      refine ⟨_, rfl, _, 2, _, rfl, .yes ht, _, rfl, iteT ?_⟩
      refine ⟨_, rfl, _, _, 0, _, rfl, rfl, .inl ht, atI_nat (j := 0) rfl, _, _, rfl, hs, fun H1 s1 => ⟨_, rfl, ?_⟩⟩
      rw [b]
      exact iteF (h H1 s1)
    | foll ht ok1 nn hs b =>
      rename_i t z y o
      refine ⟨_, rfl, _, 2, _, rfl, .yes ht, _, rfl, iteT ?_⟩
      refine ⟨_, rfl, _, _, 0, _, rfl, rfl, .inl ht, atI_nat (j := 0) rfl, _, _, rfl, .yes z (short ok1), fun H1 s1 => ⟨_, rfl, ?_⟩⟩
      refine ite2 (fun _ => ?_) (fun c => absurd ok1 c)
      have ht1 := rd_same ht s1
      refine ⟨_, rfl, _, _, 1, _, rfl, rfl, .inl ht1, atI_nat (j := 1) rfl, rfl, ?_⟩
      rw [show decide (y = V.non) = false from decide_eq_false nn]
      refine ⟨_, rfl, iteF ?_⟩
      refine ⟨_, rfl, _, _, 1, _, rfl, rfl, .inl ht1, atI_nat (j := 1) rfl, _, _, rfl, strV_same s1 hs, fun H2 s2 => ?_⟩
      rw [b]
      exact h H2 (s1.trans s2)
    | copy ht ok =>
      rename_i t r
      obtain ⟨ok1, ok2⟩ := ok
      refine ⟨_, rfl, _, 2, _, rfl, .yes ht, _, rfl, iteT ?_⟩
      refine ⟨_, rfl, t, _, 0, _, rfl, rfl, .inl ht, atI_nat (j := 0) rfl, _, _, rfl, .yes r.1 (short ok1), fun H1 s1 => ⟨_, rfl, ?_⟩⟩
      refine ite2 (fun _ => ?_) (fun c => absurd ok1 c)
      have ht1 := rd_same ht s1
      refine ⟨_, rfl, t, _, 1, _, rfl, rfl, .inl ht1, atI_nat (j := 1) rfl, rfl, ?_⟩
      cases e : r.2 with
      | none => exact ⟨_, rfl, iteT (h H1 s1)⟩
      | some z =>
        refine ⟨_, rfl, iteF ?_⟩
        rw [e] at ht1
        refine ⟨_, rfl, t, _, 1, _, rfl, rfl, .inl ht1, atI_nat (j := 1) rfl, _, _, rfl, .yes z (short (ok2 z e)), fun H2 s2 => ?_⟩
        have q := h H2 (s1.trans s2)
        rw [show okS alphaL (some z) = true from ok2 z e]
        exact q
end
end Sps
set_option Elab.async false
set_option linter.all false
set_option maxRecDepth 100000
set_option maxHeartbeats 4000000
/-! are_copies, check_copies. -/
namespace Sps
open PySem PySem.Spec PyProof.Rows L2
section
variable {P : Program} {w : World} {K : PySem.W.Frag} {mg : Str → Option Value} {base : Heap}
def oksB (os : List (Option Cp)) : Bool := os.all (·.isSome)
def rowsOf (os : List (Option Cp)) : List Cp := os.filterMap id
def areB (os : List (Option Cp)) : Bool := (decide (1 ≤ os.length) && decide (os.length ≤ 6)) && (oksB os && goodB (rowsOf os))
theorem oks_some : ∀ {os : List (Option Cp)}, oksB os = true → os = (rowsOf os).map some
  | [], _ => rfl
  | none :: _, h => by cases h
  | some r :: os, h => by
    have h2 : oksB os = true := h
    show some r :: os = some r :: (rowsOf os).map some
    rw [← oks_some h2]
theorem oks_ix : ∀ os : List (Option Cp), ((List.range os.length).all fun i => (os[i]?.bind id).isSome) = oksB os
  | [] => rfl
  | o :: os => by
    rw [List.length_cons, List.range_succ_eq_map, List.all_cons, List.all_map]
    show ((some o).bind id).isSome.and ((List.range os.length).all fun i => (os[i]?.bind id).isSome) = (o.isSome && oksB os)
    rw [oks_ix os] <;> rfl
/-- what are_copies tells of a value -/
inductive CpV (K : PySem.W.Frag) (H : Hp) : V → Bool → Prop
  | kind {x : V} (h : TupV K H x none) : CpV K H x false
  | tup {a : Addr} {xs : List V} {os : List (Option Cp)} (h : Rd H a (.tup xs)) (p : Paired (ElV K H) xs os) (z : oksB os = true → ascB (rowsOf os) = true → 1 ≤ os.length → os.length ≤ 6 → RowsAt H a (rowsOf os)) : CpV K H (.ref a) (areB os)
theorem TupV.same {K : PySem.W.Frag} {H H' : Hp} {x : V} {o : Option (List V)} (h : TupV K H x o) (s : Same H H') : TupV K H' x o := by
  cases h with
  | yes h => exact .yes (rd_same h s)
  | no ty k => exact .no (tyX_same ty s) k
theorem StrV.same {K : PySem.W.Frag} {H H' : Hp} {x : V} {o : Option Str} (h : StrV K H x o) (s : Same H H') : StrV K H' x o := by
  cases h with
  | yes z l => exact .yes z l
  | no ty k => exact .no (tyX_same ty s) k
theorem ElV.same {K : PySem.W.Frag} {H H' : Hp} {x : V} {o : Option Cp} (h : ElV K H x o) (s : Same H H') : ElV K H' x o := by
  cases h with
  | copy h ok => exact .copy (rd_same h s) ok
  | kind h => exact .kind (h.same s)
  | size h n => exact .size (rd_same h s) n
  | name h q b => exact .name (rd_same h s) (q.same s) b
  | foll h ok nn q b => exact .foll (rd_same h s) ok nn (q.same s) b
theorem ElV.row {K : PySem.W.Frag} {H : Hp} {x : V} {r : Cp} (h : ElV K H x (some r)) : ∃ t, x = .ref t ∧ Rd H t (.tup [.str r.1, optV r.2]) ∧ okRow r := by
  cases h with
  | copy h ok => exact ⟨_, rfl, h, ok⟩
def spAre (K : PySem.W.Frag) : Sp := fun vs H Q _ => ∃ (v : V) (b : Bool), vs = [v] ∧ CpV K H v b ∧ ∀ H', Same H H' → Q (.bl b) H'
abbrev nAre : List Str := ["value", "pair", "one", "other", "followed", "name"]
theorem scAre : FnScope nAre ["value"] (defScope s_are_copies) := ⟨rfl, rfl, rfl, by decide +kernel, rfl, by decide +kernel, by decide +kernel⟩
theorem small_n {n : Nat} (h : n ≤ 6) : n < sizeLine := Nat.lt_of_le_of_lt h (by decide)
theorem cut_tail {α : Type} (xs : List α) (h : 1 ≤ xs.length) : HT.sIx xs.length 0 (some 1) = 1 := by
  unfold HT.sIx
  simp
  omega
def ixB (f : Cp → Bool) : Option Cp → Bool
  | some r => f r
  | none => true
theorem all_ix {rs : List Cp} {f : Cp → Bool} : ((List.range rs.length).all fun i => ixB f rs[i]?) = rs.all f := by
  induction rs with
  | nil => rfl
  | cons r rs ih =>
    rw [List.length_cons, List.range_succ_eq_map, List.all_cons, List.all_cons, List.all_map]
    rw [← ih]
    rfl
theorem ok_are {f gC gL : Addr} {fd fdC fdL : FuncData} (F : Fun K "are_copies" "are_copies" s_are_copies f fd) (T : Names mg)
    (C : FnOk P w K mg base CX0 3 gC fdC ["value"] (spIsCopy K)) (mgC : mg "is_copy" = some (.ref gC)) (kC : PySem.W.keepIn K (.ref gC) = true) (bC : Binds K fdC ["value"] [])
    (L : FnOk P w K mg base CX0 1 gL fdL ["followed", "name"] spLeads) (mgL : mg "_leads_out" = some (.ref gL)) (kL : PySem.W.keepIn K (.ref gL) = true) (bL : Binds K fdL ["followed", "name"] []) : FnOk P w K mg base CX0 4 f fd ["value"] (spAre K) := by
  refine F.ok scAre (fun vs H Q E h => ?_) (fun cdv A outer s H vs Q E hr h => ?_)
  · obtain ⟨_, _, rfl, _⟩ := h
    rfl
  · obtain ⟨v, b, rfl, hv, h⟩ := h
    have hr1 : Room 1 _ := hr.mono (by decide)
    have hu : _ := hr.units
    have hu2 := hu_of hr
    refine ⟨_, pss_cons (ps_if (PW.pt (pw_or (pt_not (pt_val (pe_callB call_isi (by rfl) T.isinstance (by decide +kernel) (pa_cons (pv 0) (pa_cons (pe_bltn (v := .ty "tuple") (by rfl) T.tuple (by decide +kernel) rfl) pa_nil)))))
        (pw_or1 (pt_not (pt_chain op_le op_le pe_int (pe_callB call_len_seq (by rfl) T.len PySem.boot_len (pa_cons (pv 0) pa_nil)) pe_int))))) (pss_one (ps_ret pe_bl)) pss_nil)
      (pss_cons (ps_if (pt_not (pt_val (pe_callB (cr_all rfl) (by rfl) T.all (by decide +kernel) (pa_cons (pe_lc (own := [("pair", 1)]) (g := gName 1) (tt := tYes) rfl scAre.nd (pi_tup (pv 0)) (blkOk_by (own := [("pair", 1)]) (N := nAre) (sc := defScope s_are_copies) (by decide +kernel))
          (fun _ _ _ _ _ => pg_name (i := 1) scAre.nd rfl (Or.inl rfl)) (fun _ _ _ _ _ => pts_nil) (fun _ _ _ _ _ => pe_call C hr rfl mgC kC bC .nil pass0 (pa_cons (pv 1) pa_nil))) pa_nil)))) (pss_one (ps_ret pe_bl)) pss_nil)
      (pss_cons (ps_if (pt_not (pt_val (pe_callB (cr_all rfl) (by rfl) T.all (by decide +kernel) (pa_cons (pe_lc (own := [("one", 2), ("other", 3)]) (g := gTup K 2 (gCons (gName 2) (gCons (gName 3) gNil))) (tt := tYes) rfl scAre.nd (RZ.pi_zipA (by rfl) T.zip (pa_cons (pv 0) (pa_cons (pe_slice sl_tup (pv 0) (po_some pe_int) po_none) pa_nil))) (blkOk_by (own := [("one", 2), ("other", 3)]) (N := nAre) (sc := defScope s_are_copies) (by decide +kernel))
          (fun _ _ _ _ _ => pg_tup rfl (pgs_cons (pg_name (i := 2) scAre.nd rfl (Or.inl rfl)) (pgs_cons (pg_name (i := 3) scAre.nd rfl (Or.inl rfl)) pgs_nil))) (fun _ _ _ _ _ => pts_nil)
          (fun _ _ _ _ _ => pe_cmpR op_lt_str (pe_ix (r := rIxT K) ix_tup (pv 2) pe_int (fun _ _ => rfl)) (pe_ix (r := rIxT K) ix_tup (pv 3) pe_int (fun _ _ => rfl)) (nomark _))) pa_nil)))) (pss_one (ps_ret pe_bl)) pss_nil)
      (pss_cons (ps_set (i := 4) scAre.nd rfl (Or.inr rfl) (pe_callTy (call_dictT rfl) (by rfl) T.dict (by decide +kernel) (pa_cons (pv 0) pa_nil)))
      (pss_cons (ps_if (pt_not (pt_val (pe_callB (cr_all rfl) (by rfl) T.all (by decide +kernel) (pa_cons (pe_lc (own := [("name", 5)]) (g := gName 5) (tt := tYes) rfl scAre.nd (pi_list (pe_listVals rfl (pv 4) (by rfl) T.list)) (blkOk_by (own := [("name", 5)]) (N := nAre) (sc := defScope s_are_copies) (by decide +kernel))
          (fun _ _ _ _ _ => pg_name (i := 5) scAre.nd rfl (Or.inl rfl)) (fun _ _ _ _ _ => pts_nil)
          (fun _ _ _ _ _ => pe_or (pe_cmpR op_isN (pv 5) pe_non (nomark _)) (pe_one (pe_cmp (pc_din hu2 (pv 5) (pv 4)))))) pa_nil)))) (pss_one (ps_ret pe_bl)) pss_nil)
      (pss_one (ps_ret (pe_callB (cr_all rfl) (by rfl) T.all (by decide +kernel) (pa_cons (pe_lock (pe_lc (own := [("name", 5)]) (g := gName 5) (tt := tYes) rfl scAre.nd (pi_keys (pv 4)) (blkOk_by (own := [("name", 5)]) (N := nAre) (sc := defScope s_are_copies) (by decide +kernel))
          (fun _ _ _ _ _ => pg_name (i := 5) scAre.nd rfl (Or.inl rfl)) (fun _ _ _ _ _ => pts_nil)
          (fun _ _ _ _ _ => pe_call L hr1 rfl mgL kL bL .nil pass0 (pa_cons (pv 4) (pa_cons (pv 5) pa_nil))))) pa_nil)))))))), ?_⟩
    cases hv with
    | kind hk =>
      cases hk with
      | no ty k => exact ⟨_, rfl, _, _, _, _, false, rfl, .ty "tuple", ty, k, false, rfl, iteT (h H (Same.refl H))⟩
    | tup hA hP hz0 =>
    rename_i a xs os
    have hl : xs.length = os.length := hP.length
    have at_ : ∀ {H' : Hp}, Same H H' → SqT K H' a xs := fun s => .inl (rd_same hA s)
    refine ⟨_, rfl, _, _, _, _, true, rfl, .ty "tuple", tyRd hA, kit_tt K, true, rfl, iteF ?_⟩
    have qF : ∀ H', Same H H' → areB os = false → Q (.bl false) H' := fun H' s e => by
      have q := h H' s
      rw [e] at q
      exact q
    by_cases h1 : 1 ≤ os.length
    case neg =>
      refine ⟨_, rfl, a, _, rfl, .inr (at_ (Same.refl H)), _, _, rfl, rfl, _, rfl, ite_f (by rw [hl]; omega) ⟨_, rfl, iteT (qF H (Same.refl H) ?_)⟩⟩
      unfold areB
      rw [decide_eq_false h1]
      rfl
    by_cases h6 : os.length ≤ 6
    case neg =>
      refine ⟨_, rfl, a, _, rfl, .inr (at_ (Same.refl H)), _, _, rfl, rfl, _, rfl, ite_t (by rw [hl]; omega) ⟨_, _, rfl, rfl, _, rfl, iteNS_not (by rw [hl]; omega) (qF H (Same.refl H) ?_)⟩⟩
      unfold areB
      rw [decide_eq_false h6, Bool.and_false]
      rfl
    have hz : os.length < sizeLine := small_n h6
    refine ⟨_, rfl, a, _, rfl, .inr (at_ (Same.refl H)), _, _, rfl, rfl, _, rfl, ite_t (by rw [hl]; omega) ⟨_, _, rfl, rfl, _, rfl, iteNS (by rw [hl]; omega) ?_⟩⟩
    -- every pair
    refine ⟨_, rfl, a, rfl, ⟨_, at_ (Same.refl H)⟩, fun D1 hD1 => lc_bools (walk_tup (K := K) (a := a) (xs := xs)) (fun i => (os[i]?.bind id).isSome) (by rw [hl]; exact hz) hD1 (fun H' s => at_ s) (fun i x H1 H2 Nx hi s1 y k => ?_) (fun H1 s1 hL1 => ?_)⟩
    · obtain ⟨rfl, hx⟩ := y
      obtain ⟨o, ho, he⟩ := paired_at hP hx
      refine ⟨rfl, ?_⟩
      refine ⟨_, rfl, x, o, rfl, he.same s1, fun H3 s3 => k _ _ ?_ s3⟩
      rw [ho]
      rfl
    refine ⟨D1, _, rfl, SqL.of hL1, _, rfl, ?_⟩
    have e0 : (((List.range xs.length).map fun i => (os[i]?.bind id).isSome).all id) = oksB os := by
      rw [all_rng, hl]
      exact oks_ix os
    rw [e0]
    cases ho : oksB os with
    | false =>
      refine iteT (qF H1 s1 ?_)
      unfold areB
      rw [ho, Bool.false_and, Bool.and_false]
    | true =>
    refine iteF ?_
    have eos := oks_some ho
    generalize ers : rowsOf os = rs at eos
    have len_ : xs.length = rs.length := by rw [hl, eos, List.length_map]
    have lrs : os.length = rs.length := by rw [eos, List.length_map]
    have eB : areB os = goodB rs := by
      unfold areB
      rw [ho, ers, decide_eq_true h1, decide_eq_true h6]
      rfl
    rw [eB] at h
    rw [lrs] at h1 h6 hz
    rw [ho, ers, lrs] at hz0
    have row : ∀ {i : Nat} {x : V}, xs[i]? = some x → ∃ (t : Addr) (r : Cp), x = .ref t ∧ rs[i]? = some r ∧ r ∈ rs ∧ Rd H t (.tup [.str r.1, optV r.2]) ∧ okRow r := fun {i x} e => by
      obtain ⟨o, hr2, ht⟩ := paired_at hP e
      rw [eos, List.getElem?_map] at hr2
      cases q : rs[i]? with
      | none => rw [q] at hr2; cases hr2
      | some r =>
        rw [q] at hr2
        have e2 : o = some r := (Option.some.inj hr2).symm
        subst e2
        obtain ⟨t, e3, e4, e5⟩ := ht.row
        exact ⟨t, r, e3, rfl, List.mem_of_getElem? q, e4, e5⟩
    -- ascending
    have nw : ¬ (HT.sIx xs.length 0 (some 1) = 0 ∧ HT.sIx xs.length xs.length none = xs.length) := fun z => by
      rw [cut_tail _ (by rw [len_]; exact h1)] at z
      exact absurd z.1 (by decide)
    have cutE : cutV xs (some 1) none = xs.drop 1 := by
      unfold cutV
      rw [cut_tail _ (by rw [len_]; exact h1), HT.sIx_none, List.take_of_length_le]
      rw [List.length_drop]
      exact Nat.le_refl _
    refine ⟨_, rfl, _, rfl, 1, rfl, a, _, rfl, at_ s1, nw, fun p hp => ?_⟩
    rw [cutE]
    have s2 : Same H (L2.upd H1 p (.tup (xs.drop 1))) := Same.upd' s1 hp
    have pA : ∀ {H' : Hp}, Same (L2.upd H1 p (.tup (xs.drop 1))) H' → SqT K H' p (xs.drop 1) := fun s => tupAt (s _ _ upd_same)
    refine ⟨a, p, _, _, rfl, .inr ⟨at_ s2, pA (Same.refl _), fun D2 hD2 => lc_bools (walk_zipT (K := K) (a := a) (b := p) (n := rs.length - 1) (by rw [List.length_drop, len_]; omega)) (fun i => ltS (nm rs i) (nm rs (i + 1))) (by omega) hD2 (fun H' s => ⟨at_ (s2.trans s), pA s⟩) (fun i x H3 H4 Nx hi s3 y k => ?_) (fun H3 s3 hL3 => ?_)⟩⟩
    · obtain ⟨T0, x1, x2, rfl, hT0, rfl, hx1, hx2⟩ := y
      have hx2 : (xs.drop 1)[i]? = some x2 := hx2
      rw [List.getElem?_drop] at hx2
      obtain ⟨t1, r1, rfl, hr1', m1, ht1, _⟩ := row hx1
      obtain ⟨t2, r2, rfl, hr2', m2, ht2, _⟩ := row hx2
      have sT := Same.upd' (s2.trans s3) hT0 (o := .tup [V.ref t1, V.ref t2])
      refine ⟨T0, _, rfl, tupAt upd_same, rfl, _, _, rfl, _, _, rfl, rfl, rfl, ?_⟩
      refine ⟨_, rfl, t1, _, 0, _, rfl, rfl, .inl (rd_same ht1 sT), atI_nat (j := 0) rfl, _, rfl, t2, _, 0, _, rfl, rfl, .inl (rd_same ht2 sT), atI_nat (j := 0) rfl, _, _, rfl, rfl, k _ _ ?_ (Same.upd hT0)⟩
      rw [nm_at hr1', nm_at (i := i + 1) (by rw [Nat.add_comm]; exact hr2')]
      rfl
    refine ⟨D2, _, rfl, SqL.of hL3, _, rfl, ?_⟩
    rw [all_rng]
    have s13 := s2.trans s3
    cases ha : ascB rs with
    | false =>
      rw [show ((List.range (rs.length - 1)).all fun i => ltS (nm rs i) (nm rs (i + 1))) = false from ha]
      refine iteT ?_
      have q := h H3 s13
      unfold goodB at q
      rw [ha, Bool.false_and] at q
      exact q
    | true =>
      rw [show ((List.range (rs.length - 1)).all fun i => ltS (nm rs i) (nm rs (i + 1))) = true from ha]
      refine iteF ?_
      have nd := pair_nodup (asc_pair ha)
      obtain ⟨o, ts, hF, hdn, hPr⟩ := hz0 rfl ha h1 h6
      have pr : Paired (fun p kv => SqT K H3 p [kV kv.1, kv.2]) ts (rs.map cpEnt) := by
        have aux : ∀ {ts : List Addr} {rs : List Cp}, Paired (fun (t : Addr) (r : Cp) => H t = some (.tup [.str r.1, optV r.2])) ts rs → Paired (fun p kv => SqT K H3 p [kV kv.1, kv.2]) ts (rs.map cpEnt) := fun {ts rs} hp => by
          induction hp with
          | nil => exact .nil
          | cons h t ih => exact .cons (tupAt (s13 _ _ h)) ih
        exact aux hPr
      refine ⟨_, rfl, a, o, ts, rs.map cpEnt, rfl, s13 _ _ hF, hdn, pr, fun d hd => ?_⟩
      rw [merge_rows nd]
      have s4 : Same H (L2.upd H3 d (.dK (rs.map cpEnt))) := Same.upd' s13 hd
      have hd0 : H d = none := by
        cases q : H d with
        | none => rfl
        | some u => rw [s13 _ _ q] at hd; cases hd
      -- what is followed is there
      refine ⟨_, rfl, d, rs.map cpEnt, rfl, upd_same, fun q hq => ⟨q, rfl, ⟨_, SqL.of upd_same⟩, fun D3 hD3 => lc_bools (walk_list (K := K) (a := q) (xs := (rs.map cpEnt).map (·.2))) (fun i => ixB (follB rs) rs[i]?) (by rw [List.length_map, List.length_map]; exact hz) hD3 (fun H' s => SqL.of (s _ _ upd_same)) (fun i x H5 H6 Nx hi s5 y k => ?_) (fun H5 s5 hL5 => ?_)⟩⟩
      · obtain ⟨rfl, hx⟩ := y
        rw [List.getElem?_map, List.getElem?_map] at hx
        cases hr : rs[i]? with
        | none => rw [hr] at hx; cases hx
        | some r =>
          rw [hr] at hx
          have ex : x = optV r.2 := (Option.some.inj hx).symm
          subst ex
          have hdd : H6 d = some (.dK (rs.map cpEnt)) := s5 _ _ (Same.upd hq _ _ upd_same)
          refine ⟨rfl, ?_⟩
          rw [hr] at k
          refine ⟨_, rfl, rfl, ?_⟩
          cases e : r.2 with
          | none =>
            refine ⟨_, rfl, iteT (k _ _ ?_ (Same.refl _))⟩
            show _ = V.bl (follB rs r)
            unfold follB
            rw [e]
            try rfl
          | some z =>
            refine ⟨_, rfl, iteF ?_⟩
            refine ⟨_, rfl, _, rfl, d, _, rfl, DGet.k (k := Sum.inr z) hdd, k _ _ ?_ (Same.refl _)⟩
            show _ = V.bl (follB rs r)
            unfold follB
            rw [e, valV_look, Option.isSome_map]
      refine ⟨D3, _, rfl, SqL.of hL5, _, rfl, ?_⟩
      rw [all_rng, show ((rs.map cpEnt).map (·.2)).length = rs.length by rw [List.length_map, List.length_map], all_ix]
      have s5' := s4.trans ((Same.upd hq).trans s5)
      cases hc : closedB rs with
      | false =>
        rw [show rs.all (follB rs) = false from hc]
        refine iteT ?_
        have q := h H5 s5'
        unfold goodB at q
        rw [hc, Bool.false_and, Bool.and_false] at q
        exact q
      | true =>
        rw [show rs.all (follB rs) = true from hc]
        refine iteF ?_
        have hdd : H5 d = some (.dK (rs.map cpEnt)) := s5 _ _ (Same.upd hq _ _ upd_same)
        refine ⟨d, _, hdd, trivial, fun od => ⟨_, rfl, d, od, rfl, .inl ⟨_, upd_same, fun D4 hD4 => lc_bools (walk_keys (d := d) (o := od) (kvs := rs.map cpEnt)) (fun i => ixB (fun r => lead rs rs.length r.1) rs[i]?) (by rw [List.length_map]; exact hz) hD4 (fun H' s => s _ _ upd_same) (fun i x H7 H8 Nx hi s7 y k => ?_) (fun H7 s7 hL7 => ?_)⟩⟩⟩
        · obtain ⟨rfl, ky, vy, hx, rfl⟩ := y
          rw [List.getElem?_map] at hx
          cases hr : rs[i]? with
          | none => rw [hr] at hx; cases hx
          | some r =>
            rw [hr] at hx k
            have ex : cpEnt r = (ky, vy) := Option.some.inj hx
            cases ex
            refine ⟨rfl, ?_⟩
            exact ⟨_, rfl, _, rfl, d, r.1, rs, rfl, .inr ⟨od, s7 _ _ upd_same⟩, by omega, closed_of hc, look_mem (List.mem_of_getElem? hr), k _ _ rfl (Same.refl _)⟩
        · have h7d : H7 d = some (.frz od (.dK (rs.map cpEnt))) := s7 _ _ upd_same
          have nD : D4 ≠ d := fun z => by
            rw [z, upd_same] at hD4
            cases hD4
          refine ⟨h7d, D4, _, rfl, SqL.of (by rw [upd_ne nD]; exact hL7), ?_⟩
          rw [all_rng, List.length_map, all_ix]
          have sE : Same H (L2.upd H7 d (.dK (rs.map cpEnt))) := fun b u e => by
            have nb : b ≠ d := ne_of_none e hd0
            rw [upd_ne nb]
            exact s7 _ _ (by rw [upd_ne nb]; exact s5' _ _ e)
          have q := h _ sE
          unfold goodB at q
          rw [ha, hc, Bool.true_and, Bool.true_and] at q
          exact q
end
/-- all are copies: each row is one -/
theorem rows_ok {K : PySem.W.Frag} {H : Hp} {xs : List V} {os : List (Option Cp)} (p : Paired (ElV K H) xs os) : ∀ r ∈ rowsOf os, okRow r := by
  induction p with
  | nil => exact fun _ m => nomatch m
  | @cons x o xs os hh tt ih =>
    intro r m
    cases o with
    | none => exact ih r m
    | some q =>
      rcases List.mem_cons.mp (show r ∈ q :: rowsOf os from m) with z | z
      · obtain ⟨_, _, _, k⟩ := hh.row
        rw [z]
        exact k
      · exact ih r z
end Sps
set_option Elab.async false
set_option linter.all false
set_option maxRecDepth 100000
set_option maxHeartbeats 4000000
/-! records: above_of, Site. -/
namespace Sps
open PySem PySem.Spec PyProof.Rows L2
/-- the copies that n is under, at most k steps up -/
def chain (rs : List Cp) : Nat → Str → List Str
  | 0, n => [n]
  | k + 1, n => n :: match look rs n with
    | some (some m) => chain rs k m
    | _ => []
def aboveL (rs : List Cp) (n : Str) : List Str := chain rs rs.length n
def abEnt (p : Cp × Addr) : Key × V := (Sum.inr p.1.1, .ref p.2)
/-- the table of what each copy is under -/
def AboveAt (H : Hp) (d : Addr) (rs : List Cp) : Prop := ∃ us : List Addr, us.length = rs.length ∧ H d = some (.dK ((rs.zip us).map abEnt)) ∧ Paired (fun (u : Addr) (r : Cp) => H u = some (.tup ((aboveL rs r.1).map V.str))) us rs
theorem AboveAt.same {H H' : Hp} {d : Addr} {rs : List Cp} (h : AboveAt H d rs) (s : Same H H') : AboveAt H' d rs := let ⟨us, h1, h2, h3⟩ := h; ⟨us, h1, s _ _ h2, paired_imp (fun _ _ e => s _ _ e) h3⟩
theorem chain_len (rs : List Cp) : ∀ (k : Nat) (n : Str), (chain rs k n).length ≤ k + 1
  | 0, _ => Nat.le_refl _
  | k + 1, n => by
    unfold chain
    rw [List.length_cons]
    cases look rs n with
    | none => simp
    | some o =>
      cases o with
      | none => simp
      | some m => have := chain_len rs k m; simpa using this
section
variable {P : Program} {w : World} {K : PySem.W.Frag} {mg : Str → Option Value} {base : Heap}
def spAbove : Sp := fun vs H Q _ => ∃ (a : Addr) (rs : List Cp), vs = [.ref a] ∧ RowsAt H a rs ∧ rs.length ≤ 6 ∧ goodB rs = true ∧ ∀ (H' : Hp) (d : Addr), Same H H' → H d = none → AboveAt H' d rs → Q (.ref d) H'
abbrev nAb : List Str := ["copies", "followed", "found", "name", "_", "above"]
theorem scAb : FnScope nAb ["copies"] (defScope s_above_of) := ⟨rfl, rfl, rfl, by decide +kernel, rfl, by decide +kernel, by decide +kernel⟩
theorem ok_above {f : Addr} {fd : FuncData} (F : Fun K "above_of" "above_of" s_above_of f fd) (T : Names mg) : FnOk P w K mg base CX0 1 f fd ["copies"] spAbove := by
  refine F.ok scAb (fun vs H Q E h => ?_) (fun cdv A outer s H vs Q E hr h => ?_)
  · obtain ⟨_, _, rfl, _⟩ := h
    rfl
  · obtain ⟨a, rs, rfl, hR, h6, hg, h⟩ := h
    have hu := hu_of hr
    refine ⟨_, pss_cons (ps_set (i := 1) scAb.nd rfl (Or.inl rfl) (pe_callTy (call_dictT rfl) (by rfl) T.dict (by decide +kernel) (pa_cons (pv 0) pa_nil)))
      (pss_cons (ps_set (i := 2) scAb.nd rfl (Or.inl rfl) pe_dnewK)
      (pss_cons (ps_for PassesOwn.never rfl (pi_tup (pv 0)) (pg_tup rfl (pgs_cons (pg_name (i := 3) scAb.nd rfl (Or.inl rfl)) (pgs_cons (pg_name (i := 4) scAb.nd rfl (Or.inl rfl)) pgs_nil)))
        (pss_cons (ps_set (i := 5) scAb.nd rfl (Or.inl rfl) (pe_lst (pa_cons (pv 3) pa_nil)))
        (pss_cons (ps_while PassesOwn.never (pt_cmpR op_notN (pe_dget hu (pv 1) (pe_ix ix_list (pv 5) (pe_un un_neg pe_int) (fun _ _ => rfl)) (fun _ _ => rfl)) pe_non (nomark _))
          (pss_one (ps_expr (pe_bm PySem.F.plainAttrs_list PySem.F.slot_list_append PySem.F.type_list_append mt_append (pv 5) (pa_cons (pe_dget hu (pv 1) (pe_ix ix_list (pv 5) (pe_un un_neg pe_int) (fun _ _ => rfl)) (fun _ _ => rfl)) pa_nil)))))
        (pss_one (ps_dput hu (pv 2) (pv 3) (pe_callTy call_tuple_of (by rfl) T.tuple (by decide +kernel) (pa_cons (pv 5) pa_nil)) rfl)))))
      (pss_one (ps_ret (pv 2))))), ?_⟩
    obtain ⟨o, ts, hA, hdn, hP⟩ := id hR
    have hl : ts.length = rs.length := hP.length
    obtain ⟨ha, hcl⟩ := Bool.and_eq_true_iff.mp hg
    obtain ⟨hc, hld⟩ := Bool.and_eq_true_iff.mp hcl
    have nd := pair_nodup (asc_pair ha)
    have hcl' := closed_of hc
    have pr : Paired (fun p kv => SqT K H p [kV kv.1, kv.2]) ts (rs.map cpEnt) := by
      have aux : ∀ {ts : List Addr} {rs : List Cp}, Paired (fun (t : Addr) (r : Cp) => H t = some (.tup [.str r.1, optV r.2])) ts rs → Paired (fun p kv => SqT K H p [kV kv.1, kv.2]) ts (rs.map cpEnt) := fun {ts rs} hp => by
        induction hp with
        | nil => exact .nil
        | cons h t ih => exact .cons (tupAt h) ih
      exact aux hP
    refine ⟨_, rfl, a, o, ts, rs.map cpEnt, rfl, hA, hdn, pr, fun d1 hd1 => ?_⟩
    rw [merge_rows nd]
    have s1 : Same H (L2.upd H d1 (.dK (rs.map cpEnt))) := Same.upd hd1
    intro d2 hd2
    have nd12 : d1 ≠ d2 := ne_of_none (show (L2.upd H d1 (.dK (rs.map cpEnt))) d1 = _ from upd_same) hd2
    have hd2H : H d2 = none := s1.free hd2
    have s2 : Same H (L2.upd (L2.upd H d1 (.dK (rs.map cpEnt))) d2 (.dK [])) := Same.upd' s1 hd2
    refine ⟨_, rfl, a, rfl, ⟨_, .inl (.inr ⟨o, s2 _ _ hA⟩)⟩, for_it (walk_tup (K := K) (a := a) (xs := ts.map V.ref)) (fun i σ H' => ∃ (us : List Addr) (y3 y4 y5 : Option V), σ = [some (.ref a), some (.ref d1), some (.ref d2), y3, y4, y5] ∧ Same H H' ∧ H' d1 = some (.dK (rs.map cpEnt)) ∧ us.length = i ∧
        H' d2 = some (.dK (((rs.take i).zip us).map abEnt)) ∧ Paired (fun (u : Addr) (r : Cp) => H' u = some (.tup ((aboveL rs r.1).map V.str))) us (rs.take i)) ⟨[], none, none, none, rfl, s2, by rw [upd_ne nd12]; exact upd_same, rfl, upd_same, .nil⟩ (fun i σ H' _ ⟨_, _, _, _, _, s, _⟩ => .inl (.inr ⟨o, s _ _ hA⟩)) ?_ ?_⟩
    · rintro i x σ H0 H0' hi ⟨us, y3, y4, y5, rfl, s0, h1, hul, h2, hU⟩ y
      obtain ⟨rfl, hx⟩ := y
      rw [List.getElem?_map] at hx
      obtain ⟨t, ht, e⟩ : ∃ t, ts[i]? = some t ∧ V.ref t = x := by
        cases q : ts[i]? with
        | none => rw [q] at hx; cases hx
        | some t => rw [q] at hx; exact ⟨t, rfl, Option.some.inj hx⟩
      subst e
      obtain ⟨r, hr, hTt⟩ := paired_at hP ht
      have mr : r ∈ rs := List.mem_of_getElem? hr
      have hlead : lead rs rs.length r.1 = true := List.all_eq_true.mp hld r mr
      refine ⟨t, _, rfl, tupAt (s0 _ _ hTt), rfl, _, _, rfl, _, _, rfl, rfl, ?_⟩
      refine ⟨_, rfl, (by show 1 ≤ sizeLine; decide), fun p hp => ?_⟩
      have np1 : d1 ≠ p := ne_of_none h1 hp
      have np2 : d2 ≠ p := ne_of_none h2 hp
      -- up along the copies that are followed
      refine ⟨fun m σ' H' => ∃ (xs : List Str) (n : Str), σ' = [some (.ref a), some (.ref d1), some (.ref d2), some (.str r.1), some (optV r.2), some (.ref p)] ∧ SameX p H0' H' ∧ H' p = some (.lst ((xs ++ [n]).map V.str)) ∧ xs ++ chain rs m n = aboveL rs r.1 ∧ lead rs m n = true ∧ (look rs n).isSome = true,
        ⟨rs.length, [], r.1, rfl, fun b u nb e => by rw [upd_ne nb]; exact e, upd_same, rfl, hlead, look_mem mr⟩, ?_⟩
      rintro m σ' H' ⟨xs, n, rfl, sx, hL, hch, hln, hlk⟩
      have h1' : H' d1 = some (.dK (rs.map cpEnt)) := sx _ _ np1 h1
      obtain ⟨o2, ho2⟩ := Option.isSome_iff_exists.mp hlk
      have hv : valV (rs.map cpEnt) (Sum.inr n) = some (optV o2) := by rw [valV_look, ho2]; rfl
      have hget : DGet H' d1 (.str n) (some (optV o2)) := by have g := DGet.k (k := Sum.inr n) h1'; rw [hv] at g; exact g
      have hlast : atI ((xs ++ [n]).map V.str) (-1) = some (V.str n) := by rw [List.map_append]; exact atI_last _ _
      have hxl : (xs ++ [n]).length ≤ rs.length + 1 := by
        have e := congrArg List.length hch
        rw [List.length_append] at e
        have c1 := chain_len rs rs.length r.1
        have c2 : 1 ≤ (chain rs m n).length := by cases m <;> simp [chain]
        unfold aboveL at e
        rw [List.length_append]
        simp
        omega
      obtain ⟨k, rfl⟩ : ∃ k, m = k + 1 := by
        cases m with
        | zero => cases hln
        | succ k => exact ⟨k, rfl⟩
      refine ⟨_, rfl, _, rfl, 1, rfl, p, _, -1, _, rfl, rfl, SqL.of hL, hlast, d1, _, rfl, hget, rfl, _, rfl, ?_⟩
      cases o2 with
      | some n2 =>
        refine iteNS_not (by intro z; cases z) ?_
        have ech : chain rs (k + 1) n = n :: chain rs k n2 := by rw [chain, ho2]
        have eld : lead rs (k + 1) n = lead rs k n2 := by rw [lead, ho2]
        refine ⟨fun σ'' H'' => ∃ (xs' : List Str) (n' : Str), σ'' = [some (.ref a), some (.ref d1), some (.ref d2), some (.str r.1), some (optV r.2), some (.ref p)] ∧ SameX p H0' H'' ∧ H'' p = some (.lst ((xs' ++ [n']).map V.str)) ∧ xs' ++ chain rs k n' = aboveL rs r.1 ∧ lead rs k n' = true ∧ (look rs n').isSome = true,
          fun σ'' H'' q => ⟨k, Nat.lt_succ_self _, q⟩, ?_⟩
        refine ⟨_, rfl, .inl ⟨rfl, _, SqL.of hL⟩, _, rfl, _, rfl, 1, rfl, p, _, -1, _, rfl, rfl, SqL.of hL, hlast, d1, _, rfl, hget, p, _, _, rfl, rfl, hL, ?_, ?_⟩
        · rw [List.length_map]
          exact Nat.lt_of_le_of_lt (Nat.le_trans hxl (by omega : rs.length + 1 ≤ 7)) (by decide)
        · refine ⟨xs ++ [n], n2, rfl, sx.trans SameX.upd, ?_, ?_, ?_, hcl' n n2 ho2⟩
          · rw [upd_same, List.map_append (l₁ := xs ++ [n])]
            rfl
          · rw [← hch, ech, List.append_assoc]
            rfl
          · rw [← eld]
            exact hln
      | none =>
        refine iteNS rfl ?_
        have ech : chain rs (k + 1) n = [n] := by rw [chain, ho2]
        rw [ech] at hch
        rw [hch] at hL
        have h2' : H' d2 = some (.dK (((rs.take i).zip us).map abEnt)) := sx _ _ np2 h2
        refine ⟨_, rfl, p, _, rfl, .inl ⟨SqL.of hL, fun t2 ht2 => ?_⟩⟩
        have n2t : d2 ≠ t2 := ne_of_none h2' ht2
        have n1t : d1 ≠ t2 := ne_of_none h1' ht2
        have hdd : (L2.upd H' t2 (.tup ((aboveL rs r.1).map V.str))) d2 = some (.dK (((rs.take i).zip us).map abEnt)) := by rw [upd_ne n2t]; exact h2'
        have hil : i < rs.length := (List.getElem?_eq_some_iff.mp hr).1
        have tk : rs.take (i + 1) = rs.take i ++ [r] := by rw [List.take_succ, hr]; rfl
        have zl : ((rs.take i).zip us).length ≤ 6 := by rw [List.length_zip, List.length_take]; omega
        have sP : ∀ b u, b ≠ p → H0' b = some u → L2.upd (L2.upd H' t2 (.tup ((aboveL rs r.1).map V.str))) d2 (.dK (putK (((rs.take i).zip us).map abEnt) (Sum.inr r.1) (.ref t2))) b = some u ∨ b = d2 := fun b u nb e => by
          by_cases q : b = d2
          · exact .inr q
          · left
            rw [upd_ne q, upd_ne (ne_of_none (sx b u nb e) ht2)]
            exact sx b u nb e
        refine ⟨_, rfl, _, rfl, d2, _, rfl, DPut.k (k := Sum.inr r.1) hdd (by rw [List.length_map]; exact Nat.lt_of_le_of_lt zl (by decide)), ?_⟩
        have hnew : valV (((rs.take i).zip us).map abEnt) (Sum.inr r.1) = none := by
          have nm1 : r.1 ∉ (rs.take i).map (·.1) := fun m => by
            have e2 : rs = rs.take i ++ r :: rs.drop (i + 1) := by
              have e3 := (List.take_append_drop (i + 1) rs).symm
              rw [tk, List.append_assoc] at e3
              exact e3
            rw [e2, List.map_append, List.nodup_append] at nd
            exact nd.2.2 _ m r.1 (by simp) rfl
          have aux : ∀ (l : List Cp) (us : List Addr), r.1 ∉ l.map (·.1) → valV ((l.zip us).map abEnt) (Sum.inr r.1) = none := fun l => by
            induction l with
            | nil => intro us _; rfl
            | cons x l ih =>
              intro us hn
              cases us with
              | nil => rfl
              | cons u us =>
                rw [List.zip_cons_cons, List.map_cons, valV_neg (show ¬ (abEnt (x, u)).1 = Sum.inr r.1 from fun z => hn (by rw [List.map_cons]; exact List.mem_cons.mpr (.inl (Sum.inr.inj z).symm)))]
                exact ih us fun m => hn (List.mem_cons_of_mem _ m)
          exact aux _ _ nm1
        refine ⟨us ++ [t2], _, _, _, rfl, fun b u e => ?_, ?_, ?_, ?_, ?_⟩
        · have nbp : b ≠ p := ne_of_none (s0 b u e) hp
          rcases sP b u nbp (s0 b u e) with q | q
          · exact q
          · rw [q, hd2H] at e
            cases e
        · rw [upd_ne nd12, upd_ne n1t]
          exact h1'
        · rw [List.length_append, hul]
          rfl
        · rw [upd_same, putK_new _ hnew, tk, List.zip_append (by rw [List.length_take, hul]; omega), List.map_append]
          rfl
        · rw [tk]
          have old : Paired (fun (u : Addr) (r' : Cp) => L2.upd (L2.upd H' t2 (.tup ((aboveL rs r.1).map V.str))) d2 (.dK (putK (((rs.take i).zip us).map abEnt) (Sum.inr r.1) (.ref t2))) u = some (.tup ((aboveL rs r'.1).map V.str))) us (rs.take i) := paired_imp (fun u r' e => by
            have nu : u ≠ p := ne_of_none e hp
            rcases sP u _ nu e with q | q
            · exact q
            · rw [q, h2] at e
              cases e) hU
          exact Paired.snoc old (by rw [upd_ne (fun z => n2t z.symm), upd_same])
    · rintro σ H' ⟨us, y3, y4, y5, rfl, s0, h1, hul, h2, hU⟩
      have el : (ts.map V.ref).length = rs.length := by rw [List.length_map, hl]
      rw [el, List.take_of_length_le (Nat.le_refl _)] at h2 hU
      rw [el] at hul
      exact ⟨_, rfl, h H' d2 s0 hd2H ⟨us, hul, h2, hU⟩⟩
end
end Sps
set_option Elab.async false
set_option linter.all false
set_option maxRecDepth 100000
set_option maxHeartbeats 4000000
/-! enumerate of what is empty: a tuple, a zip of two lists; loops that make no turn. -/
namespace Sps
open PySem PySem.Spec PyProof.Rows L2
open PySem.AutoSeq1 (wpAny_loadPart')
/-- an iterator that has nothing -/
def ItN (S : Hp → Prop) : It := ⟨fun _ _ => False, fun _ _ _ _ => False, fun _ H => S H⟩
theorem meets_enumT (l : Addr) (items : Array Value) (n : Nat) (dct : Option Addr) (sl : Array (Option Value)) :
    Meets (Builtin.«enumerate.__new__» ⟨[.type "enumerate", .ref l], []⟩) (fun _ R s => s.heap.get? l = some { cls := .type "tuple", dict := dct, data := .seq items n, slots := sl } ∧
      R (.ok (.ret (.ref (s.heap.push { cls := .type "tuple_iterator", data := .fields #[.ref l, .int 0 0] }).objs.size)))
        { s with heap := (s.heap.push { cls := .type "tuple_iterator", data := .fields #[.ref l, .int 0 0] }).push { cls := .type "enumerate", data := .fields #[.none, .bool false, .ref s.heap.objs.size, rawInt 0, .none, .none] } }) :=
  .of_wp fun prog w A R s h => by
    obtain ⟨hp, g, d, tk, os⟩ := s; obtain ⟨hl, h⟩ := h
    have hsub := sub_enumerate
    have hL : Heap.IsTuple (Shared.heap ⟨hp, g, d, tk, os⟩) l items := ⟨_, hl, rfl, n, rfl⟩
    wp_walk using wpAny_loadPart' hl
    refine wpAny_stack_any fun st => wpAny_pure ?_
    split
    · rename_i c _ _ _ _ _
      cases (c == Value.type "enumerate")
      · wp_walk using wpAny_loadPart' hl, wpAny_pyIter_tuple hL
        exact ⟨_, rfl, h⟩
      · wp_walk using wpAny_loadPart' hl, wpAny_pyIter_tuple hL
        exact ⟨_, rfl, h⟩
    · wp_walk using wpAny_loadPart' hl, wpAny_pyIter_tuple hL
      exact ⟨_, rfl, h⟩
theorem meets_enumZ (z TI TO : Addr) :
    Meets (Builtin.«enumerate.__new__» ⟨[.type "enumerate", .ref z], []⟩) (fun _ R s => IsZip s.heap z TI TO .none ∧
      R (.ok (.ret (.ref s.heap.objs.size)))
        { s with heap := s.heap.push { cls := .type "enumerate", data := .fields #[.none, .bool false, .ref z, rawInt 0, .none, .none] } }) :=
  .of_wp fun prog w A R s h => by
    obtain ⟨hp, g, d, tk, os⟩ := s; obtain ⟨hl, h⟩ := h
    have hsub := sub_enumerate
    wp_walk using wpAny_loadPart' hl
    refine wpAny_stack_any fun st => wpAny_pure ?_
    split
    · rename_i c _ _ _ _ _
      cases (c == Value.type "enumerate")
      · wp_walk using wpAny_loadPart' hl, wpAny_pyIter_zip hl
        exact ⟨_, rfl, h⟩
      · wp_walk using wpAny_loadPart' hl, wpAny_pyIter_zip hl
        exact ⟨_, rfl, h⟩
    · wp_walk using wpAny_loadPart' hl, wpAny_pyIter_zip hl
      exact ⟨_, rfl, h⟩
section
variable {prog : Program} {w : World} {A : Around} {E : Value → Shared → Prop} {s : Shared}
theorem call_enumT {l : Addr} {items : Array Value} {Q : Value → Shared → Prop} (hL : s.heap.IsTuple l items)
    (h : ∀ h', IsEnum h' (s.heap.objs.size + 1) s.heap.objs.size 0 .none → h'.IsTupleIter s.heap.objs.size l 0 → h'.objs.size = s.heap.objs.size + 2 →
      (∀ b o, s.heap.get? b = some o → h'.get? b = some o) → Q (.ref (s.heap.objs.size + 1)) { s with heap := h' }) :
    wpAny (model prog w) A (call (.type "enumerate") [.ref l]) Q E s := by
  obtain ⟨⟨c, dct, dat, sl⟩, hl, hc, n, hd⟩ := hL
  cases hc
  cases hd
  refine callType_new F.called_enumerate (by decide) (F.typeCall_enumerate_1 _) (F.newCall_enumerate_1 _) (fun obj => F.args_object_init_2 obj _) F.entry_enumerate_new
    (meets_enumT l items n dct sl) ⟨hl, ?_⟩
  have hz : (s.heap.push { cls := .type "tuple_iterator", data := .fields #[.ref l, .int 0 0] }).objs.size = s.heap.objs.size + 1 := Heap.size_push ..
  show _ ∧ _
  rw [hz]
  have he : IsEnum ((s.heap.push { cls := .type "tuple_iterator", data := .fields #[.ref l, .int 0 0] }).push
      { cls := .type "enumerate", data := .fields #[.none, .bool false, .ref s.heap.objs.size, rawInt 0, .none, .none] }) (s.heap.objs.size + 1) s.heap.objs.size 0 .none := by
    have := Heap.get?_push_size (s.heap.push { cls := .type "tuple_iterator", data := .fields #[.ref l, .int 0 0] })
      (o := { cls := .type "enumerate", data := .fields #[.none, .bool false, .ref s.heap.objs.size, rawInt 0, .none, .none] }) rfl
    rw [hz] at this; exact this
  refine ⟨⟨_, he, rfl⟩, h _ he ⟨_, Heap.get?_push_of_some _ (Heap.get?_push_size _ rfl), rfl, rfl⟩ (by rw [Heap.size_push, hz]) fun b o x => Heap.get?_push_of_some _ (Heap.get?_push_of_some _ x)⟩
theorem call_enumZ {z TI TO : Addr} {Q : Value → Shared → Prop} (hz : IsZip s.heap z TI TO .none)
    (h : ∀ h', IsEnum h' s.heap.objs.size z 0 .none → h'.objs.size = s.heap.objs.size + 1 →
      (∀ b o, s.heap.get? b = some o → h'.get? b = some o) → Q (.ref s.heap.objs.size) { s with heap := h' }) :
    wpAny (model prog w) A (call (.type "enumerate") [.ref z]) Q E s := by
  refine callType_new F.called_enumerate (by decide) (F.typeCall_enumerate_1 _) (F.newCall_enumerate_1 _) (fun obj => F.args_object_init_2 obj _) F.entry_enumerate_new
    (meets_enumZ z TI TO) ⟨hz, ?_⟩
  have he : IsEnum (s.heap.push { cls := .type "enumerate", data := .fields #[.none, .bool false, .ref z, rawInt 0, .none, .none] }) s.heap.objs.size z 0 .none := Heap.get?_push_size _ rfl
  exact ⟨⟨_, he, rfl⟩, h _ he (Heap.size_push ..) fun b o x => Heap.get?_push_of_some _ x⟩
theorem nextOf_zip_end {z TI TO i1 i2 : Addr} {fp1 fp2 : List Addr} {n1 n2 i : Nat} {P1 P2 : Nat → Value → Prop} {St1 St2 : Nat → Heap → Prop} {a1 a2 : Value} {Q : Value → Shared → Prop} (S : PySem.ZipSep2 z TI TO i1 i2 fp1 fp2) (D1 : Draws prog w A.in1 i1 fp1 n1 P1 St1) (D2 : Draws prog w A.in1 i2 fp2 n2 P2 St2)
    (hz : IsZip s.heap z TI TO .none) (hTI : PySem.IsTupOf2 s.heap TI (.ref i1) (.ref i2)) (hTO : PySem.IsTupOf2 s.heap TO a1 a2) (st1 : St1 i s.heap) (st2 : St2 i s.heap) (hle1 : i ≤ n1) (hle2 : i ≤ n2) (hend : i = n1 ∨ i = n2)
    (hE : ∀ h' tk e, (∀ c o, c ≠ z → c ≠ TO → c ≠ i1 → c ≠ i2 → s.heap.get? c = some o → h'.get? c = some o) → (∃ o, h'.get? e = some o ∧ o.cls = .type "StopIteration") → E (.ref e) { s with heap := h', toks := tk }) :
    wpAny (model prog w) A (Builtin.SmallTypes.nextOf (.ref z)) Q E s := by
  have hT : s.TypeIs (.ref z) "zip" := ⟨_, hz, rfl⟩
  unfold Builtin.SmallTypes.nextOf
  exact wpAny_bind (wpAny_callSpecial?_slot (name := Str.ofString "__next__") hT F.slot_zip_next
    (wpAny_call_entry F.slot_zip_next hT F.entry_zip_next (PySem.zipD2_next_end S D1 D2 hz hTI hTO st1 st2 hle1 hle2 hend hE) (F.args_zip_next_1 _)))
theorem enumZ_end {e z TI TO i1 i2 : Addr} {fp1 fp2 : List Addr} {n1 n2 i : Nat} {c : Int} {P1 P2 : Nat → Value → Prop} {St1 St2 : Nat → Heap → Prop} {a1 a2 old : Value} {Q : Option Value → Shared → Prop} (S : PySem.ZipSep2 z TI TO i1 i2 fp1 fp2) (D1 : Draws prog w A.in1.in1 i1 fp1 n1 P1 St1) (D2 : Draws prog w A.in1.in1 i2 fp2 n2 P2 St2)
    (he : IsEnum s.heap e z c old) (hz : IsZip s.heap z TI TO .none) (hTI : PySem.IsTupOf2 s.heap TI (.ref i1) (.ref i2)) (hTO : PySem.IsTupOf2 s.heap TO a1 a2) (st1 : St1 i s.heap) (st2 : St2 i s.heap) (hle1 : i ≤ n1) (hle2 : i ≤ n2) (hend : i = n1 ∨ i = n2)
    (hQ : ∀ h' tk, (∀ c o, c ≠ z → c ≠ TO → c ≠ i1 → c ≠ i2 → s.heap.get? c = some o → h'.get? c = some o) → Q none { s with heap := h', toks := tk }) : wpAny (model prog w) A (pyNext (.ref e)) Q E s := by
  have hT : s.TypeIs (.ref e) "enumerate" := ⟨_, he, rfl⟩
  unfold pyNext
  refine wpAny_bind (wpAny_attempt (wpAny_callSpecial?_slot (name := Str.ofString "__next__") hT F.slot_enumerate_next
    (wpAny_call_entry F.slot_enumerate_next hT F.entry_enumerate_next ?_ (F.args_enumerate_next_1 _))))
  show wpAny _ _ (field (.ref e) 2 >>= _) _ _ _
  refine wpAny_bind (wpAny_field he rfl (x := .ref z) rfl ?_)
  refine wpAny_bind (nextOf_zip_end S D1 D2 hz hTI hTO st1 st2 hle1 hle2 hend fun h' tk x hk hx' => ?_)
  obtain ⟨o, ho, hc⟩ := hx'
  refine wpAny_bind (wpAny_isInstance (T := "StopIteration") (b := true) ⟨o, ho, hc⟩ isSubtype_stop ?_)
  exact wpAny_pure (hQ _ _ hk)
end
theorem turn_enumT0 {P : Program} {w : World} {K : PySem.W.Frag} {tg : Expr} (a e it : Addr) :
    Turn P w K tg (ItN fun H => SqT K H a []) [e, it] e (fun _ h => (∃ old, IsEnum h e it 0 old) ∧ h.IsTupleIter it a 0 ∧ e ≠ it ∧ a ≠ it) where
  mem := by simp
  obj := fun i h st b hb => by
    obtain ⟨⟨old, he⟩, ⟨o, ho, hc, hd⟩, _⟩ := st
    have e' : b = e ∨ b = it := by simpa using hb
    rcases e' with z | z
    · rw [z]; exact ⟨_, he, fun v q => nomatch q⟩
    · rw [z]; exact ⟨o, ho, fun v q => by rw [hd] at q; cases q⟩
  keep := fun i h h' st k => let ⟨⟨old, he⟩, hi, hne⟩ := st; ⟨⟨old, k e (by simp) _ he⟩, hi.at fun o q => k it (by simp) o q, hne⟩
  item := by
    intro X hP hw hK hc i pins s σ H E I hf st hg
    exact hg.elim
  done := by
    intro X hP hw hK hc i pins s σ H E I hf st hq
    subst hP hw hK
    obtain ⟨⟨old, he⟩, hit, hne, hna⟩ := st
    obtain ⟨its, rv, p, hz⟩ := I.tuple (show SqT X.K H a [] from hq)
    cases rv
    obtain ⟨f0, f1, f2, f3, f4, f5⟩ := hf it (by simp)
    exact wpAny_pyNext_enum_endD (Draws.tuple (A := X.A.in1) (I.ok.hd hc) it a hna #[]) he ⟨hit, p⟩ fun h' eb => ⟨rfl, I.turned (t' := s.toks) (fun b o hb q => eb b o hb q) f0 f1 f3 f4 f5⟩
  self := fun A i s Q E st h => let ⟨⟨_, he⟩, _⟩ := st; wpAny_pyIter_enum he h
def iEnumT0 (K : PySem.W.Frag) (ta : TA) : TI := fun σ H R => ta σ H fun vs H1 => ∃ a, vs = [.ref a] ∧ SqT K H1 a [] ∧ R (ItN fun H => SqT K H a []) H1
theorem pi_enumT0 {X : Cx} {e : Expr} {ta : TA} {p pos : Pos} {tg : Expr} (hg : Gl X "enumerate") (hm : X.mg "enumerate" = none) (ha : PA X [e] ta) (hs : starEach [e] X.env = [(false, eval e X.env)] := by rfl) :
    PI X tg (.Call (.Name "enumerate" p) [e] [] pos) (iEnumT0 X.K ta) := by
  refine ⟨fun pins s σ H R I h => ?_⟩
  refine Call_ (ld_blt I hg hm boot_enumerate (PyProof.Rows.callWith_type1 (thn (ha.run pos pins s σ H _ I h) fun us s1 ⟨vs, H1, I1, r1, q1⟩ => ?_) hs rfl))
  obtain ⟨a, ex, hq, q⟩ := q1
  subst ex
  cases r1 with
  | cons r rr =>
    cases rr
    cases r
    obtain ⟨its, rv, p', hz⟩ := I1.tuple hq
    obtain ⟨oa, hoa, _⟩ := id p'
    have hla := Heap.lt_size hoa
    refine call_enumT (show s1.heap.IsTuple a its.toArray from p') fun h' he hit hsz hk => wpAny_pyIter_enum he ?_
    have I2 : Inv X pins σ H1 { s1 with heap := h' } := I1.kept (t' := s1.toks) hk
    refine ⟨s1.heap.objs.size + 1, [s1.heap.objs.size + 1, s1.heap.objs.size], _, _, H1, rfl, I2, turn_enumT0 a (s1.heap.objs.size + 1) s1.heap.objs.size, ⟨⟨.none, he⟩, hit, Nat.succ_ne_self _, Nat.ne_of_lt hla⟩, fun b hb => ?_, q⟩
    have e' : b = s1.heap.objs.size + 1 ∨ b = s1.heap.objs.size := by simpa using hb
    have hle : s1.heap.objs.size ≤ b := by
      rcases e' with z | z
      · rw [z]; exact Nat.le_add_right _ _
      · rw [z]; exact Nat.le_refl _
    exact I1.fpOk hle (I1.hok.fresh hle)
theorem turn_enumZ0 {P : Program} {w : World} {K : PySem.W.Frag} {tg : Expr} {a b e z TI TO i1 i2 : Addr} (D : ZipApart z TI TO i1 i2 a b) (De : e ≠ z ∧ e ≠ TI ∧ e ≠ TO ∧ e ≠ i1 ∧ e ≠ i2) :
    Turn P w K tg (ItN fun H => SqL K H a [] ∧ SqL K H b []) [e, z, TI, TO, i1, i2] e (fun _ h => (∃ old, IsEnum h e z 0 old) ∧ IsZip h z TI TO .none ∧ IsPair h TI (.ref i1) (.ref i2) ∧ (∃ x y, IsPair h TO x y) ∧ h.IsListIter i1 a 0 ∧ h.IsListIter i2 b 0) where
  mem := by simp
  obj := fun i h st c hc => by
    obtain ⟨⟨old, he⟩, hz, hTI, ⟨x, y, hTO⟩, ⟨o1, e1, _, d1⟩, ⟨o2, e2, _, d2⟩⟩ := st
    have e' : c = e ∨ c = z ∨ c = TI ∨ c = TO ∨ c = i1 ∨ c = i2 := by simpa using hc
    rcases e' with q | q | q | q | q | q
    · rw [q]; exact ⟨_, he, fun v q => nomatch q⟩
    · rw [q]; exact ⟨_, hz, fun v q => nomatch q⟩
    · rw [q]; exact ⟨_, hTI, fun v q => nomatch q⟩
    · rw [q]; exact ⟨_, hTO, fun v q => nomatch q⟩
    · rw [q]; exact ⟨o1, e1, fun v q => by rw [d1] at q; cases q⟩
    · rw [q]; exact ⟨o2, e2, fun v q => by rw [d2] at q; cases q⟩
  keep := fun i h h' st k => by
    obtain ⟨⟨old, he⟩, hz, hTI, ⟨x, y, hTO⟩, h1, h2⟩ := st
    exact ⟨⟨old, k e (by simp) _ he⟩, k z (by simp) _ hz, k TI (by simp) _ hTI, ⟨x, y, k TO (by simp) _ hTO⟩, h1.at fun o q => k i1 (by simp) o q, h2.at fun o q => k i2 (by simp) o q⟩
  item := by
    intro X hP hw hK hc i pins s σ H E I hf st hg
    exact hg.elim
  done := by
    intro X hP hw hK hc i pins s σ H E I hf st hg
    subst hP hw hK
    obtain ⟨⟨old, he⟩, hz, hTI, ⟨x0, y0, hTO⟩, h1, h2⟩ := st
    obtain ⟨hqx, hqy⟩ := (show SqL X.K H a [] ∧ SqL X.K H b [] from hg)
    obtain ⟨its, rv, p, _⟩ := I.list hqx
    obtain ⟨its2, rv2, p2, _⟩ := I.list hqy
    cases rv
    cases rv2
    have S : PySem.ZipSep2 z TI TO i1 i2 [i1, a] [i2, b] := by
      exact ⟨D.TIz, D.TOz, D.TITO, D.TIi1, by simp, by simp [Ne.symm D.i1z, Ne.symm D.l1z], by simp [D.TOi1, Ne.symm D.l1TO], D.TIi2, by simp, by simp [Ne.symm D.i2z, Ne.symm D.l2z], by simp [D.TOi2, Ne.symm D.l2TO], by simp [D.i12, Ne.symm D.l2i1], by simp [Ne.symm D.i12, Ne.symm D.l1i2]⟩
    refine enumZ_end (i := 0) S (Draws.list (A := X.A.in1.in1) (I.ok.hd hc) i1 a D.l1i1 #[]) (Draws.list (A := X.A.in1.in1) (I.ok.hd hc) i2 b D.l2i2 #[]) he hz hTI hTO ⟨h1, p.isList⟩ ⟨h2, p2.isList⟩ (Nat.le_refl _) (Nat.le_refl _) (.inl rfl) fun h' tk hk => ⟨rfl, I.turnedL (t' := tk) (ch := [e, z, TI, TO, i1, i2]) (fun c o hb q =>
      hk c o (fun q' => hb (by simp [q'])) (fun q' => hb (by simp [q'])) (fun q' => hb (by simp [q'])) (fun q' => hb (by simp [q'])) q) hf⟩
  self := fun A i s Q E st h => let ⟨⟨_, he⟩, _⟩ := st; wpAny_pyIter_enum he h
theorem ap5 (n : Nat) : n + 5 ≠ n + 4 ∧ n + 5 ≠ n + 2 ∧ n + 5 ≠ n + 3 ∧ n + 5 ≠ n ∧ n + 5 ≠ n + 1 := by omega
def iEnumZ0 (K : PySem.W.Frag) (ta : TA) : TI := fun σ H R => ta σ H fun vs H1 => ∃ a b, vs = [.ref a, .ref b] ∧ SqL K H1 a [] ∧ SqL K H1 b [] ∧ R (ItN fun H => SqL K H a [] ∧ SqL K H b []) H1
theorem pi_enumZ0 {X : Cx} {e e2 : Expr} {ta : TA} {p p2 pos cpos : Pos} {tg : Expr} (hg : Gl X "enumerate") (hm : X.mg "enumerate" = none) (hg2 : Gl X "zip") (hm2 : X.mg "zip" = none) (ha : PA X [e, e2] ta)
    (hs : starEach [e, e2] X.env = (false, eval e X.env) :: starEach [e2] X.env := by rfl) (hpl : (backTo cpos (starEach [e2] X.env)).any (·.1) = false := by rfl) (hs2 : starEach [.Call (.Name "zip" p2) [e, e2] [] cpos] X.env = (false, eval (.Call (.Name "zip" p2) [e, e2] [] cpos) X.env) :: starEach [] X.env := by rfl) :
    PI X tg (.Call (.Name "enumerate" p) [.Call (.Name "zip" p2) [e, e2] [] cpos] [] pos) (iEnumZ0 X.K ta) := by
  refine ⟨fun pins s σ H R I h => ?_⟩
  refine Call_ (ld_blt I hg hm boot_enumerate (PyProof.Rows.callWith_type1 (PyProof.Rows.args_cons ?_ hs2) hs2 rfl))
  refine Call_ (ld_blt I hg2 hm2 PyProof.Rows.boot_zip (PyProof.Rows.callWith_type1 (thn (ha.run cpos pins s σ H _ I h) fun us s1 ⟨vs, H1, I1, r1, q1⟩ => ?_) hs hpl))
  obtain ⟨a, b, ex, hqx, hqy, q⟩ := q1
  subst ex
  cases r1 with
  | cons r rr =>
    cases rr with
    | cons r' rr =>
      cases rr
      cases r
      cases r'
      obtain ⟨its, rv, p1, _⟩ := I1.list hqx
      obtain ⟨its2, rv2, p2, _⟩ := I1.list hqy
      refine call_zip_2 p1.isList p2.isList fun h' hz hTI hTO h1 h2 hsz hk => PyProof.Rows.args_nil ?_
      have I2 : Inv X pins σ H1 { s1 with heap := h' } := I1.kept (t' := s1.toks) hk
      refine call_enumZ (s := { s1 with heap := h' }) hz fun h'' he hsz2 hk2 => wpAny_pyIter_enum he ?_
      have I3 : Inv X pins σ H1 { s1 with heap := h'' } := I2.kept (t' := s1.toks) hk2
      have esz : h'.objs.size = s1.heap.objs.size + 5 := hsz
      have he' : IsEnum h'' (s1.heap.objs.size + 5) (s1.heap.objs.size + 4) 0 .none := by rw [← esz]; exact he
      show PIE X pins σ tg R (.ref h'.objs.size) { s1 with heap := h'' }
      rw [esz]
      refine ⟨s1.heap.objs.size + 5, [s1.heap.objs.size + 5, s1.heap.objs.size + 4, s1.heap.objs.size + 2, s1.heap.objs.size + 3, s1.heap.objs.size, s1.heap.objs.size + 1], _, _, H1, rfl, I3, turn_enumZ0 (PySem.W.ktu_apart s1.heap.objs.size a b p1.lt p2.lt) (ap5 _), ⟨⟨.none, he'⟩, hk2 _ _ hz, hk2 _ _ hTI, ⟨_, _, hk2 _ _ hTO⟩, h1.at fun o q => hk2 _ o q, h2.at fun o q => hk2 _ o q⟩, fun c hcm => ?_, q⟩
      have e' : c = s1.heap.objs.size + 5 ∨ c = s1.heap.objs.size + 4 ∨ c = s1.heap.objs.size + 2 ∨ c = s1.heap.objs.size + 3 ∨ c = s1.heap.objs.size ∨ c = s1.heap.objs.size + 1 := by simpa using hcm
      have hle : s1.heap.objs.size ≤ c := by
        rcases e' with q | q | q | q | q | q <;> rw [q] <;> first | exact Nat.le_add_right _ _ | exact Nat.le_refl _
      exact I1.fpOk hle (I1.hok.fresh hle)
/-! ### loops that make no turn -/
section
variable {X : Cx}
theorem for_stop {J : It} {g : TG} {tb : TS} {D : Ends} {σ : L2.St} {H : Hp} (hs : J.stop 0 H) (hd : D.nx σ H) :
    ∃ W : Nat → Nat → L2.St → Hp → Prop, (∃ m, W 0 m σ H) ∧ ∀ i m σ H, W i m σ H →
      (J.stop i H ∧ D.nx σ H) ∨ (J.go i H ∧ ∃ N : L2.St → Hp → Prop, (∀ σ' H', N σ' H' → ∃ m', m' < m ∧ W (i + 1) m' σ' H') ∧ ∀ v H', J.yld i H v H' → g v σ H' fun σ2 H2 => tb { D with nx := N, ct := N, bk := D.nx } σ2 H2) :=
  ⟨fun i _ σ' H' => i = 0 ∧ σ' = σ ∧ H' = H, ⟨0, rfl, rfl, rfl⟩, fun _ _ _ _ ⟨ei, es, eh⟩ => by subst ei es eh; exact .inl ⟨hs, hd⟩⟩
theorem lc_stop {J : It} {g : TG} {tt : TT} {te : TE} {vs : List Nat} {σ : L2.St} {H0 : Hp} {D : Addr} {Qd : Hp → Prop} (hs : J.stop 0 H0) (hd : Qd H0) :
    ∃ W : Nat → Nat → Hp → Prop, (∃ m, W 0 m H0) ∧ ∀ i m H, W i m H →
      (J.stop i H ∧ Qd H) ∨ (J.go i H ∧ ∃ Nx : Hp → Prop, (∀ H', Nx H' → ∃ m', m' < m ∧ W (i + 1) m' H') ∧ ∀ x H', J.yld i H x H' → g x (wipe σ vs) H' fun σ2 H2 => wipe σ2 vs = wipe σ vs ∧ tt σ2 H2 fun b H3 =>
        if b = true then te σ2 H3 fun y H4 => ∃ acc, H4 D = some (.lst acc) ∧ acc.length < sizeLine ∧ Nx (L2.upd H4 D (.lst (acc ++ [y]))) else Nx H3) :=
  ⟨fun i _ H' => i = 0 ∧ H' = H0, ⟨0, rfl, rfl⟩, fun _ _ _ ⟨ei, eh⟩ => by subst ei eh; exact .inl ⟨hs, hd⟩⟩
end
end Sps
set_option Elab.async false
set_option linter.all false
set_option maxRecDepth 100000
set_option maxHeartbeats 4000000
/-! What is made of no answers: steps, contents. -/
namespace Sps
open PySem PySem.Spec PyProof.Rows L2
/-! ### comprehensions that make no turn -/
section
variable {X : Cx}
def gNo : TG := fun _ _ _ _ => False
def ttNo : TT := fun _ _ _ => False
def teNo : TE := fun _ _ _ => False
theorem pg_no {tg : Expr} : PG X tg gNo := ⟨fun _ _ _ _ _ _ _ _ _ h => h.elim⟩
theorem pts_no {es : List Expr} : PTs X es ttNo := ⟨fun _ _ _ _ _ _ h => h.elim⟩
theorem pe_no' {e : Expr} : PE X e teNo := ⟨fun _ _ _ _ _ _ h => h.elim⟩
theorem pe_lc0 {elt tg iter : Expr} {ifs : List Expr} {scope : Scope} {own : List (Str × Nat)} {pos : Pos} {wi : TI} (hc : X.calm = true) (hN : X.N.Nodup) (hi : PI X tg iter wi) (ok : BlkOk X.N X.env.scope scope own) (hs : ∀ x, foldedSetIterable iter X.env x = pure x := by intro _; rfl) :
    PE X (.ListComp elt [⟨tg, iter, ifs, 0⟩] scope pos) (tLc wi gNo ttNo teNo (own.map (·.2))) := pe_lc hc hN hi ok (fun _ _ _ _ _ => pg_no) (fun _ _ _ _ _ => pts_no) (fun _ _ _ _ _ => pe_no') hs
theorem ps_setLc0 {i : Nat} {y : Str} {py : Pos} {elt tg iter : Expr} {ifs : List Expr} {scope : Scope} {own : List (Str × Nat)} {pos spos : Pos} {wi : TI} (hc : X.calm = true) (hN : X.N.Nodup) (hy : X.N[i]? = some y) (hyl : X.env.scope.names.lookup y = some .local)
    (hsw : swapsWith (.ListComp elt [⟨tg, iter, ifs, 0⟩] scope pos) (some (.Name y py)) spos.line X.env = pure true) (hi : PI X tg iter wi) (ok : BlkOk X.N X.env.scope scope own) (hs : ∀ x, foldedSetIterable iter X.env x = pure x := by intro _; rfl) :
    PS X (.Assign [.Name y py] (.ListComp elt [⟨tg, iter, ifs, 0⟩] scope pos) spos) (tAsg (tLc wi gNo ttNo teNo (own.map (·.2))) (gName i)) :=
  ps_setLc hc hN hy hyl hsw hi ok (fun _ _ _ _ _ => pg_no) (fun _ _ _ _ _ => pts_no) (fun _ _ _ _ _ => pe_no') hs
theorem pe_dc0 {kx vx tg iter : Expr} {ifs : List Expr} {scope : Scope} {own : List (Str × Nat)} {pos : Pos} {wi : TI} (hc : X.calm = true) (hN : X.N.Nodup) (hi : PI X tg iter wi) (ok : BlkOk X.N X.env.scope scope own) (hs : ∀ x, foldedSetIterable iter X.env x = pure x := by intro _; rfl) :
    PE X (.DictComp kx vx [⟨tg, iter, ifs, 0⟩] scope pos) (tDc wi gNo ttNo teNo teNo (own.map (·.2))) := pe_dc hc hN hi ok (fun _ _ _ _ _ => pg_no) (fun _ _ _ _ _ => pts_no) (fun _ _ _ _ _ => pe_no') (fun _ _ _ _ _ => pe_no') hs
theorem dc_stop {J : It} {g : TG} {tt : TT} {tk tv : TE} {vs : List Nat} {σ : L2.St} {H0 : Hp} {D : Addr} {Qd : Hp → Prop} (hs : J.stop 0 H0) (hd : Qd H0) :
    ∃ W : Nat → Nat → Hp → Prop, (∃ m, W 0 m H0) ∧ ∀ i m H, W i m H →
      (J.stop i H ∧ Qd H) ∨ (J.go i H ∧ ∃ Nx : Hp → Prop, (∀ H', Nx H' → ∃ m', m' < m ∧ W (i + 1) m' H') ∧ ∀ x H', J.yld i H x H' → g x (wipe σ vs) H' fun σ2 H2 => wipe σ2 vs = wipe σ vs ∧ tt σ2 H2 fun b H3 =>
        if b = true then tk σ2 H3 fun y H4 => tv σ2 H4 fun z H5 => ∃ kvs k, y = kV k ∧ H5 D = some (.dK kvs) ∧ kvs.length < sizeLine ∧ Nx (L2.upd H5 D (.dK (putK kvs k z))) else Nx H3) :=
  ⟨fun i _ H' => i = 0 ∧ H' = H0, ⟨0, rfl, rfl⟩, fun _ _ _ ⟨ei, eh⟩ => by subst ei eh; exact .inl ⟨hs, hd⟩⟩
end
def lN (H : Hp) (a : Addr) : Prop := H a = some (.lst [])
/-- Q holds of a new empty list -/
def newL (H : Hp) (Q : VK) : Prop := ∀ (H' : Hp) (p : Addr), Same H H' → H p = none → H' p = some (.lst []) → Q (.ref p) H'
def newD (H : Hp) (Q : VK) : Prop := ∀ (H' : Hp) (p : Addr), Same H H' → H p = none → H' p = some (.dK []) → Q (.ref p) H'
theorem lstAt {K : PySem.W.Frag} {H : Hp} {a : Addr} {xs : List V} (h : H a = some (.lst xs)) : SqL K H a xs := SqL.of h
section
variable {P : Program} {w : World} {K : PySem.W.Frag} {mg : Str → Option Value} {base : Heap}
def spMask : Sp := fun vs H Q _ => ∃ a, vs = [.ref a] ∧ H a = some (.lst []) ∧ ∀ H', Same H H' → Q (.int 0) H'
theorem scMask : FnScope ["places", "place"] ["places"] (defScope s_mask_of) := ⟨rfl, rfl, rfl, by decide +kernel, rfl, by decide +kernel, by decide +kernel⟩
theorem ok_mask {f : Addr} {fd : FuncData} (F : Fun K "mask_of" "mask_of" s_mask_of f fd) (T : Names mg) : FnOk P w K mg base CX0 1 f fd ["places"] spMask := by
  refine F.ok scMask (fun vs H Q E h => ?_) (fun cdv A outer s H vs Q E hr h => ?_)
  · obtain ⟨_, rfl, _⟩ := h
    rfl
  · obtain ⟨a, rfl, ha, h⟩ := h
    refine ⟨_, pss_one (ps_ret (pe_callB (cr_sum rfl) (by rfl) T.sum (by decide +kernel) (pa_cons (pe_lc0 (own := [("place", 1)]) rfl scMask.nd (pi_list (pv 0)) (blkOk_by (own := [("place", 1)]) (N := ["places", "place"]) (sc := defScope s_mask_of) (by decide +kernel))) pa_nil))), ?_⟩
    refine ⟨_, rfl, a, rfl, ⟨_, lstAt ha⟩, fun D hD => lc_stop ⟨_, lstAt (Same.upd hD _ _ ha), Nat.le_refl _⟩ ⟨D, [], rfl, lstAt upd_same, h _ (Same.upd hD)⟩⟩
abbrev nSh : List Str := ["words", "found", "place", "word", "told"]
def spSharing : Sp := fun vs H Q _ => ∃ a, vs = [.ref a] ∧ H a = some (.lst []) ∧ newL H Q
theorem scSh : FnScope nSh ["words"] (defScope s__sharing) := ⟨rfl, rfl, rfl, by decide +kernel, rfl, by decide +kernel, by decide +kernel⟩
theorem ok_sharing {f : Addr} {fd : FuncData} (F : Fun K "_sharing" "_sharing" s__sharing f fd) (T : Names mg) : FnOk P w K mg base CX0 1 f fd ["words"] spSharing := by
  refine F.ok scSh (fun vs H Q E h => ?_) (fun cdv A outer s H vs Q E hr h => ?_)
  · obtain ⟨_, rfl, _⟩ := h
    rfl
  · obtain ⟨a, rfl, ha, h⟩ := h
    refine ⟨_, pss_cons (ps_set (i := 1) scSh.nd rfl (Or.inr rfl) pe_dnewK)
      (pss_cons (ps_for PassesOwn.never rfl (pi_enum (by rfl) T.enumerate (pa_cons (pv 0) pa_nil)) pg_no pss_never)
      (pss_one (ps_ret (pe_lc0 (own := [("told", 4)]) rfl scSh.nd (pi_list (pv 0)) (blkOk_by (own := [("told", 4)]) (N := nSh) (sc := defScope s__sharing) (by decide +kernel)))))), ?_⟩
    refine fun d hd => ?_
    have s1 := Same.upd (o := .dK []) hd
    refine ⟨_, rfl, a, _, rfl, lstAt (s1 _ _ ha), for_stop ⟨_, lstAt (s1 _ _ ha), Nat.le_refl _⟩ ?_⟩
    refine ⟨_, rfl, a, rfl, ⟨_, lstAt (s1 _ _ ha)⟩, fun D hD => lc_stop ⟨_, lstAt (Same.upd hD _ _ (s1 _ _ ha)), Nat.le_refl _⟩ (h _ D (Same.upd' s1 hD) (s1.free hD) upd_same)⟩
abbrev nSe : List Str := ["rows", "found", "place", "row", "copy", "_", "last"]
def spSeen (K : PySem.W.Frag) : Sp := fun vs H Q _ => ∃ a, vs = [.ref a] ∧ H a = some (.tup []) ∧ newD H Q
theorem scSe : FnScope nSe ["rows"] (defScope s__seen_at) := ⟨rfl, rfl, rfl, by decide +kernel, rfl, by decide +kernel, by decide +kernel⟩
theorem ok_seen {f : Addr} {fd : FuncData} (F : Fun K "_seen_at" "_seen_at" s__seen_at f fd) (T : Names mg) : FnOk P w K mg base CX0 1 f fd ["rows"] (spSeen K) := by
  refine F.ok scSe (fun vs H Q E h => ?_) (fun cdv A outer s H vs Q E hr h => ?_)
  · obtain ⟨_, rfl, _⟩ := h
    rfl
  · obtain ⟨a, rfl, ha, h⟩ := h
    refine ⟨_, pss_cons (ps_set (i := 1) scSe.nd rfl (Or.inl rfl) pe_dnewK)
      (pss_cons (ps_for PassesOwn.never rfl (pi_enumT0 (by rfl) T.enumerate (pa_cons (pv 0) pa_nil)) pg_no pss_never)
      (pss_one (ps_ret (pv 1)))), ?_⟩
    refine fun d hd => ?_
    have s1 := Same.upd (o := .dK []) hd
    refine ⟨_, rfl, a, rfl, tupAt (s1 _ _ ha), for_stop (tupAt (s1 _ _ ha)) ?_⟩
    exact ⟨_, rfl, h _ d s1 hd upd_same⟩
abbrev nBy : List Str := ["site", "rows", "seen", "found", "row", "mask", "copy", "first", "_", "upper", "last", "bit"]
def spBy (K : PySem.W.Frag) : Sp := fun vs H Q _ => ∃ st a, vs = [st, .ref a] ∧ H a = some (.tup []) ∧ newL H Q
theorem scBy : FnScope nBy ["site", "rows"] (defScope s__by_time) := ⟨rfl, rfl, rfl, by decide +kernel, rfl, by decide +kernel, by decide +kernel⟩
theorem ok_by {f g : Addr} {fd fdG : FuncData} (F : Fun K "_by_time" "_by_time" s__by_time f fd) (T : Names mg) (G : FnOk P w K mg base CX0 1 g fdG ["rows"] (spSeen K)) (mgG : mg "_seen_at" = some (.ref g)) (kG : PySem.W.keepIn K (.ref g) = true) (bG : Binds K fdG ["rows"] []) : FnOk P w K mg base CX0 2 f fd ["site", "rows"] (spBy K) := by
  refine F.ok scBy (fun vs H Q E h => ?_) (fun cdv A outer s H vs Q E hr h => ?_)
  · obtain ⟨_, _, rfl, _⟩ := h
    rfl
  · obtain ⟨st, a, rfl, ha, h⟩ := h
    refine ⟨_, pss_cons (ps_set (i := 2) scBy.nd rfl (Or.inl rfl) (pe_call G hr rfl mgG kG bG .nil pass0 (pa_cons (pv 1) pa_nil)))
      (pss_cons (ps_set (i := 3) scBy.nd rfl (Or.inl rfl) (pe_lst pa_nil))
      (pss_cons (ps_for PassesOwn.never rfl (pi_tup (pv 1)) pg_no pss_never)
      (pss_one (ps_ret (pv 3))))), ?_⟩
    refine ⟨_, rfl, a, rfl, ha, fun H1 d s1 _ _ => ?_⟩
    refine ⟨(by show 0 ≤ sizeLine; decide), fun l hl => ?_⟩
    have s2 := Same.upd' (o := .lst []) s1 hl
    refine ⟨_, rfl, a, rfl, ⟨_, tupAt (s2 _ _ ha)⟩, for_stop ⟨_, tupAt (s2 _ _ ha), Nat.le_refl _⟩ ?_⟩
    exact ⟨_, rfl, h _ l s2 (s1.free hl) upd_same⟩
abbrev nRe : List Str := ["steps", "reach", "place", "mask", "middle", "through"]
theorem scRe : FnScope nRe ["steps"] (defScope s__reached) := ⟨rfl, rfl, rfl, by decide +kernel, rfl, by decide +kernel, by decide +kernel⟩
theorem ok_reached {f : Addr} {fd : FuncData} (F : Fun K "_reached" "_reached" s__reached f fd) (T : Names mg) : FnOk P w K mg base CX0 1 f fd ["steps"] spSharing := by
  refine F.ok scRe (fun vs H Q E h => ?_) (fun cdv A outer s H vs Q E hr h => ?_)
  · obtain ⟨_, rfl, _⟩ := h
    rfl
  · obtain ⟨a, rfl, ha, h⟩ := h
    refine ⟨_, pss_cons (ps_setLc0 (i := 1) (own := [("place", 2), ("mask", 3)]) rfl scRe.nd rfl rfl (sw_true rfl rfl rfl (by decide +kernel)) (pi_enum (by rfl) T.enumerate (pa_cons (pv 0) pa_nil)) (blkOk_by (own := [("place", 2), ("mask", 3)]) (N := nRe) (sc := defScope s__reached) (by decide +kernel)))
      (pss_cons (ps_for PassesOwn.never rfl (pi_range1 rfl T.range (pa_cons (pe_callB call_len_seq (by rfl) T.len PySem.boot_len (pa_cons (pv 0) pa_nil)) pa_nil)) pg_no pss_never)
      (pss_one (ps_ret (pv 1)))), ?_⟩
    refine ⟨_, rfl, a, _, rfl, lstAt ha, fun D hD => lc_stop ⟨_, lstAt (Same.upd hD _ _ ha), Nat.le_refl _⟩ ?_⟩
    have s1 := Same.upd (o := .lst []) hD
    refine ⟨_, rfl, a, _, rfl, .inl (lstAt (s1 _ _ ha)), 0, rfl, by omega, by omega, for_stop (Nat.le_refl _) ?_⟩
    exact ⟨_, rfl, h _ D s1 hD upd_same⟩
theorem scTu : FnScope ["reach", "start", "mask", "place"] ["reach"] (defScope s__turned) := ⟨rfl, rfl, rfl, by decide +kernel, rfl, by decide +kernel, by decide +kernel⟩
theorem ok_turned {f : Addr} {fd : FuncData} (F : Fun K "_turned" "_turned" s__turned f fd) (T : Names mg) : FnOk P w K mg base CX0 1 f fd ["reach"] spSharing := by
  refine F.ok scTu (fun vs H Q E h => ?_) (fun cdv A outer s H vs Q E hr h => ?_)
  · obtain ⟨_, rfl, _⟩ := h
    rfl
  · obtain ⟨a, rfl, ha, h⟩ := h
    refine ⟨_, pss_one (ps_ret (pe_lc0 (own := [("place", 3)]) rfl scTu.nd (pi_range1 rfl T.range (pa_cons (pe_callB call_len_seq (by rfl) T.len PySem.boot_len (pa_cons (pv 0) pa_nil)) pa_nil)) (blkOk_by (own := [("place", 3)]) (N := ["reach", "start", "mask", "place"]) (sc := defScope s__turned) (by decide +kernel)))), ?_⟩
    refine ⟨_, rfl, a, _, rfl, .inl (lstAt ha), 0, rfl, by omega, by omega, fun D hD => lc_stop (Nat.le_refl _) (h _ D (Same.upd hD) hD upd_same)⟩
end
end Sps
set_option Elab.async false
set_option linter.all false
set_option maxRecDepth 100000
set_option maxHeartbeats 4000000
/-! Steps of no answers. -/
namespace Sps
open PySem PySem.Spec PyProof.Rows L2
/-- an own class that is made by its __init__ -/
structure OC (K : PySem.W.Frag) (mg : Str → Option Value) (nm : Str) (C f : Addr) (fs : List Str) : Prop where
  cl : Cls K C
  make : Mk K C f
  mgC : mg nm = some (.ref C)
  no : ∀ x ∈ fs, NoAttr K C x
def EmpK (K : PySem.W.Frag) (ea : Addr) : Prop := ∀ H, SqT K H ea []
/-- a new instance at x as its fields come, what was tracked stands; rows: an empty tuple; ps: empty lists -/
structure Sg (H0 H : Hp) (x C dx r : Addr) (fs : List (Str × V)) (n : Nat) (ps : List Addr) : Prop where
  sx : SameX x H0 H
  at_ : H x = some (.ins C dx fs)
  rw_ : H r = some (.tup [])
  len : fs.length ≤ n
  ls : ∀ p ∈ ps, H p = some (.lst [])
theorem Sg.new {H0 H H' : Hp} {x C dx r : Addr} {fs : List (Str × V)} {n : Nat} {ps : List Addr} (g : Sg H0 H x C dx r fs n ps) (s : Same H H') : Sg H0 H' x C dx r fs n ps := ⟨g.sx.trans (Same.x s x), s _ _ g.at_, s _ _ g.rw_, g.len, fun p m => s _ _ (g.ls p m)⟩
theorem Sg.add {H0 H : Hp} {x C dx r : Addr} {fs : List (Str × V)} {n : Nat} {ps : List Addr} {p : Addr} (g : Sg H0 H x C dx r fs n ps) (h : H p = some (.lst [])) : Sg H0 H x C dx r fs n (ps ++ [p]) := ⟨g.sx, g.at_, g.rw_, g.len, fun q m => by
  rcases List.mem_append.mp m with e | m
  · exact g.ls q e
  · rw [List.mem_singleton.mp m]; exact h⟩
theorem Sg.put {H0 H : Hp} {x C dx r : Addr} {fs : List (Str × V)} {n : Nat} {ps : List Addr} (g : Sg H0 H x C dx r fs n ps) (f : Str) (y : V) : Sg H0 (L2.upd H x (.ins C dx (putF f y fs))) x C dx r (putF f y fs) (n + 1) ps := ⟨g.sx.trans SameX.upd, upd_same, by
    rw [upd_ne (ne_of g.rw_ g.at_ (by intro z; cases z))]; exact g.rw_, Nat.le_trans (length_putF _ _ _) (Nat.succ_le_succ g.len), fun p m => by
    rw [upd_ne (ne_of (g.ls p m) g.at_ (by intro z; cases z))]; exact g.ls p m⟩
theorem Sg.l {H0 H : Hp} {x C dx r : Addr} {fs : List (Str × V)} {n : Nat} {ps : List Addr} (g : Sg H0 H x C dx r fs n ps) (i : Nat) {p : Addr} (h : ps[i]? = some p) : H p = some (.lst []) := g.ls p (List.mem_of_getElem? h)
theorem Sg.lt {H0 H : Hp} {x C dx r : Addr} {fs : List (Str × V)} {n : Nat} {ps : List Addr} (g : Sg H0 H x C dx r fs n ps) (hn : n < 1000 := by decide) : fs.length < 1000 := Nat.lt_of_le_of_lt g.len hn
section
variable {P : Program} {w : World} {K : PySem.W.Frag} {mg : Str → Option Value} {base : Heap}
abbrev nSt : List Str := ["self", "site", "rows", "extra", "plain", "one", "other", "row", "start", "stop", "place", "mask", "weak"]
abbrev fSt : List Str := ["plain", "weak", "weaks", "ways", "meaning", "meaning_back", "older", "links", "edition", "edition_back"]
def spSteps (C ea : Addr) : Sp := fun vs H Q _ => ∃ (x dx r : Addr) (st : V), vs = [.ref x, st, .ref r, .ref ea] ∧ H x = some (.ins C dx []) ∧ H r = some (.tup []) ∧ ∀ H', SameX x H H' → Q .non H'
theorem scSt : FnScope nSt ["self", "site", "rows", "extra"] (defScope s_Steps___init__) := ⟨rfl, rfl, rfl, by decide +kernel, rfl, by decide +kernel, by decide +kernel⟩
theorem ok_steps {f C ea gB gS gM gR gT : Addr} {fd fdB fdS fdM fdR fdT : FuncData} {dv : List V} (F : FunD K "__init__" "Steps.__init__" (defArgs s_Steps___init__) (defBody s_Steps___init__) (defScope s_Steps___init__) dv [] f fd) (T : Names mg) (O : OC K mg "Steps" C f fSt) (ex : EmpK K ea)
    (GB : FnOk P w K mg base CX0 2 gB fdB ["site", "rows"] (spBy K)) (mgB : mg "_by_time" = some (.ref gB)) (kB : PySem.W.keepIn K (.ref gB) = true) (bB : Binds K fdB ["site", "rows"] [])
    (GS : FnOk P w K mg base CX0 1 gS fdS ["words"] spSharing) (mgS : mg "_sharing" = some (.ref gS)) (kS : PySem.W.keepIn K (.ref gS) = true) (bS : Binds K fdS ["words"] [])
    (GM : FnOk P w K mg base CX0 1 gM fdM ["places"] spMask) (mgM : mg "mask_of" = some (.ref gM)) (kM : PySem.W.keepIn K (.ref gM) = true) (bM : Binds K fdM ["places"] [])
    (GR : FnOk P w K mg base CX0 1 gR fdR ["steps"] spSharing) (mgR : mg "_reached" = some (.ref gR)) (kR : PySem.W.keepIn K (.ref gR) = true) (bR : Binds K fdR ["steps"] [])
    (GT : FnOk P w K mg base CX0 1 gT fdT ["reach"] spSharing) (mgT : mg "_turned" = some (.ref gT)) (kT : PySem.W.keepIn K (.ref gT) = true) (bT : Binds K fdT ["reach"] []) :
    FnOk P w K mg base CX0 3 f fd ["self", "site", "rows", "extra"] (spSteps C ea) := by
  refine F.ok scSt (fun vs H Q E h => ?_) (fun cdv A outer s H vs Q E hr h => ?_)
  · obtain ⟨_, _, _, _, rfl, _⟩ := h
    rfl
  · obtain ⟨x, dx, r, st, rfl, hx, hrw, h⟩ := h
    have hr1 : Room 1 _ := hr.mono (by decide)
    refine ⟨_, PSs.nox (pss_cons (ps_setLc0 (i := 4) (own := [("one", 5), ("other", 6)]) rfl scSt.nd rfl rfl (sw_true rfl rfl rfl (by decide +kernel)) (RZ.pi_zipA (by rfl) T.zip (pa_cons (pe_call GB hr rfl mgB kB bB .nil pass0 (pa_cons (pv 1) (pa_cons (pv 2) pa_nil)))
          (pa_cons (pe_call GS hr1 rfl mgS kS bS .nil pass0 (pa_cons (pe_lc0 (own := [("row", 7)]) rfl scSt.nd (pi_tup (pv 2)) (blkOk_by (own := [("row", 7)]) (N := nSt) (sc := defScope s_Steps___init__) (by decide +kernel))) pa_nil)) pa_nil))) (blkOk_by (own := [("one", 5), ("other", 6)]) (N := nSt) (sc := defScope s_Steps___init__) (by decide +kernel)))
      (pss_cons (ps_for PassesOwn.never rfl (pi_tup (pv 3)) pg_no pss_never)
      (pss_cons (ps_fld (pv 0) (pe_lc0 (own := [("place", 10), ("mask", 11)]) rfl scSt.nd (pi_enum (by rfl) T.enumerate (pa_cons (pv 4) pa_nil)) (blkOk_by (own := [("place", 10), ("mask", 11)]) (N := nSt) (sc := defScope s_Steps___init__) (by decide +kernel))) rfl)
      (pss_cons (ps_fld (pv 0) (pe_call GS hr1 rfl mgS kS bS .nil pass0 (pa_cons (pe_lc0 (own := [("row", 7)]) rfl scSt.nd (pi_tup (pv 2)) (blkOk_by (own := [("row", 7)]) (N := nSt) (sc := defScope s_Steps___init__) (by decide +kernel))) pa_nil)) rfl)
      (pss_cons (ps_fld (pv 0) (pe_call GM hr1 rfl mgM kM bM .nil pass0 (pa_cons (pe_lc0 (own := [("place", 10), ("row", 7)]) rfl scSt.nd (pi_enumT0 (by rfl) T.enumerate (pa_cons (pv 2) pa_nil)) (blkOk_by (own := [("place", 10), ("row", 7)]) (N := nSt) (sc := defScope s_Steps___init__) (by decide +kernel))) pa_nil)) rfl)
      (pss_cons (ps_fld (pv 0) (pe_lc0 (own := [("place", 10), ("mask", 11), ("weak", 12)]) rfl scSt.nd (pi_enumZ0 (by rfl) T.enumerate (by rfl) T.zip (pa_cons (pe_fld (pv 0) rfl) (pa_cons (pe_fld (pv 0) rfl) pa_nil))) (blkOk_by (own := [("place", 10), ("mask", 11), ("weak", 12)]) (N := nSt) (sc := defScope s_Steps___init__) (by decide +kernel))) rfl)
      (pss_cons (ps_fld (pv 0) (pe_call GR hr1 rfl mgR kR bR .nil pass0 (pa_cons (pe_fld (pv 0) rfl) pa_nil)) rfl)
      (pss_cons (ps_fld (pv 0) (pe_call GT hr1 rfl mgT kT bT .nil pass0 (pa_cons (pe_fld (pv 0) rfl) pa_nil)) rfl)
      (pss_cons (ps_fld (pv 0) (pe_lc0 (own := [("place", 10)]) rfl scSt.nd (pi_range1 rfl T.range (pa_cons (pe_callB call_len_seq (by rfl) T.len PySem.boot_len (pa_cons (pv 2) pa_nil)) pa_nil)) (blkOk_by (own := [("place", 10)]) (N := nSt) (sc := defScope s_Steps___init__) (by decide +kernel))) rfl)
      (pss_cons (ps_fld (pv 0) (pe_lc0 (own := [("one", 5), ("other", 6)]) rfl scSt.nd (RZ.pi_zipA (by rfl) T.zip (pa_cons (pe_fld (pv 0) rfl) (pa_cons (pe_fld (pv 0) rfl) pa_nil))) (blkOk_by (own := [("one", 5), ("other", 6)]) (N := nSt) (sc := defScope s_Steps___init__) (by decide +kernel))) rfl)
      (pss_cons (ps_fld (pv 0) (pe_call GR hr1 rfl mgR kR bR .nil pass0 (pa_cons (pe_fld (pv 0) rfl) pa_nil)) rfl)
      (pss_one (ps_fld (pv 0) (pe_call GT hr1 rfl mgT kT bT .nil pass0 (pa_cons (pe_fld (pv 0) rfl) pa_nil)) rfl))))))))))))), ?_⟩
    have g0 : Sg H H x C dx r [] 0 [] := ⟨SameX.refl H x, hx, hrw, Nat.le_refl _, fun _ m => nomatch m⟩
    have no : ∀ {k : Str}, k ∈ fSt → NoAttr K C k := fun {k} m => O.no k m
    -- plain
    refine ⟨_, rfl, _, rfl, st, r, rfl, hrw, fun H1 b s1 _ hb => ?_⟩
    have g1 := (g0.new s1).add hb
    refine ⟨_, rfl, r, rfl, ⟨_, tupAt g1.rw_⟩, fun D1 hD1 => lc_stop ⟨_, tupAt ((g1.new (Same.upd hD1)).rw_), Nat.le_refl _⟩ ?_⟩
    have g2 := (g1.new (Same.upd hD1)).add (p := D1) upd_same
    refine ⟨D1, rfl, upd_same, fun H2 c s2 _ hc => ?_⟩
    have g3 := (g2.new s2).add hc
    refine ⟨b, c, _, _, rfl, .inl ⟨lstAt (g3.l 0 rfl), lstAt (g3.l 2 rfl), fun D2 hD2 => lc_stop ⟨_, _, lstAt ((g3.new (Same.upd hD2)).l 0 rfl), lstAt ((g3.new (Same.upd hD2)).l 2 rfl), .inl (Nat.le_refl _)⟩ ?_⟩⟩
    have g4 := (g3.new (Same.upd hD2)).add (p := D2) upd_same
    -- extra
    refine ⟨_, rfl, ea, rfl, ⟨_, ex _⟩, for_stop ⟨_, ex _, Nat.le_refl _⟩ ?_⟩
    -- self.plain
    refine ⟨_, rfl, D2, _, rfl, lstAt (g4.l 3 rfl), fun D3 hD3 => lc_stop ⟨_, lstAt ((g4.new (Same.upd hD3)).l 3 rfl), Nat.le_refl _⟩ ?_⟩
    have g5 := (g4.new (Same.upd hD3)).add (p := D3) upd_same
    refine ⟨_, rfl, x, C, dx, _, rfl, g5.at_, O.cl, no (by decide), g5.lt, ?_⟩
    have g6 := g5.put "plain" (.ref D3)
    -- self.weak
    refine ⟨_, rfl, r, rfl, ⟨_, tupAt g6.rw_⟩, fun D4 hD4 => lc_stop ⟨_, tupAt ((g6.new (Same.upd hD4)).rw_), Nat.le_refl _⟩ ?_⟩
    have g7 := (g6.new (Same.upd hD4)).add (p := D4) upd_same
    refine ⟨D4, rfl, upd_same, fun H3 d s3 _ hd => ?_⟩
    have g8 := (g7.new s3).add hd
    refine ⟨_, rfl, x, C, dx, _, rfl, g8.at_, O.cl, no (by decide), g8.lt, ?_⟩
    have g9 := g8.put "weak" (.ref d)
    -- self.weaks
    refine ⟨_, rfl, r, rfl, tupAt g9.rw_, fun D5 hD5 => lc_stop (tupAt ((g9.new (Same.upd hD5)).rw_)) ?_⟩
    have g10 := (g9.new (Same.upd hD5)).add (p := D5) upd_same
    refine ⟨D5, rfl, upd_same, fun H4 s4 => ?_⟩
    have g11 := g10.new s4
    refine ⟨_, rfl, x, C, dx, _, rfl, g11.at_, O.cl, no (by decide), g11.lt, ?_⟩
    have g12 := g11.put "weaks" (.int 0)
    -- self.ways
    refine ⟨_, rfl, x, C, dx, _, _, rfl, g12.at_, O.cl, no (by decide), (by repeat (first | (rw [lookup_putF, if_pos rfl]; done) | rw [lookup_putF, if_neg (by decide)])), _, rfl, x, C, dx, _, _, rfl, g12.at_, O.cl, no (by decide), (by repeat (first | (rw [lookup_putF, if_pos rfl]; done) | rw [lookup_putF, if_neg (by decide)])), D3, d, rfl, lstAt (g12.l 4 rfl), lstAt (g12.l 6 rfl), fun D6 hD6 => lc_stop ⟨lstAt ((g12.new (Same.upd hD6)).l 4 rfl), lstAt ((g12.new (Same.upd hD6)).l 6 rfl)⟩ ?_⟩
    have g13 := (g12.new (Same.upd hD6)).add (p := D6) upd_same
    refine ⟨_, rfl, x, C, dx, _, rfl, g13.at_, O.cl, no (by decide), g13.lt, ?_⟩
    have g14 := g13.put "ways" (.ref D6)
    -- self.meaning, self.meaning_back
    refine ⟨_, rfl, x, C, dx, _, _, rfl, g14.at_, O.cl, no (by decide), (by repeat (first | (rw [lookup_putF, if_pos rfl]; done) | rw [lookup_putF, if_neg (by decide)])), D6, rfl, g14.l 8 rfl, fun H5 e s5 _ he => ?_⟩
    have g15 := (g14.new s5).add he
    refine ⟨_, rfl, x, C, dx, _, rfl, g15.at_, O.cl, no (by decide), g15.lt, ?_⟩
    have g16 := g15.put "meaning" (.ref e)
    refine ⟨_, rfl, x, C, dx, _, _, rfl, g16.at_, O.cl, no (by decide), (by repeat (first | (rw [lookup_putF, if_pos rfl]; done) | rw [lookup_putF, if_neg (by decide)])), e, rfl, g16.l 9 rfl, fun H6 e2 s6 _ he2 => ?_⟩
    have g17 := (g16.new s6).add he2
    refine ⟨_, rfl, x, C, dx, _, rfl, g17.at_, O.cl, no (by decide), g17.lt, ?_⟩
    have g18 := g17.put "meaning_back" (.ref e2)
    -- self.older
    refine ⟨_, rfl, r, _, rfl, .inr (tupAt g18.rw_), 0, rfl, by omega, by omega, fun D7 hD7 => lc_stop (Nat.le_refl _) ?_⟩
    have g19 := (g18.new (Same.upd hD7)).add (p := D7) upd_same
    refine ⟨_, rfl, x, C, dx, _, rfl, g19.at_, O.cl, no (by decide), g19.lt, ?_⟩
    have g20 := g19.put "older" (.ref D7)
    -- self.links
    refine ⟨_, rfl, x, C, dx, _, _, rfl, g20.at_, O.cl, no (by decide), (by repeat (first | (rw [lookup_putF, if_pos rfl]; done) | rw [lookup_putF, if_neg (by decide)])), _, rfl, x, C, dx, _, _, rfl, g20.at_, O.cl, no (by decide), (by repeat (first | (rw [lookup_putF, if_pos rfl]; done) | rw [lookup_putF, if_neg (by decide)])), D3, D7, _, _, rfl, .inl ⟨lstAt (g20.l 4 rfl), lstAt (g20.l 11 rfl), fun D8 hD8 => lc_stop ⟨_, _, lstAt ((g20.new (Same.upd hD8)).l 4 rfl), lstAt ((g20.new (Same.upd hD8)).l 11 rfl), .inl (Nat.le_refl _)⟩ ?_⟩⟩
    have g21 := (g20.new (Same.upd hD8)).add (p := D8) upd_same
    refine ⟨_, rfl, x, C, dx, _, rfl, g21.at_, O.cl, no (by decide), g21.lt, ?_⟩
    have g22 := g21.put "links" (.ref D8)
    refine ⟨_, rfl, x, C, dx, _, _, rfl, g22.at_, O.cl, no (by decide), (by repeat (first | (rw [lookup_putF, if_pos rfl]; done) | rw [lookup_putF, if_neg (by decide)])), D8, rfl, g22.l 12 rfl, fun H7 e3 s7 _ he3 => ?_⟩
    have g23 := (g22.new s7).add he3
    refine ⟨_, rfl, x, C, dx, _, rfl, g23.at_, O.cl, no (by decide), g23.lt, ?_⟩
    have g24 := g23.put "edition" (.ref e3)
    refine ⟨_, rfl, x, C, dx, _, _, rfl, g24.at_, O.cl, no (by decide), (by repeat (first | (rw [lookup_putF, if_pos rfl]; done) | rw [lookup_putF, if_neg (by decide)])), e3, rfl, g24.l 13 rfl, fun H8 e4 s8 _ he4 => ?_⟩
    have g25 := (g24.new s8).add he4
    refine ⟨_, rfl, x, C, dx, _, rfl, g25.at_, O.cl, no (by decide), g25.lt, ?_⟩
    exact h _ (g25.put "edition_back" (.ref e4)).sx
end
end Sps
set_option Elab.async false
set_option linter.all false
set_option maxRecDepth 100000
set_option maxHeartbeats 4000000
/-! Contents and pictures of no answers. -/
namespace Sps
open PySem PySem.Spec PyProof.Rows L2
theorem relock {H1 H7 : Hp} {d : Addr} {u : HO} {od : Obj} (h : H1 d = some u) (s : Same (L2.upd H1 d (.frz od u)) H7) : Same H1 (L2.upd H7 d u) := fun b o e => by
  by_cases q : b = d
  · rw [q, upd_same, ← e, q, h]
  · rw [upd_ne q]
    exact s b o (by rw [upd_ne q]; exact e)
theorem madeSame {H1 H2 : Hp} {y dy : Addr} {o o2 : HO} (h1 : H1 y = none) (h2 : H1 dy = none) (s : SameX y (L2.upd (L2.upd H1 dy o) y o2) H2) : Same H1 H2 := fun b u e => by
  have n1 := ne_of_none e h1
  have n2 := ne_of_none e h2
  exact s b u n1 (by rw [upd_ne n1, upd_ne n2]; exact e)
section
variable {P : Program} {w : World} {K : PySem.W.Frag} {mg : Str → Option Value} {base : Heap}
abbrev nNr : List Str := ["contents", "piece", "found", "content", "start", "values", "place", "part", "key"]
def spNamed : Sp := fun vs H Q _ => ∃ (a : Addr) (v : V), vs = [.ref a, v] ∧ H a = some (.lst []) ∧ newD H Q
theorem scNr : FnScope nNr ["contents", "piece"] (defScope s__named_runs) := ⟨rfl, rfl, rfl, by decide +kernel, rfl, by decide +kernel, by decide +kernel⟩
theorem ok_named {f : Addr} {fd : FuncData} (F : Fun K "_named_runs" "_named_runs" s__named_runs f fd) (T : Names mg) : FnOk P w K mg base CX0 1 f fd ["contents", "piece"] spNamed := by
  refine F.ok scNr (fun vs H Q E h => ?_) (fun cdv A outer s H vs Q E hr h => ?_)
  · obtain ⟨_, _, rfl, _⟩ := h
    rfl
  · obtain ⟨a, v, rfl, ha, h⟩ := h
    refine ⟨_, pss_cons (ps_set (i := 2) scNr.nd rfl (Or.inr rfl) pe_dnewK)
      (pss_cons (ps_for PassesOwn.never rfl (pi_list (pv 0)) pg_no pss_never)
      (pss_one (ps_ret (pe_lock (pe_dc0 (own := [("key", 8)]) rfl scNr.nd (pi_keys (pv 2)) (blkOk_by (own := [("key", 8)]) (N := nNr) (sc := defScope s__named_runs) (by decide +kernel))))))), ?_⟩
    refine fun d hd => ?_
    have s1 := Same.upd (o := .dK []) hd
    refine ⟨_, rfl, a, rfl, ⟨_, lstAt (s1 _ _ ha)⟩, for_stop ⟨_, lstAt (s1 _ _ ha), Nat.le_refl _⟩ ?_⟩
    refine ⟨d, _, upd_same, trivial, fun od => ⟨_, rfl, d, od, rfl, .inl ⟨[], upd_same, fun D hD => dc_stop ⟨Same.upd hD _ _ upd_same, Nat.le_refl _⟩ ⟨Same.upd hD _ _ upd_same, ?_⟩⟩⟩⟩
    have sR := relock (od := od) (show (L2.upd H d (.dK [])) d = some (.dK []) from upd_same) (Same.upd (o := .dK []) hD)
    have nD : D ≠ d := fun z => by
      rw [z, upd_same] at hD
      cases hD
    refine h _ D (s1.trans sR) ?_ (by rw [upd_ne nD]; exact upd_same)
    rw [upd_ne nD] at hD
    exact s1.free hD
abbrev nCt : List Str := ["editions", "piece", "told", "rows", "content", "place", "one", "other", "table", "key"]
def spContents : Sp := fun vs H Q _ => ∃ (a : Addr) (v : V), vs = [.ref a, v] ∧ H a = some (.lst []) ∧ newL H Q
theorem scCt : FnScope nCt ["editions", "piece"] (defScope s_contents_of) := ⟨rfl, rfl, rfl, by decide +kernel, rfl, by decide +kernel, by decide +kernel⟩
theorem ok_contents {f g : Addr} {fd fdG : FuncData} (F : Fun K "contents_of" "contents_of" s_contents_of f fd) (T : Names mg) (G : FnOk P w K mg base CX0 1 g fdG ["contents", "piece"] spNamed) (mgG : mg "_named_runs" = some (.ref g)) (kG : PySem.W.keepIn K (.ref g) = true) (bG : Binds K fdG ["contents", "piece"] []) : FnOk P w K mg base CX0 2 f fd ["editions", "piece"] spContents := by
  refine F.ok scCt (fun vs H Q E h => ?_) (fun cdv A outer s H vs Q E hr h => ?_)
  · obtain ⟨_, _, rfl, _⟩ := h
    rfl
  · obtain ⟨a, v, rfl, ha, h⟩ := h
    refine ⟨_, pss_cons (ps_setLc0 (i := 2) (own := [("rows", 3)]) rfl scCt.nd rfl rfl (sw_true rfl rfl rfl (by decide +kernel)) (pi_list (pv 0)) (blkOk_by (own := [("rows", 3)]) (N := nCt) (sc := defScope s_contents_of) (by decide +kernel)))
      (pss_cons (ps_if (pt_val (pe_callB (cr_any rfl) (by rfl) T.any (by decide +kernel) (pa_cons (pe_lc0 (own := [("content", 4)]) rfl scCt.nd (pi_list (pv 2)) (blkOk_by (own := [("content", 4)]) (N := nCt) (sc := defScope s_contents_of) (by decide +kernel))) pa_nil))) pss_never pss_nil)
      (pss_cons (ps_for PassesOwn.never rfl (pi_enum (by rfl) T.enumerate (pa_cons (pv 2) pa_nil)) pg_no pss_never)
      (pss_cons (ps_set (i := 8) scCt.nd rfl (Or.inr rfl) (pe_call G hr rfl mgG kG bG .nil pass0 (pa_cons (pv 2) (pa_cons (pv 1) pa_nil))))
      (pss_cons (ps_if (pt_val (pe_callB (cr_any rfl) (by rfl) T.any (by decide +kernel) (pa_cons (pe_lock (pe_lc0 (own := [("key", 9)]) rfl scCt.nd (pi_keys (pv 8)) (blkOk_by (own := [("key", 9)]) (N := nCt) (sc := defScope s_contents_of) (by decide +kernel)))) pa_nil))) pss_never pss_nil)
      (pss_one (ps_ret (pe_lc0 (own := [("content", 4)]) rfl scCt.nd (pi_list (pv 2)) (blkOk_by (own := [("content", 4)]) (N := nCt) (sc := defScope s_contents_of) (by decide +kernel))))))))), ?_⟩
    refine ⟨_, rfl, a, rfl, ⟨_, lstAt ha⟩, fun D1 hD1 => lc_stop ⟨_, lstAt (Same.upd hD1 _ _ ha), Nat.le_refl _⟩ ?_⟩
    have s1 := Same.upd (o := .lst []) hD1
    generalize hH1 : L2.upd H D1 (.lst []) = H1 at s1
    have l1 : H1 D1 = some (.lst []) := by rw [← hH1]; exact upd_same
    refine ⟨_, rfl, D1, rfl, ⟨_, lstAt l1⟩, fun D2 hD2 => lc_stop ⟨_, lstAt (Same.upd hD2 _ _ l1), Nat.le_refl _⟩ ⟨D2, [], rfl, lstAt upd_same, _, rfl, iteF ?_⟩⟩
    have s2 := s1.trans (Same.upd (o := .lst []) hD2)
    have l2 := Same.upd (o := .lst []) hD2 _ _ l1
    generalize hH2 : L2.upd H1 D2 (.lst []) = H2 at s2 l2
    refine ⟨_, rfl, D1, _, rfl, lstAt l2, for_stop ⟨_, lstAt l2, Nat.le_refl _⟩ ?_⟩
    refine ⟨_, rfl, _, rfl, D1, v, rfl, l2, fun H3 d s3 _ hd => ?_⟩
    have s13 := s2.trans s3
    have l3 := s3 _ _ l2
    refine ⟨d, _, hd, trivial, fun od => ⟨_, rfl, d, od, rfl, .inl ⟨[], upd_same, fun D4 hD4 => lc_stop ⟨Same.upd hD4 _ _ upd_same, Nat.le_refl _⟩ ⟨Same.upd hD4 _ _ upd_same, ?_⟩⟩⟩⟩
    have sR := relock (od := od) hd (Same.upd (o := .lst []) hD4)
    have nD : D4 ≠ d := fun z => by
      rw [z, upd_same] at hD4
      cases hD4
    refine ⟨D4, [], rfl, lstAt (by rw [upd_ne nD]; exact upd_same), _, rfl, iteF ?_⟩
    have l4 := sR _ _ l3
    have s14 := s13.trans sR
    exact ⟨_, rfl, D1, rfl, ⟨_, lstAt l4⟩, fun D5 hD5 => lc_stop ⟨_, lstAt (Same.upd hD5 _ _ l4), Nat.le_refl _⟩ (h _ D5 (Same.upd' s14 hD5) (s14.free hD5) upd_same)⟩
abbrev nPi : List Str := ["self", "site", "rows", "place", "row", "masks", "mask", "told", "places", "found", "content"]
abbrev fPi : List Str := ["site", "rows", "ghosts", "place", "steps", "editions", "least", "contents", "fits"]
abbrev fSi : List Str := ["copies", "piece", "above"]
/-- a picture of no editions -/
def PicAt (C : Addr) (H : Hp) (x e : Addr) : Prop := ∃ dx fs, H x = some (.ins C dx fs) ∧ fs.lookup ("editions" : Str) = some (.ref e) ∧ H e = some (.lst [])
theorem PicAt.same {C : Addr} {H H' : Hp} {x e : Addr} (h : PicAt C H x e) (s : Same H H') : PicAt C H' x e := let ⟨dx, fs, h1, h2, h3⟩ := h; ⟨dx, fs, s _ _ h1, h2, s _ _ h3⟩
def spPic (C CSi fSi_ : Addr) : Sp := fun vs H Q _ => ∃ (x dx st dS r : Addr) (fs : List (Str × V)) (pc : V), vs = [.ref x, .ref st, .ref r] ∧ H x = some (.ins C dx []) ∧ H st = some (.ins CSi dS fs) ∧ st ≠ x ∧ fs.lookup ("piece" : Str) = some pc ∧ H r = some (.tup []) ∧ ∀ H' e, SameX x H H' → PicAt C H' x e → Q .non H'
theorem scPi : FnScope nPi ["self", "site", "rows"] (defScope s_Picture___init__) := ⟨rfl, rfl, rfl, by decide +kernel, rfl, by decide +kernel, by decide +kernel⟩
theorem ok_pic {f C CSi fS CS fSt_ ea gC : Addr} {fd fdS fdC : FuncData} {ds : List Value} (F : Fun K "__init__" "Picture.__init__" s_Picture___init__ f fd) (T : Names mg) (O : OC K mg "Picture" C f fPi) (OS : OC K mg "Site" CSi fS fSi)
    (OT : OC K mg "Steps" CS fSt_ fSt) (GS : FnOk P w K mg base CX0 3 fSt_ fdS ["self", "site", "rows", "extra"] (spSteps CS ea)) (bS : Binds K fdS ["self", "site", "rows", "extra"] ds) (rS : Vals [V.ref ea] ds)
    (GC : FnOk P w K mg base CX0 2 gC fdC ["editions", "piece"] spContents) (mgC : mg "contents_of" = some (.ref gC)) (kC : PySem.W.keepIn K (.ref gC) = true) (bC : Binds K fdC ["editions", "piece"] []) :
    FnOk P w K mg base CX0 5 f fd ["self", "site", "rows"] (spPic C CSi fS) := by
  refine F.ok scPi (fun vs H Q E h => ?_) (fun cdv A outer s H vs Q E hr h => ?_)
  · obtain ⟨_, _, _, _, _, _, _, rfl, _⟩ := h
    rfl
  · obtain ⟨x, dx, st, dS, r, fs, pc, rfl, hx, hst, hne, hpc, hrw, h⟩ := h
    have hr2 : Room 2 _ := hr.mono (by decide)
    refine ⟨_, pss_cons (ps_fld (pv 0) (pv 1) rfl)
      (pss_cons (ps_fld (pv 0) (pv 2) rfl)
      (pss_cons (ps_fld (pv 0) pe_dnewK rfl)
      (pss_cons (ps_fld (pv 0) (pe_dc0 (own := [("place", 3), ("row", 4)]) rfl scPi.nd (pi_enumT0 (by rfl) T.enumerate (pa_cons (pv 2) pa_nil)) (blkOk_by (own := [("place", 3), ("row", 4)]) (N := nPi) (sc := defScope s_Picture___init__) (by decide +kernel))) rfl)
      (pss_cons (ps_fld (pv 0) (pe_make OT.make GS hr rfl OT.mgC bS rS pass0 (pa_cons (pv 1) (pa_cons (pv 2) pa_nil))) rfl)
      (pss_cons (ps_setLc0 (i := 5) (own := [("place", 3)]) rfl scPi.nd rfl rfl (sw_true rfl rfl rfl (by decide +kernel)) (pi_range1 rfl T.range (pa_cons (pe_callB call_len_seq (by rfl) T.len PySem.boot_len (pa_cons (pv 2) pa_nil)) pa_nil)) (blkOk_by (own := [("place", 3)]) (N := nPi) (sc := defScope s_Picture___init__) (by decide +kernel)))
      (pss_cons (ps_fld (pv 0) (pe_lc0 (own := [("place", 3), ("mask", 6)]) rfl scPi.nd (pi_enum (by rfl) T.enumerate (pa_cons (pv 5) pa_nil)) (blkOk_by (own := [("place", 3), ("mask", 6)]) (N := nPi) (sc := defScope s_Picture___init__) (by decide +kernel))) rfl)
      (pss_cons (ps_fld (pv 0) (pe_lc0 (own := [("mask", 6)]) rfl scPi.nd (pi_list (pv 5)) (blkOk_by (own := [("mask", 6)]) (N := nPi) (sc := defScope s_Picture___init__) (by decide +kernel))) rfl)
      (pss_cons (ps_set (i := 7) scPi.nd rfl (Or.inl rfl) (pe_call GC hr2 rfl mgC kC bC .nil pass0 (pa_cons (pe_lc0 (own := [("places", 8)]) rfl scPi.nd (pi_list (pe_fld (pv 0) rfl)) (blkOk_by (own := [("places", 8)]) (N := nPi) (sc := defScope s_Picture___init__) (by decide +kernel))) (pa_cons (pe_fld (pv 1) rfl) pa_nil))))
      (pss_cons (ps_set (i := 9) scPi.nd rfl (Or.inl rfl) (pe_ifExp (pt_cmpR op_isN (pv 7) pe_non (nomark _)) (pe_lst pa_nil) (pv 7)))
      (pss_cons (ps_fld (pv 0) (pe_dc0 (own := [("places", 8), ("content", 10)]) rfl scPi.nd (RZ.pi_zipA (by rfl) T.zip (pa_cons (pe_fld (pv 0) rfl) (pa_cons (pv 9) pa_nil))) (blkOk_by (own := [("places", 8), ("content", 10)]) (N := nPi) (sc := defScope s_Picture___init__) (by decide +kernel))) rfl)
      (pss_one (ps_fld (pv 0) (pe_cmpR op_notN (pv 7) pe_non (nomark _)) rfl)))))))))))), ?_⟩
    have g0 : Sg H H x C dx r [] 0 [] := ⟨SameX.refl H x, hx, hrw, Nat.le_refl _, fun _ m => nomatch m⟩
    have no : ∀ {k : Str}, k ∈ fPi → NoAttr K C k := fun {k} m => O.no k m
    refine ⟨_, rfl, _, rfl, x, C, dx, _, rfl, g0.at_, O.cl, no (by decide), g0.lt, ?_⟩
    have g1 := g0.put "site" (.ref st)
    refine ⟨_, rfl, _, rfl, x, C, dx, _, rfl, g1.at_, O.cl, no (by decide), g1.lt, ?_⟩
    have g2 := g1.put "rows" (.ref r)
    refine fun d1 hd1 => ⟨_, rfl, x, C, dx, _, rfl, (g2.new (Same.upd hd1)).at_, O.cl, no (by decide), g2.lt, ?_⟩
    have g3 := (g2.new (Same.upd (o := .dK []) hd1)).put "ghosts" (.ref d1)
    refine ⟨_, rfl, r, rfl, tupAt g3.rw_, fun d2 hd2 => dc_stop (tupAt ((g3.new (Same.upd hd2)).rw_)) ⟨_, rfl, x, C, dx, _, rfl, (g3.new (Same.upd hd2)).at_, O.cl, no (by decide), g3.lt, ?_⟩⟩
    have g4 := (g3.new (Same.upd (o := .dK []) hd2)).put "place" (.ref d2)
    -- self.steps
    refine ⟨_, rfl, _, rfl, fun y dy hy hdy nyd => ?_⟩
    have nry := ne_of_none g4.rw_ hy
    have nrd := ne_of_none g4.rw_ hdy
    refine ⟨y, dy, r, .ref st, rfl, upd_same, by rw [upd_ne nry, upd_ne nrd]; exact g4.rw_, fun H1 s1 => ⟨rfl, ?_⟩⟩
    have sM := madeSame hy hdy s1
    have g5 := g4.new sM
    refine ⟨_, rfl, x, C, dx, _, rfl, g5.at_, O.cl, no (by decide), g5.lt, ?_⟩
    have g6 := g5.put "steps" (.ref y)
    -- masks
    refine ⟨_, rfl, r, _, rfl, .inr (tupAt g6.rw_), 0, rfl, by omega, by omega, fun D1 hD1 => lc_stop (Nat.le_refl _) ?_⟩
    have g7 := (g6.new (Same.upd hD1)).add (p := D1) upd_same
    refine ⟨_, rfl, D1, _, rfl, lstAt (g7.l 0 rfl), fun D2 hD2 => lc_stop ⟨_, lstAt ((g7.new (Same.upd hD2)).l 0 rfl), Nat.le_refl _⟩ ?_⟩
    have g8 := (g7.new (Same.upd hD2)).add (p := D2) upd_same
    refine ⟨_, rfl, x, C, dx, _, rfl, g8.at_, O.cl, no (by decide), g8.lt, ?_⟩
    have g9 := g8.put "editions" (.ref D2)
    refine ⟨_, rfl, D1, rfl, ⟨_, lstAt (g9.l 0 rfl)⟩, fun D3 hD3 => lc_stop ⟨_, lstAt ((g9.new (Same.upd hD3)).l 0 rfl), Nat.le_refl _⟩ ?_⟩
    have g10 := (g9.new (Same.upd hD3)).add (p := D3) upd_same
    refine ⟨_, rfl, x, C, dx, _, rfl, g10.at_, O.cl, no (by decide), g10.lt, ?_⟩
    have g11 := g10.put "least" (.ref D3)
    -- told
    refine ⟨_, rfl, x, C, dx, _, _, rfl, g11.at_, O.cl, no (by decide), (by repeat (first | (rw [lookup_putF, if_pos rfl]; done) | rw [lookup_putF, if_neg (by decide)])), D2, rfl, ⟨_, lstAt (g11.l 1 rfl)⟩, fun D4 hD4 => lc_stop ⟨_, lstAt ((g11.new (Same.upd hD4)).l 1 rfl), Nat.le_refl _⟩ ?_⟩
    have g12 := (g11.new (Same.upd hD4)).add (p := D4) upd_same
    refine ⟨_, rfl, st, CSi, dS, fs, pc, rfl, g12.sx _ _ hne hst, OS.cl, OS.no _ (by decide), hpc, D4, pc, rfl, upd_same, fun H2 p s2 _ hp => ?_⟩
    have g13 := (g12.new s2).add hp
    refine ⟨_, rfl, rfl, _, rfl, ite_f (by intro z; cases z) ⟨_, rfl, ?_⟩⟩
    -- self.contents
    refine ⟨_, rfl, x, C, dx, _, _, rfl, g13.at_, O.cl, no (by decide), (by repeat (first | (rw [lookup_putF, if_pos rfl]; done) | rw [lookup_putF, if_neg (by decide)])), _, rfl, D2, p, _, _, rfl, .inl ⟨lstAt (g13.l 1 rfl), lstAt hp, fun D5 hD5 => dc_stop ⟨_, _, lstAt ((g13.new (Same.upd hD5)).l 1 rfl), lstAt (Same.upd hD5 _ _ hp), .inl (Nat.le_refl _)⟩ ?_⟩⟩
    have g14 := g13.new (Same.upd (o := .dK []) hD5)
    refine ⟨_, rfl, x, C, dx, _, rfl, g14.at_, O.cl, no (by decide), g14.lt, ?_⟩
    have g15 := g14.put "contents" (.ref D5)
    refine ⟨_, rfl, rfl, _, rfl, x, C, dx, _, rfl, g15.at_, O.cl, no (by decide), g15.lt, ?_⟩
    have g16 := g15.put "fits" (.bl (!decide (V.ref p = V.non)))
    exact h _ D2 g16.sx ⟨_, _, g16.at_, (by repeat (first | (rw [lookup_putF, if_pos rfl]; done) | rw [lookup_putF, if_neg (by decide)])), g16.l 1 rfl⟩
end
end Sps
set_option Elab.async false
set_option linter.all false
set_option maxRecDepth 100000
set_option maxHeartbeats 4000000
/-! Sites, asks, states. -/
namespace Sps
open PySem PySem.Spec PyProof.Rows L2
/-! ### a dict comprehension that is given a name -/
section
variable {X : Cx}
theorem sw_trueD {kx vx : Expr} {gs : List Comprehension} {scope : Scope} {pos py : Pos} {y : Str} {l : Nat} {env : Env} (hk : env.scope.kind = .function) (hy : env.scope.names.lookup y = some .local) (hl : (py.line == pos.line) = true)
    (ha : (scope.names.any fun (n, k) => n == y && (k == .local || k == .cell)) = false) : swapsWith (.DictComp kx vx gs scope pos) (some (.Name y py)) l env = pure true := by
  have ky : env.kindOf y = some .local := hy
  have hb : env.blockKind = .function := by unfold Env.blockKind; rw [hk]; rfl
  unfold swapsWith
  simp only [hb, ky, ha, Expr.pos, hl]
  rfl
theorem ps_setDc {i : Nat} {y : Str} {py : Pos} {kx vx tg iter : Expr} {ifs : List Expr} {scope : Scope} {own : List (Str × Nat)} {pos spos : Pos} {wi : TI} {g : TG} {tt : TT} {tk tv : TE} (hc : X.calm = true) (hN : X.N.Nodup) (hy : X.N[i]? = some y) (hyl : X.env.scope.names.lookup y = some .local)
    (hsw : swapsWith (.DictComp kx vx [⟨tg, iter, ifs, 0⟩] scope pos) (some (.Name y py)) spos.line X.env = pure true) (hi : PI X tg iter wi) (ok : BlkOk X.N X.env.scope scope own)
    (hg : ∀ (s : Shared) (H : Hp) (C : Addr) (cl : List (Str × Addr)) (fp : List Addr), PG (X.blk s H scope (compEnvC scope cl C X.env) fp) tg g) (ht : ∀ (s : Shared) (H : Hp) (C : Addr) (cl : List (Str × Addr)) (fp : List Addr), PTs (X.blk s H scope (compEnvC scope cl C X.env) fp) ifs tt)
    (hk : ∀ (s : Shared) (H : Hp) (C : Addr) (cl : List (Str × Addr)) (fp : List Addr), PE (X.blk s H scope (compEnvC scope cl C X.env) fp) kx tk)
    (he : ∀ (s : Shared) (H : Hp) (C : Addr) (cl : List (Str × Addr)) (fp : List Addr), PE (X.blk s H scope (compEnvC scope cl C X.env) fp) vx tv) (hs : ∀ x, foldedSetIterable iter X.env x = pure x := by intro _; rfl) :
    PS X (.Assign [.Name y py] (.DictComp kx vx [⟨tg, iter, ifs, 0⟩] scope pos) spos) (tAsg (tDc wi g tt tk tv (own.map (·.2))) (gName i)) := by
  refine ⟨fun pins s σ H D I h => ?_⟩
  rw [exec_Assign_Name_used _ _ _ _ hsw]
  refine wpAny_bind (wpAny_standAt (wpAny_bind ?_))
  show wpAny _ X.A (do let _ ← comprehension (.DictComp kx vx [⟨tg, iter, ifs, 0⟩] scope pos) scope X.env (firstIterPos [⟨tg, iter, ifs, 0⟩] pos) newDict false (eval iter X.env) (some (assign (.Name y py) X.env))) _ _ s
  have h : tDc wi g tt tk tv (own.map (·.2)) σ H (fun x H1 => gName i x σ H1 D.nx) := h
  refine wpAny_bind (thn (dc_core (Qf := fun _ s' => SP X pins D .next s') hc hN I hi ok hg ht hk he hs h fun L C s' m H' I' q hn f => ?_) fun _ s' hq => wpAny_pure (wpAny_pure hq))
  show wpAny _ _ (assign (.Name y py) X.env (.ref L)) _ _ _
  refine wpAny_assign_Name (store_ok2 (v := V.ref L) I' hN hy (.inl hyl) rfl (fun s2 I2 ⟨a, sb, ha⟩ => ?_) (.inr hyl))
  obtain ⟨f0, f1, f2, f3, f4, f5⟩ := f
  have haC : C ≠ a := by
    rcases ha with z | z
    · rw [z]; exact f1
    · exact fun e => f4 y a z e.symm
  refine ⟨m, hn.sameBut sb haC, fun h3 sb3 => ?_⟩
  exact ⟨_, H', I2.turned (t' := s2.toks) (fun b o hb e => (sb3.2 b hb).trans e) f0 f1 f3 f4 f5, q⟩
theorem dc_it {J : It} {n : Nat} {G : Hp → Prop} {Y : Nat → Hp → V → Hp → Prop} (w : Walk J n G Y) {g : TG} {tt : TT} {tk tv : TE} {vs : List Nat} {σ : L2.St} {H1 : Hp} {D : Addr} {Qd : Hp → Prop} (Pv : Nat → Hp → Prop) (h0 : Pv 0 (L2.upd H1 D (.dK []))) (hG : ∀ i H, i ≤ n → Pv i H → G H)
    (hs : ∀ i x H H', i < n → Pv i H → Y i H x H' → g x (wipe σ vs) H' fun σ2 H2 => wipe σ2 vs = wipe σ vs ∧ tt σ2 H2 fun b H3 =>
      if b = true then tk σ2 H3 fun y H4 => tv σ2 H4 fun z H5 => ∃ kvs k, y = kV k ∧ H5 D = some (.dK kvs) ∧ kvs.length < sizeLine ∧ Pv (i + 1) (L2.upd H5 D (.dK (putK kvs k z))) else Pv (i + 1) H3) (hd : ∀ H, Pv n H → Qd H) :
    ∃ W : Nat → Nat → Hp → Prop, (∃ m, W 0 m (L2.upd H1 D (.dK []))) ∧ ∀ i m H, W i m H →
      (J.stop i H ∧ Qd H) ∨ (J.go i H ∧ ∃ Nx : Hp → Prop, (∀ H', Nx H' → ∃ m', m' < m ∧ W (i + 1) m' H') ∧ ∀ x H', J.yld i H x H' → g x (wipe σ vs) H' fun σ2 H2 => wipe σ2 vs = wipe σ vs ∧ tt σ2 H2 fun b H3 =>
        if b = true then tk σ2 H3 fun y H4 => tv σ2 H4 fun z H5 => ∃ kvs k, y = kV k ∧ H5 D = some (.dK kvs) ∧ kvs.length < sizeLine ∧ Nx (L2.upd H5 D (.dK (putK kvs k z))) else Nx H3) := by
  refine ⟨fun i m H => m = n - i ∧ i ≤ n ∧ Pv i H, ⟨n, by simp, Nat.zero_le _, h0⟩, ?_⟩
  rintro i m H ⟨rfl, hi, p⟩
  have q := hG i H hi p
  by_cases hlt : i < n
  · refine .inr ⟨w.goes i H hlt q, Pv (i + 1), fun H' p' => ⟨n - (i + 1), by omega, rfl, hlt, p'⟩, fun x H' y => hs i x H H' hlt p (w.yields i H x H' hlt q y)⟩
  · have e : i = n := by omega
    subst e
    exact .inl ⟨w.stops H q, hd H p⟩
end
/-! ### fields by names -/
def Has (fs l : List (Str × V)) : Prop := ∀ p ∈ l, fs.lookup p.1 = some p.2
theorem Has.put {fs l : List (Str × V)} (h : Has fs l) (f : Str) (y : V) (n : (l.map (·.1)).all (fun k => decide (k ≠ f)) = true) : Has (putF f y fs) ((f, y) :: l) := fun p m => by
  rw [lookup_putF]
  rcases List.mem_cons.mp m with e | m
  · rw [e, if_pos rfl]
  · rw [if_neg (of_decide_eq_true (List.all_eq_true.mp n p.1 (List.mem_map.mpr ⟨p, m, rfl⟩)))]
    exact h p m
theorem Has.at_ {fs l : List (Str × V)} (h : Has fs l) (i : Nat) {k : Str} {v : V} (e : l[i]? = some (k, v)) : fs.lookup k = some v := h (k, v) (List.mem_of_getElem? e)
/-- a new instance at x as its fields come -/
structure Sf (H0 H : Hp) (x C dx : Addr) (fs l : List (Str × V)) : Prop where
  sx : SameX x H0 H
  at_ : H x = some (.ins C dx fs)
  len : fs.length ≤ l.length
  has : Has fs l
theorem Sf.nil {H : Hp} {x C dx : Addr} (h : H x = some (.ins C dx [])) : Sf H H x C dx [] [] := ⟨SameX.refl H x, h, Nat.le_refl _, fun _ m => nomatch m⟩
theorem Sf.new {H0 H H' : Hp} {x C dx : Addr} {fs l : List (Str × V)} (g : Sf H0 H x C dx fs l) (s : Same H H') : Sf H0 H' x C dx fs l := ⟨g.sx.trans (Same.x s x), s _ _ g.at_, g.len, g.has⟩
theorem Sf.put {H0 H : Hp} {x C dx : Addr} {fs l : List (Str × V)} (g : Sf H0 H x C dx fs l) (f : Str) (y : V) (n : (l.map (·.1)).all (fun k => decide (k ≠ f)) = true) : Sf H0 (L2.upd H x (.ins C dx (putF f y fs))) x C dx (putF f y fs) ((f, y) :: l) :=
  ⟨g.sx.trans SameX.upd, upd_same, Nat.le_trans (length_putF _ _ _) (Nat.succ_le_succ g.len), g.has.put f y n⟩
theorem Sf.lt {H0 H : Hp} {x C dx : Addr} {fs l : List (Str × V)} (g : Sf H0 H x C dx fs l) (hn : decide (l.length < 1000) = true) : fs.length < 1000 := Nat.lt_of_le_of_lt g.len (of_decide_eq_true hn)
/-- at x an instance with (at least) these fields -/
def IsO (C : Addr) (H : Hp) (x : Addr) (l : List (Str × V)) : Prop := ∃ dx fs, H x = some (.ins C dx fs) ∧ fs.length ≤ l.length ∧ Has fs l
theorem IsO.same {C : Addr} {H H' : Hp} {x : Addr} {l : List (Str × V)} (h : IsO C H x l) (s : Same H H') : IsO C H' x l := let ⟨dx, fs, e, k, q⟩ := h; ⟨dx, fs, s _ _ e, k, q⟩
theorem Sf.o {H0 H : Hp} {x C dx : Addr} {fs l : List (Str × V)} (g : Sf H0 H x C dx fs l) : IsO C H x l := ⟨dx, fs, g.at_, g.len, g.has⟩
section
variable {P : Program} {w : World} {K : PySem.W.Frag} {mg : Str → Option Value} {base : Heap}
/-! ### Site -/
def spSite (C : Addr) : Sp := fun vs H Q _ => ∃ (x dx a : Addr) (pc : V) (rs : List Cp), vs = [.ref x, .ref a, pc] ∧ H x = some (.ins C dx []) ∧ RowsAt H a rs ∧ rs.length ≤ 6 ∧ goodB rs = true ∧
  ∀ H' d, SameX x H H' → AboveAt H' d rs → IsO C H' x [("above", .ref d), ("piece", pc), ("copies", .ref a)] → Q .non H'
theorem scSi : FnScope ["self", "copies", "piece"] ["self", "copies", "piece"] (defScope s_Site___init__) := ⟨rfl, rfl, rfl, by decide +kernel, rfl, by decide +kernel, by decide +kernel⟩
theorem ok_site {f C g : Addr} {fd fdG : FuncData} (F : Fun K "__init__" "Site.__init__" s_Site___init__ f fd) (O : OC K mg "Site" C f fSi) (G : FnOk P w K mg base CX0 1 g fdG ["copies"] spAbove) (mgG : mg "above_of" = some (.ref g)) (kG : PySem.W.keepIn K (.ref g) = true) (bG : Binds K fdG ["copies"] []) :
    FnOk P w K mg base CX0 2 f fd ["self", "copies", "piece"] (spSite C) := by
  refine F.ok scSi (fun vs H Q E h => ?_) (fun cdv A outer s H vs Q E hr h => ?_)
  · obtain ⟨_, _, _, _, _, rfl, _⟩ := h
    rfl
  · obtain ⟨x, dx, a, pc, rs, rfl, hx, hR, h6, hg, h⟩ := h
    refine ⟨_, pss_cons (ps_fld (pv 0) (pv 1) rfl) (pss_cons (ps_fld (pv 0) (pv 2) rfl) (pss_one (ps_fld (pv 0) (pe_call G hr rfl mgG kG bG .nil pass0 (pa_cons (pv 1) pa_nil)) rfl))), ?_⟩
    have g0 := Sf.nil hx
    have no : ∀ {k : Str}, k ∈ fSi → NoAttr K C k := fun {k} m => O.no k m
    refine ⟨_, rfl, _, rfl, x, C, dx, _, rfl, g0.at_, O.cl, no (by decide), g0.lt (by rfl), ?_⟩
    have g1 := g0.put "copies" (.ref a) (by rfl)
    refine ⟨_, rfl, _, rfl, x, C, dx, _, rfl, g1.at_, O.cl, no (by decide), g1.lt (by rfl), ?_⟩
    have g2 := g1.put "piece" pc (by rfl)
    -- the rows stand: no row is the instance
    have hR2 : RowsAt (L2.upd (L2.upd H x (.ins C dx (putF "copies" (.ref a) []))) x (.ins C dx (putF "piece" pc (putF "copies" (.ref a) [])))) a rs := by
      obtain ⟨o, ts, h1, h2, h3⟩ := hR
      refine ⟨o, ts, g2.sx _ _ (ne_of h1 hx (by intro z; cases z)) h1, h2, paired_imp (fun t r e => g2.sx _ _ (ne_of e hx (by intro z; cases z)) e) h3⟩
    refine ⟨_, rfl, a, rs, rfl, hR2, h6, hg, fun H1 d s1 hd0 hd => ?_⟩
    have g3 := g2.new s1
    refine ⟨_, rfl, x, C, dx, _, rfl, g3.at_, O.cl, no (by decide), g3.lt (by rfl), ?_⟩
    have g4 := g3.put "above" (.ref d) (by rfl)
    refine h _ d g4.sx ?_ g4.o
    obtain ⟨us, h1, h2, h3⟩ := hd
    exact ⟨us, h1, by rw [upd_ne (ne_of h2 g3.at_ (by intro z; cases z))]; exact h2, paired_imp (fun u r e => by rw [upd_ne (ne_of e g3.at_ (by intro z; cases z))]; exact e) h3⟩
/-! ### Ask -/
def spAskI (C : Addr) : Sp := fun vs H Q _ => ∃ (x dx : Addr) (a b c d : V), vs = [.ref x, a, b, c, d] ∧ H x = some (.ins C dx []) ∧ ∀ H', SameX x H H' → Q .non H'
theorem scAs : FnScope ["self", "source", "sent", "only", "spans"] ["self", "source", "sent", "only", "spans"] (defScope s_Ask___init__) := ⟨rfl, rfl, rfl, by decide +kernel, rfl, by decide +kernel, by decide +kernel⟩
theorem ok_askI {f C : Addr} {fd : FuncData} (F : Fun K "__init__" "Ask.__init__" s_Ask___init__ f fd) (O : OC K mg "Ask" C f ["source", "sent", "only", "spans"]) : FnOk P w K mg base CX0 1 f fd ["self", "source", "sent", "only", "spans"] (spAskI C) := by
  refine F.ok scAs (fun vs H Q E h => ?_) (fun cdv A outer s H vs Q E hr h => ?_)
  · obtain ⟨_, _, _, _, _, _, rfl, _⟩ := h
    rfl
  · obtain ⟨x, dx, a, b, c, d, rfl, hx, h⟩ := h
    refine ⟨_, pss_cons (ps_fld (pv 0) (pv 1) rfl) (pss_cons (ps_fld (pv 0) (pv 2) rfl) (pss_cons (ps_fld (pv 0) (pv 3) rfl) (pss_one (ps_fld (pv 0) (pv 4) rfl)))), ?_⟩
    have no : ∀ {k : Str}, k ∈ (["source", "sent", "only", "spans"] : List Str) → NoAttr K C k := fun {k} m => O.no k m
    have g0 := Sf.nil hx
    refine ⟨_, rfl, _, rfl, x, C, dx, _, rfl, g0.at_, O.cl, no (by decide), g0.lt (by rfl), ?_⟩
    have g1 := g0.put "source" a (by rfl)
    refine ⟨_, rfl, _, rfl, x, C, dx, _, rfl, g1.at_, O.cl, no (by decide), g1.lt (by rfl), ?_⟩
    have g2 := g1.put "sent" b (by rfl)
    refine ⟨_, rfl, _, rfl, x, C, dx, _, rfl, g2.at_, O.cl, no (by decide), g2.lt (by rfl), ?_⟩
    have g3 := g2.put "only" c (by rfl)
    refine ⟨_, rfl, _, rfl, x, C, dx, _, rfl, g3.at_, O.cl, no (by decide), g3.lt (by rfl), ?_⟩
    exact h _ (g3.put "spans" d (by rfl)).sx
/-! ### State -/
abbrev fSta : List Str := ["site", "time", "upcoming", "asks", "told", "gone", "picture"]
structure StV where
  site : V
  time : Int
  up : Int
  asks : V
  told : V
  gone : V
  pic : V
def StV.l (z : StV) : List (Str × V) := [("picture", z.pic), ("gone", z.gone), ("told", z.told), ("asks", z.asks), ("upcoming", .int z.up), ("time", .int z.time), ("site", z.site)]
def spState (C : Addr) : Sp := fun vs H Q _ => ∃ (x dx : Addr) (z : StV), vs = [.ref x, z.site, .int z.time, .int z.up, z.asks, z.told, z.gone, z.pic] ∧ H x = some (.ins C dx []) ∧ ∀ H', SameX x H H' → IsO C H' x z.l → Q .non H'
abbrev pSta : List Str := ["self", "site", "time", "upcoming", "asks", "told", "gone", "picture"]
theorem scSta : FnScope pSta pSta (defScope s_State___init__) := ⟨rfl, rfl, rfl, by decide +kernel, rfl, by decide +kernel, by decide +kernel⟩
theorem ok_state {f C : Addr} {fd : FuncData} (F : Fun K "__init__" "State.__init__" s_State___init__ f fd) (O : OC K mg "State" C f fSta) : FnOk P w K mg base CX0 1 f fd pSta (spState C) := by
  refine F.ok scSta (fun vs H Q E h => ?_) (fun cdv A outer s H vs Q E hr h => ?_)
  · obtain ⟨_, _, _, rfl, _⟩ := h
    rfl
  · obtain ⟨x, dx, z, rfl, hx, h⟩ := h
    refine ⟨_, pss_cons (ps_fld (pv 0) (pv 1) rfl) (pss_cons (ps_fld (pv 0) (pv 2) rfl) (pss_cons (ps_fld (pv 0) (pv 3) rfl) (pss_cons (ps_fld (pv 0) (pv 4) rfl) (pss_cons (ps_fld (pv 0) (pv 5) rfl) (pss_cons (ps_fld (pv 0) (pv 6) rfl) (pss_one (ps_fld (pv 0) (pv 7) rfl))))))), ?_⟩
    have no : ∀ {k : Str}, k ∈ fSta → NoAttr K C k := fun {k} m => O.no k m
    have g0 := Sf.nil hx
    refine ⟨_, rfl, _, rfl, x, C, dx, _, rfl, g0.at_, O.cl, no (by decide), g0.lt (by rfl), ?_⟩
    have g1 := g0.put "site" z.site (by rfl)
    refine ⟨_, rfl, _, rfl, x, C, dx, _, rfl, g1.at_, O.cl, no (by decide), g1.lt (by rfl), ?_⟩
    have g2 := g1.put "time" (.int z.time) (by rfl)
    refine ⟨_, rfl, _, rfl, x, C, dx, _, rfl, g2.at_, O.cl, no (by decide), g2.lt (by rfl), ?_⟩
    have g3 := g2.put "upcoming" (.int z.up) (by rfl)
    refine ⟨_, rfl, _, rfl, x, C, dx, _, rfl, g3.at_, O.cl, no (by decide), g3.lt (by rfl), ?_⟩
    have g4 := g3.put "asks" z.asks (by rfl)
    refine ⟨_, rfl, _, rfl, x, C, dx, _, rfl, g4.at_, O.cl, no (by decide), g4.lt (by rfl), ?_⟩
    have g5 := g4.put "told" z.told (by rfl)
    refine ⟨_, rfl, _, rfl, x, C, dx, _, rfl, g5.at_, O.cl, no (by decide), g5.lt (by rfl), ?_⟩
    have g6 := g5.put "gone" z.gone (by rfl)
    refine ⟨_, rfl, _, rfl, x, C, dx, _, rfl, g6.at_, O.cl, no (by decide), g6.lt (by rfl), ?_⟩
    have g7 := g6.put "picture" z.pic (by rfl)
    exact h _ g7.sx g7.o
/-- State(..): a new one -/
theorem mkSt {C : Addr} {H : Hp} {y dy : Addr} {z : StV} {Q : VK} {E : XK} (hy : H y = none) (hdy : H dy = none) (k : ∀ H', Same H H' → IsO C H' y z.l → Q (.ref y) H') :
    spState C [.ref y, z.site, .int z.time, .int z.up, z.asks, z.told, z.gone, z.pic] (L2.upd (L2.upd H dy (.own y)) y (.ins C dy [])) (fun v H2 => v = .non ∧ Q (.ref y) H2) E :=
  ⟨y, dy, z, rfl, upd_same, fun H' s o => ⟨rfl, k H' (madeSame hy hdy s) o⟩⟩
def spLater (C : Addr) : Sp := fun vs H Q _ => ∃ (s : Addr) (n : Int) (z : StV), vs = [.ref s, .int n] ∧ IsO C H s z.l ∧ ∀ H' y, Same H H' → H y = none → IsO C H' y { z with time := z.time + n }.l → Q (.ref y) H'
theorem scLa : FnScope ["state", "many"] ["state", "many"] (defScope s_later) := ⟨rfl, rfl, rfl, by decide +kernel, rfl, by decide +kernel, by decide +kernel⟩
theorem ok_later {f C fS : Addr} {fd fdS : FuncData} (F : Fun K "later" "later" s_later f fd) (O : OC K mg "State" C fS fSta) (G : FnOk P w K mg base CX0 1 fS fdS pSta (spState C)) (b : Binds K fdS pSta []) : FnOk P w K mg base CX0 3 f fd ["state", "many"] (spLater C) := by
  refine F.ok scLa (fun vs H Q E h => ?_) (fun cdv A outer s H vs Q E hr h => ?_)
  · obtain ⟨_, _, _, rfl, _⟩ := h
    rfl
  · obtain ⟨s0, n, z, rfl, ⟨dx, fs, hs, hl, hh⟩, h⟩ := h
    have no : ∀ {k : Str}, k ∈ fSta → NoAttr K C k := fun {k} m => O.no k m
    refine ⟨_, pss_one (ps_ret (pe_make O.make G hr rfl O.mgC b .nil pass0 (pa_cons (pe_fld (pv 0) rfl) (pa_cons (pe_op op_add (pe_fld (pv 0) rfl) (pv 1)) (pa_cons (pe_fld (pv 0) rfl) (pa_cons (pe_fld (pv 0) rfl) (pa_cons (pe_fld (pv 0) rfl) (pa_cons (pe_fld (pv 0) rfl) (pa_cons (pe_fld (pv 0) rfl) pa_nil))))))))), ?_⟩
    refine ⟨_, rfl, s0, C, dx, fs, _, rfl, hs, O.cl, no (by decide), hh.at_ 6 rfl, ?_⟩
    refine ⟨_, rfl, s0, C, dx, fs, _, rfl, hs, O.cl, no (by decide), hh.at_ 5 rfl, _, rfl, _, _, rfl, rfl, ?_⟩
    refine ⟨_, rfl, s0, C, dx, fs, _, rfl, hs, O.cl, no (by decide), hh.at_ 4 rfl, ?_⟩
    refine ⟨_, rfl, s0, C, dx, fs, _, rfl, hs, O.cl, no (by decide), hh.at_ 3 rfl, ?_⟩
    refine ⟨_, rfl, s0, C, dx, fs, _, rfl, hs, O.cl, no (by decide), hh.at_ 2 rfl, ?_⟩
    refine ⟨_, rfl, s0, C, dx, fs, _, rfl, hs, O.cl, no (by decide), hh.at_ 1 rfl, ?_⟩
    refine ⟨_, rfl, s0, C, dx, fs, _, rfl, hs, O.cl, no (by decide), hh.at_ 0 rfl, ?_⟩
    exact fun y dy hy hdy _ => mkSt (z := { z with time := z.time + n }) hy hdy fun H' s' o => h H' y s' hy o
def spWith (C : Addr) : Sp := fun vs H Q _ => ∃ (s : Addr) (u : Int) (a : V) (z : StV), vs = [.ref s, .int u, a] ∧ IsO C H s z.l ∧ ∀ H' y, Same H H' → H y = none → IsO C H' y { z with up := u, asks := a }.l → Q (.ref y) H'
theorem scWi : FnScope ["state", "upcoming", "asks"] ["state", "upcoming", "asks"] (defScope s__with_asks) := ⟨rfl, rfl, rfl, by decide +kernel, rfl, by decide +kernel, by decide +kernel⟩
theorem ok_with {f C fS : Addr} {fd fdS : FuncData} (F : Fun K "_with_asks" "_with_asks" s__with_asks f fd) (O : OC K mg "State" C fS fSta) (G : FnOk P w K mg base CX0 1 fS fdS pSta (spState C)) (b : Binds K fdS pSta []) : FnOk P w K mg base CX0 3 f fd ["state", "upcoming", "asks"] (spWith C) := by
  refine F.ok scWi (fun vs H Q E h => ?_) (fun cdv A outer s H vs Q E hr h => ?_)
  · obtain ⟨_, _, _, _, rfl, _⟩ := h
    rfl
  · obtain ⟨s0, u, a, z, rfl, ⟨dx, fs, hs, hl, hh⟩, h⟩ := h
    have no : ∀ {k : Str}, k ∈ fSta → NoAttr K C k := fun {k} m => O.no k m
    refine ⟨_, pss_one (ps_ret (pe_make O.make G hr rfl O.mgC b .nil pass0 (pa_cons (pe_fld (pv 0) rfl) (pa_cons (pe_fld (pv 0) rfl) (pa_cons (pv 1) (pa_cons (pv 2) (pa_cons (pe_fld (pv 0) rfl) (pa_cons (pe_fld (pv 0) rfl) (pa_cons (pe_fld (pv 0) rfl) pa_nil))))))))), ?_⟩
    refine ⟨_, rfl, s0, C, dx, fs, _, rfl, hs, O.cl, no (by decide), hh.at_ 6 rfl, ?_⟩
    refine ⟨_, rfl, s0, C, dx, fs, _, rfl, hs, O.cl, no (by decide), hh.at_ 5 rfl, ?_⟩
    refine ⟨_, rfl, _, rfl, ?_⟩
    refine ⟨_, rfl, s0, C, dx, fs, _, rfl, hs, O.cl, no (by decide), hh.at_ 2 rfl, ?_⟩
    refine ⟨_, rfl, s0, C, dx, fs, _, rfl, hs, O.cl, no (by decide), hh.at_ 1 rfl, ?_⟩
    refine ⟨_, rfl, s0, C, dx, fs, _, rfl, hs, O.cl, no (by decide), hh.at_ 0 rfl, ?_⟩
    exact fun y dy hy hdy _ => mkSt (z := { z with up := u, asks := a }) hy hdy fun H' s' o => h H' y s' hy o
end
end Sps
set_option Elab.async false
set_option linter.all false
set_option maxRecDepth 100000
set_option maxHeartbeats 4000000
/-! States made from states. -/
namespace Sps
open PySem PySem.Spec PyProof.Rows L2
def AskAt (H : Hp) (d : Addr) (ns : List Int) : Prop := ∃ kvs : List (Key × V), H d = some (.dK kvs) ∧ kvs.map (·.1) = ns.map Sum.inl
theorem AskAt.same {H H' : Hp} {d : Addr} {ns : List Int} (h : AskAt H d ns) (s : Same H H') : AskAt H' d ns := let ⟨kvs, e, q⟩ := h; ⟨kvs, s _ _ e, q⟩
theorem nodup_inl {ns : List Int} (h : ns.Nodup) : (ns.map (Sum.inl : Int → Key)).Nodup := List.Pairwise.map _ (fun a b q z => q (Sum.inl.inj z)) h
theorem valV_nd : ∀ {kvs : List (Key × V)} {i : Nat} {k : Key} {v : V}, (kvs.map (·.1)).Nodup → kvs[i]? = some (k, v) → valV kvs k = some v
  | [], i, _, _, _, h => by cases h
  | p :: r, 0, k, v, _, h => by
    have e := Option.some.inj h
    rw [e]
    exact valV_pos rfl
  | p :: r, i + 1, k, v, nd, h => by
    have h2 : r[i]? = some (k, v) := h
    rw [List.map_cons, List.nodup_cons] at nd
    rw [valV_neg (show ¬ p.1 = k from fun e => nd.1 (by rw [e]; exact List.mem_map.mpr ⟨_, List.mem_of_getElem? h2, rfl⟩))]
    exact valV_nd nd.2 h2
theorem valV_out {kvs : List (Key × V)} {k : Key} (h : k ∉ kvs.map (·.1)) : valV kvs k = none := by
  induction kvs with
  | nil => rfl
  | cons p r ih =>
    rw [List.map_cons] at h
    rw [valV_neg (fun e => h (by rw [e]; exact List.mem_cons_self))]
    exact ih fun m => h (List.mem_cons_of_mem _ m)
def keepK (n : Int) (kvs : List (Key × V)) : List (Key × V) := kvs.filter fun p => decide (p.1 ≠ Sum.inl n)
theorem keepK_keys {kvs : List (Key × V)} {ns : List Int} (n : Int) (h : kvs.map (·.1) = ns.map Sum.inl) : (keepK n kvs).map (·.1) = (ns.filter fun m => decide (m ≠ n)).map Sum.inl := by
  unfold keepK
  induction kvs generalizing ns with
  | nil =>
    cases ns with
    | nil => rfl
    | cons _ _ => cases h
  | cons p r ih =>
    cases ns with
    | nil => cases h
    | cons m ns =>
      rw [List.map_cons, List.map_cons] at h
      injection h with h1 h2
      have e : decide (p.1 ≠ Sum.inl n) = decide (m ≠ n) := decide_eq_decide.mpr (by rw [h1]; exact ⟨fun q z => q (by rw [z]), fun q z => q (Sum.inl.inj z)⟩)
      rw [List.filter_cons, List.filter_cons, e]
      by_cases q : decide (m ≠ n) = true
      · rw [if_pos q, if_pos q, List.map_cons, List.map_cons, h1, ih h2]
      · rw [if_neg q, if_neg q, ih h2]
section
variable {P : Program} {w : World} {K : PySem.W.Frag} {mg : Str → Option Value} {base : Heap}
def spFirst (C CSi CP : Addr) : Sp := fun vs H Q _ => ∃ (st dS : Addr) (fs : List (Str × V)) (pc : V), vs = [.ref st] ∧ H st = some (.ins CSi dS fs) ∧ fs.lookup ("piece" : Str) = some pc ∧
  ∀ H' y d1 d2 d3 pic e, Same H H' → H y = none → PicAt CP H' pic e → AskAt H' d1 [] → H' d2 = some (.dK []) → IsO C H' y (StV.l ⟨.ref st, 0, 0, .ref d1, .ref d2, .ref d3, .ref pic⟩) → Q (.ref y) H'
theorem scFs : FnScope ["site"] ["site"] (defScope s_first_state) := ⟨rfl, rfl, rfl, by decide +kernel, rfl, by decide +kernel, by decide +kernel⟩
theorem ok_first {f C fS CP fP CSi fSi_ : Addr} {fd fdS fdP : FuncData} (F : Fun K "first_state" "first_state" s_first_state f fd) (O : OC K mg "State" C fS fSta) (G : FnOk P w K mg base CX0 1 fS fdS pSta (spState C)) (b : Binds K fdS pSta [])
    (OP : OC K mg "Picture" CP fP fPi) (GP : FnOk P w K mg base CX0 5 fP fdP ["self", "site", "rows"] (spPic CP CSi fSi_)) (bP : Binds K fdP ["self", "site", "rows"] []) : FnOk P w K mg base CX0 7 f fd ["site"] (spFirst C CSi CP) := by
  refine F.ok scFs (fun vs H Q E h => ?_) (fun cdv A outer s H vs Q E hr h => ?_)
  · obtain ⟨_, _, _, _, rfl, _⟩ := h
    rfl
  · obtain ⟨st, dS, fs, pc, rfl, hst, hpc, h⟩ := h
    have hr2 : Room 2 _ := hr.mono (by decide)
    refine ⟨_, pss_one (ps_ret (pe_make O.make G hr2 rfl O.mgC b .nil pass0 (pa_cons (pv 0) (pa_cons pe_int (pa_cons pe_int (pa_cons pe_dnewK (pa_cons pe_dnewK (pa_cons pe_dnewK
      (pa_cons (pe_make OP.make GP hr rfl OP.mgC bP .nil pass0 (pa_cons (pv 0) (pa_cons (pe_tup pa_nil) pa_nil))) pa_nil))))))))), ?_⟩
    refine ⟨_, rfl, fun d1 hd1 d2 hd2 d3 hd3 => ?_⟩
    have s1 := Same.upd (o := .dK []) hd1
    have s2 := Same.upd' (o := .dK []) s1 hd2
    have s3 := Same.upd' (o := .dK []) s2 hd3
    have e1 : (L2.upd (L2.upd (L2.upd H d1 (.dK [])) d2 (.dK [])) d3 (.dK [])) d1 = some (.dK []) := Same.upd hd3 _ _ (Same.upd hd2 _ _ upd_same)
    have e2 : (L2.upd (L2.upd (L2.upd H d1 (.dK [])) d2 (.dK [])) d3 (.dK [])) d2 = some (.dK []) := Same.upd hd3 _ _ upd_same
    refine ⟨_, rfl, (by show 0 ≤ sizeLine; decide), fun t ht => ?_⟩
    have s4 := Same.upd' (o := .tup []) s3 ht
    intro x dx hx hdx nxd
    have nst := ne_of_none (s4 _ _ hst) hx
    have nst2 := ne_of_none (s4 _ _ hst) hdx
    have ntx := ne_of_none (show (L2.upd _ t (.tup [])) t = some (.tup []) from upd_same) hx
    have ntd := ne_of_none (show (L2.upd _ t (.tup [])) t = some (.tup []) from upd_same) hdx
    refine ⟨x, dx, st, dS, t, fs, pc, rfl, upd_same, by rw [upd_ne nst, upd_ne nst2]; exact s4 _ _ hst, nst, hpc, by rw [upd_ne ntx, upd_ne ntd]; exact upd_same, fun H1 pe s5 hpe => ⟨rfl, ?_⟩⟩
    have sM := madeSame hx hdx s5
    have s6 := s4.trans sM
    intro y dy hy hdy _
    refine mkSt (z := ⟨.ref st, 0, 0, .ref d1, .ref d2, .ref d3, .ref x⟩) hy hdy fun H' s7 o => ?_
    exact h H' y d1 d2 d3 x pe (s6.trans s7) (s6.free hy) (hpe.same s7) ⟨[], s7 _ _ (sM _ _ (Same.upd ht _ _ e1)), rfl⟩ (s7 _ _ (sM _ _ (Same.upd ht _ _ e2))) o
end
end Sps
set_option Elab.async false
set_option linter.all false
set_option maxRecDepth 100000
set_option maxHeartbeats 4000000
/-! Sets of positions as lists of pairs: plain mathematics. -/
namespace Sps
abbrev Pr := Int × Int
def inP (x : Int) (p : Pr) : Prop := p.1 ≤ x ∧ x < p.2
def inS (x : Int) (ps : List Pr) : Prop := ∃ p, p ∈ ps ∧ inP x p
def okP (p : Pr) : Prop := 0 ≤ p.1 ∧ p.1 < p.2 ∧ p.2 ≤ 1000000
/-- each pair is one, they ascend and neither overlap nor touch -/
structure Norm (ps : List Pr) : Prop where
  ok : ∀ p ∈ ps, okP p
  asc : ps.Pairwise fun p q => p.2 < q.1
theorem inS_nil {x : Int} : ¬ inS x [] := fun ⟨_, h, _⟩ => by cases h
theorem inS_cons {x : Int} {p : Pr} {ps : List Pr} : inS x (p :: ps) ↔ inP x p ∨ inS x ps := by
  constructor
  · rintro ⟨q, hq, hx⟩
    rcases List.mem_cons.mp hq with e | h
    · exact .inl (e ▸ hx)
    · exact .inr ⟨q, h, hx⟩
  · rintro (h | ⟨q, hq, hx⟩)
    · exact ⟨p, List.mem_cons_self, h⟩
    · exact ⟨q, List.mem_cons_of_mem _ hq, hx⟩
theorem inS_append {x : Int} {ps qs : List Pr} : inS x (ps ++ qs) ↔ inS x ps ∨ inS x qs := by
  constructor
  · rintro ⟨q, hq, hx⟩
    rcases List.mem_append.mp hq with h | h
    · exact .inl ⟨q, h, hx⟩
    · exact .inr ⟨q, h, hx⟩
  · rintro (⟨q, hq, hx⟩ | ⟨q, hq, hx⟩)
    · exact ⟨q, List.mem_append.mpr (.inl hq), hx⟩
    · exact ⟨q, List.mem_append.mpr (.inr hq), hx⟩
theorem inS_one {x : Int} {p : Pr} : inS x [p] ↔ inP x p := by
  rw [inS_cons]
  exact ⟨fun h => h.elim id fun z => (inS_nil z).elim, .inl⟩
theorem Norm.nil : Norm [] := ⟨fun _ h => (by cases h), List.Pairwise.nil⟩
theorem Norm.tail {p : Pr} {ps : List Pr} (h : Norm (p :: ps)) : Norm ps := ⟨fun q m => h.ok q (List.mem_cons_of_mem _ m), (List.pairwise_cons.mp h.asc).2⟩
theorem Norm.head {p : Pr} {ps : List Pr} (h : Norm (p :: ps)) : ∀ q ∈ ps, p.2 < q.1 := (List.pairwise_cons.mp h.asc).1
theorem Norm.snoc {ps : List Pr} {p : Pr} (h : Norm ps) (hp : okP p) (hl : ∀ q ∈ ps, q.2 < p.1) : Norm (ps ++ [p]) := by
  refine ⟨fun q m => ?_, ?_⟩
  · rcases List.mem_append.mp m with m | m
    · exact h.ok q m
    · rw [List.mem_singleton.mp m]; exact hp
  · refine List.pairwise_append.mpr ⟨h.asc, List.pairwise_singleton _ _, fun a ha b hb => ?_⟩
    rw [List.mem_singleton.mp hb]
    exact hl a ha
/-- two such lists with the same positions are one -/
theorem Norm.uniq : ∀ {ps qs : List Pr}, Norm ps → Norm qs → (∀ x, inS x ps ↔ inS x qs) → ps = qs
  | [], [], _, _, _ => rfl
  | [], q :: qs, _, hq, h => by
    have k := hq.ok q List.mem_cons_self
    exact (inS_nil ((h q.1).mpr (inS_cons.mpr (.inl ⟨Int.le_refl _, k.2.1⟩)))).elim
  | p :: ps, [], hp, _, h => by
    have k := hp.ok p List.mem_cons_self
    exact (inS_nil ((h p.1).mp (inS_cons.mpr (.inl ⟨Int.le_refl _, k.2.1⟩)))).elim
  | p :: ps, q :: qs, hp, hq, h => by
    have kp := hp.ok p List.mem_cons_self
    have kq := hq.ok q List.mem_cons_self
    have lo : ∀ {r : Pr} {rs : List Pr} {x : Int}, Norm (r :: rs) → inS x rs → r.2 < x := fun {r rs x} hn ⟨t, mt, hx⟩ => by
      have a := hn.head t mt
      have b := hx.1
      omega
    have c1 := inS_cons.mp ((h p.1).mp (inS_cons.mpr (.inl ⟨Int.le_refl _, kp.2.1⟩)))
    have c2 := inS_cons.mp ((h q.1).mpr (inS_cons.mpr (.inl ⟨Int.le_refl _, kq.2.1⟩)))
    have e1 : p.1 = q.1 := by
      have a1 : q.1 ≤ p.1 := by
        rcases c1 with c | c
        · exact c.1
        · have := lo hq c; have := kq.2.1; omega
      have a2 : p.1 ≤ q.1 := by
        rcases c2 with c | c
        · exact c.1
        · have := lo hp c; have := kp.2.1; omega
      omega
    -- neither ends ahead of the other one
    have nolt : ∀ {r s : Pr} {rs ss : List Pr}, Norm (r :: rs) → Norm (s :: ss) → (∀ x, inS x (s :: ss) → inS x (r :: rs)) → r.1 = s.1 → ¬ r.2 < s.2 := fun {r s rs ss} hr hs hh e lt => by
      have kr := (hr.ok r List.mem_cons_self).2.1
      have a := hh r.2 (inS_cons.mpr (.inl ⟨by omega, lt⟩))
      rcases inS_cons.mp a with c | c
      · have := c.2; omega
      · have := lo hr c; omega
    have e2 : p.2 = q.2 := by
      have a := nolt hp hq (fun x => (h x).mpr) e1
      have b := nolt hq hp (fun x => (h x).mp) e1.symm
      omega
    have e : p = q := Prod.ext e1 e2
    subst e
    have t : ps = qs := Norm.uniq hp.tail hq.tail fun x => by
      constructor
      · intro hx
        rcases inS_cons.mp ((h x).mp (inS_cons.mpr (.inr hx))) with c | c
        · have := lo hp hx; have := c.2; omega
        · exact c
      · intro hx
        rcases inS_cons.mp ((h x).mpr (inS_cons.mpr (.inr hx))) with c | c
        · have := lo hq hx; have := c.2; omega
        · exact c
    rw [t]

/-! ### one turn of merging: the last one grows, or a new one follows -/
/-- what holds of what was found, when what is left to come begins at z or later -/
structure Mrg (fs pre : List Pr) (z : Int) : Prop where
  norm : Norm fs
  same : ∀ x, inS x fs ↔ inS x pre
  le : ∀ f ∈ fs, f.1 ≤ z
theorem Mrg.start {z : Int} : Mrg [] [] z := ⟨.nil, fun _ => Iff.rfl, fun _ h => by cases h⟩
theorem Mrg.later {fs pre : List Pr} {z z' : Int} (m : Mrg fs pre z) (h : z ≤ z') : Mrg fs pre z' := ⟨m.norm, m.same, fun f hf => Int.le_trans (m.le f hf) h⟩
theorem Mrg.add {fs pre : List Pr} {p : Pr} (m : Mrg fs pre p.1) (hp : okP p) (hl : ∀ f ∈ fs, f.2 < p.1) : Mrg (fs ++ [p]) (pre ++ [p]) p.1 := by
  refine ⟨m.norm.snoc hp hl, fun x => ?_, fun f hf => ?_⟩
  · rw [inS_append, inS_append, m.same x]
  · rcases List.mem_append.mp hf with h | h
    · exact m.le f h
    · rw [List.mem_singleton.mp h]; exact Int.le_refl _
theorem Norm.last_lt {gs : List Pr} {l : Pr} (h : Norm (gs ++ [l])) : ∀ g ∈ gs, g.2 < l.1 := fun g hg => (List.pairwise_append.mp h.asc).2.2 g hg l (List.mem_singleton.mpr rfl)
theorem Norm.init {gs : List Pr} {l : Pr} (h : Norm (gs ++ [l])) : Norm gs := ⟨fun p m => h.ok p (List.mem_append.mpr (.inl m)), (List.pairwise_append.mp h.asc).1⟩
theorem Mrg.grow {gs pre : List Pr} {l p : Pr} (m : Mrg (gs ++ [l]) pre p.1) (hp : okP p) (hl : p.1 ≤ l.2) : Mrg (gs ++ [(l.1, if p.2 > l.2 then p.2 else l.2)]) (pre ++ [p]) p.1 := by
  have kl := m.norm.ok l (List.mem_append.mpr (.inr (List.mem_singleton.mpr rfl)))
  have ll := m.le l (List.mem_append.mpr (.inr (List.mem_singleton.mpr rfl)))
  have e := hp.2.1
  have e3 := hp.2.2
  have k1 := kl.1
  have k2 := kl.2.1
  have k3 := kl.2.2
  have okn : okP (l.1, if p.2 > l.2 then p.2 else l.2) := by
    refine ⟨k1, ?_, ?_⟩
    · show l.1 < (if p.2 > l.2 then p.2 else l.2)
      split <;> omega
    · show (if p.2 > l.2 then p.2 else l.2) ≤ 1000000
      split <;> omega
  refine ⟨m.norm.init.snoc okn m.norm.last_lt, fun x => ?_, fun f hf => ?_⟩
  · rw [inS_append, inS_append, ← m.same x, inS_append, inS_one, inS_one, inS_one]
    unfold inP
    show _ ∨ (l.1 ≤ x ∧ x < (if p.2 > l.2 then p.2 else l.2)) ↔ _
    constructor
    · rintro (h | ⟨h1, h2⟩)
      · exact .inl (.inl h)
      · by_cases c : p.2 > l.2
        · rw [if_pos c] at h2
          by_cases d : x < l.2
          · exact .inl (.inr ⟨h1, d⟩)
          · exact .inr ⟨by omega, h2⟩
        · rw [if_neg c] at h2
          exact .inl (.inr ⟨h1, h2⟩)
    · rintro ((h | ⟨h1, h2⟩) | ⟨h1, h2⟩)
      · exact .inl h
      · exact .inr ⟨h1, by split <;> omega⟩
      · exact .inr ⟨by omega, by split <;> omega⟩
  · rcases List.mem_append.mp hf with h | h
    · exact m.le f (List.mem_append.mpr (.inl h))
    · rw [List.mem_singleton.mp h]; exact ll

/-! ### what is left out -/
structure Gap (gs pre : List Pr) (b : Int) : Prop where
  norm : Norm gs
  lo : 0 ≤ b
  hi : b ≤ 1000000
  same : ∀ x, inS x gs ↔ (0 ≤ x ∧ x < b) ∧ ¬ inS x pre
  lt : ∀ g ∈ gs, g.2 < b
  pre : ∀ x, inS x pre → x < b
theorem Gap.start : Gap [] [] 0 := by
  refine ⟨.nil, Int.le_refl _, by decide, fun x => ⟨fun h => (inS_nil h).elim, fun h => ?_⟩, fun _ h => (by cases h), fun _ h => (inS_nil h).elim⟩
  have := h.1.1
  have := h.1.2
  omega
theorem Gap.skip {gs pre : List Pr} {p : Pr} {b : Int} (g : Gap gs pre b) (hp : okP p) (he : ¬ b < p.1) (hb : b ≤ p.1) : Gap gs (pre ++ [p]) p.2 := by
  have h1 := hp.2.1
  have h2 := hp.2.2
  have h3 := hp.1
  refine ⟨g.norm, by omega, h2, fun x => ?_, fun f hf => by have := g.lt f hf; omega, fun x hx => ?_⟩
  · rw [inS_append, inS_one, g.same x]
    unfold inP
    constructor
    · rintro ⟨⟨a, c⟩, d⟩
      exact ⟨⟨a, by omega⟩, fun z => z.elim d fun z => by omega⟩
    · rintro ⟨⟨a, c⟩, d⟩
      refine ⟨⟨a, ?_⟩, fun z => d (.inl z)⟩
      by_cases q : x < b
      · exact q
      · exact (d (.inr ⟨by omega, c⟩)).elim
  · rcases inS_append.mp hx with h | h
    · have := g.pre x h; omega
    · exact (inS_one.mp h).2
theorem Gap.push {gs pre : List Pr} {p : Pr} {b : Int} (g : Gap gs pre b) (hp : okP p) (hb : b < p.1) : Gap (gs ++ [(b, p.1)]) (pre ++ [p]) p.2 := by
  have h1 := hp.2.1
  have h2 := hp.2.2
  have h3 := g.lo
  refine ⟨g.norm.snoc ⟨g.lo, hb, by show p.1 ≤ 1000000; omega⟩ g.lt, by omega, h2, fun x => ?_, fun f hf => ?_, fun x hx => ?_⟩
  · rw [inS_append, inS_one, inS_append, inS_one, g.same x]
    unfold inP
    show _ ∨ (b ≤ x ∧ x < p.1) ↔ _
    constructor
    · rintro (⟨⟨a, c⟩, d⟩ | ⟨a, c⟩)
      · exact ⟨⟨a, by omega⟩, fun z => z.elim d fun z => by omega⟩
      · refine ⟨⟨by omega, by omega⟩, fun z => z.elim (fun z => ?_) fun z => by omega⟩
        have := g.pre x z
        omega
    · rintro ⟨⟨a, c⟩, d⟩
      by_cases q : x < b
      · exact .inl ⟨⟨a, q⟩, fun z => d (.inl z)⟩
      · refine .inr ⟨by omega, ?_⟩
        by_cases q2 : x < p.1
        · exact q2
        · exact (d (.inr ⟨by omega, c⟩)).elim
  · rcases List.mem_append.mp hf with h | h
    · have := g.lt f h; omega
    · rw [List.mem_singleton.mp h]; exact h1
  · rcases inS_append.mp hx with h | h
    · have := g.pre x h; omega
    · exact (inS_one.mp h).2
theorem Gap.done {gs pre : List Pr} {b : Int} (g : Gap gs pre b) (hb : ¬ b < 1000000) : ∀ x, inS x gs ↔ (0 ≤ x ∧ x < 1000000) ∧ ¬ inS x pre := fun x => by
  have e : b = 1000000 := by have := g.hi; omega
  rw [g.same x, e]
theorem Gap.last {gs pre : List Pr} {b : Int} (g : Gap gs pre b) (hb : b < 1000000) : Norm (gs ++ [(b, 1000000)]) ∧ ∀ x, inS x (gs ++ [(b, 1000000)]) ↔ (0 ≤ x ∧ x < 1000000) ∧ ¬ inS x pre := by
  refine ⟨g.norm.snoc ⟨g.lo, hb, Int.le_refl _⟩ g.lt, fun x => ?_⟩
  rw [inS_append, inS_one, g.same x]
  unfold inP
  show _ ∨ (b ≤ x ∧ x < 1000000) ↔ _
  have h3 := g.lo
  constructor
  · rintro (⟨⟨a, c⟩, d⟩ | ⟨a, c⟩)
    · exact ⟨⟨a, by omega⟩, d⟩
    · refine ⟨⟨by omega, c⟩, fun z => ?_⟩
      have := g.pre x z
      omega
  · rintro ⟨⟨a, c⟩, d⟩
    by_cases q : x < b
    · exact .inl ⟨⟨a, q⟩, d⟩
    · exact .inr ⟨by omega, c⟩
theorem Norm.inR {ps : List Pr} (h : Norm ps) {x : Int} (hx : inS x ps) : 0 ≤ x ∧ x < 1000000 := by
  obtain ⟨p, hp, h1, h2⟩ := hx
  have := h.ok p hp
  unfold okP at this
  omega

/-! ### how many positions -/
/-- how many of the numbers below n have it -/
def cnt (P : Int → Prop) [DecidablePred P] : Nat → Int
  | 0 => 0
  | n + 1 => cnt P n + if P (n : Int) then 1 else 0
theorem cnt_congr {P R : Int → Prop} [DecidablePred P] [DecidablePred R] : ∀ {n : Nat}, (∀ x : Int, 0 ≤ x → x < n → (P x ↔ R x)) → cnt P n = cnt R n
  | 0, _ => rfl
  | n + 1, h => by
    have ih := cnt_congr (P := P) (R := R) (n := n) fun x h0 h1 => h x h0 (by omega)
    have e := h (n : Int) (by omega) (by omega)
    show cnt P n + _ = cnt R n + _
    rw [ih]
    by_cases c : P (n : Int)
    · rw [if_pos c, if_pos (e.mp c)]
    · rw [if_neg c, if_neg fun z => c (e.mpr z)]
theorem cnt_or_and {P R : Int → Prop} [DecidablePred P] [DecidablePred R] : ∀ n : Nat, cnt (fun x => P x ∨ R x) n + cnt (fun x => P x ∧ R x) n = cnt P n + cnt R n
  | 0 => rfl
  | n + 1 => by
    have ih := cnt_or_and (P := P) (R := R) n
    show (cnt _ n + _) + (cnt _ n + _) = (cnt P n + _) + (cnt R n + _)
    by_cases a : P (n : Int) <;> by_cases b : R (n : Int) <;> simp only [a, b, or_true, true_or, or_self, and_self, and_false, false_and, and_true, true_and, if_true, if_false, or_false, false_or] <;> omega
theorem cnt_sub {P R : Int → Prop} [DecidablePred P] [DecidablePred R] : ∀ n : Nat, cnt (fun x => P x ∧ ¬ R x) n = cnt P n - cnt (fun x => P x ∧ R x) n
  | 0 => rfl
  | n + 1 => by
    have ih := cnt_sub (P := P) (R := R) n
    show cnt _ n + _ = (cnt P n + _) - (cnt _ n + _)
    by_cases a : P (n : Int) <;> by_cases b : R (n : Int) <;> simp only [a, b, not_true, not_false_iff, and_self, and_false, false_and, and_true, true_and, if_true, if_false] <;> omega
theorem cnt_none {P : Int → Prop} [DecidablePred P] : ∀ n : Nat, (∀ x, ¬ P x) → cnt P n = 0
  | 0, _ => rfl
  | n + 1, h => by
    show cnt P n + _ = 0
    rw [cnt_none n h, if_neg (h _)]
    rfl
theorem cnt_iv {a b : Int} (h0 : 0 ≤ a) (h : a ≤ b) : ∀ n : Nat, cnt (fun x => a ≤ x ∧ x < b) n = if (n : Int) ≤ a then 0 else if (n : Int) ≤ b then (n : Int) - a else b - a
  | 0 => by
    show (0 : Int) = _
    rw [if_pos (by omega)]
  | n + 1 => by
    have ih := cnt_iv (a := a) (b := b) h0 h n
    show cnt _ n + _ = _
    rw [ih]
    by_cases c : a ≤ (n : Int) ∧ (n : Int) < b
    · rw [if_pos c]
      split <;> split <;> first | omega | (split <;> first | omega | (split <;> omega))
    · rw [if_neg c]
      split <;> split <;> first | omega | (split <;> first | omega | (split <;> omega))
instance (x : Int) (p : Pr) : Decidable (inP x p) := by unfold inP; infer_instance
instance decS (ps : List Pr) : DecidablePred fun x => inS x ps := fun x => by
  have e : inS x ps ↔ (ps.any fun p => decide (inP x p)) = true := by
    rw [List.any_eq_true]
    exact ⟨fun ⟨p, h1, h2⟩ => ⟨p, h1, decide_eq_true h2⟩, fun ⟨p, h1, h2⟩ => ⟨p, h1, of_decide_eq_true h2⟩⟩
  exact decidable_of_iff _ e.symm
/-- the sum that len takes -/
def size (ps : List Pr) : Int := (ps.map fun p => p.2 - p.1).sum
theorem Norm.size_cnt : ∀ {ps : List Pr}, Norm ps → size ps = cnt (fun x => inS x ps) 1000000
  | [], _ => (cnt_none 1000000 fun x => inS_nil).symm
  | p :: ps, h => by
    have ih := Norm.size_cnt h.tail
    have k := h.ok p List.mem_cons_self
    have k1 := k.1
    have k2 := k.2.1
    have k3 := k.2.2
    have e : cnt (fun x => inS x (p :: ps)) 1000000 = cnt (fun x => (p.1 ≤ x ∧ x < p.2) ∨ inS x ps) 1000000 := cnt_congr fun x _ _ => inS_cons
    have d := cnt_or_and (P := fun x => p.1 ≤ x ∧ x < p.2) (R := fun x => inS x ps) 1000000
    have z : cnt (fun x => (p.1 ≤ x ∧ x < p.2) ∧ inS x ps) 1000000 = 0 := cnt_none _ fun x ⟨hx, q, mq, hq⟩ => by
      have a := h.head q mq
      have b := hq.1
      omega
    have iv := cnt_iv (a := p.1) (b := p.2) k1 (by omega) 1000000
    rw [if_neg (by omega)] at iv
    have iv2 : cnt (fun x => p.1 ≤ x ∧ x < p.2) 1000000 = p.2 - p.1 := by
      rw [iv]
      split <;> omega
    rw [e]
    show (((p :: ps).map fun p => p.2 - p.1).sum) = _
    rw [List.map_cons, List.sum_cons]
    have ih' : (ps.map fun p => p.2 - p.1).sum = cnt (fun x => inS x ps) 1000000 := ih
    omega
theorem cnt_pos {P : Int → Prop} [DecidablePred P] : ∀ n : Nat, 0 ≤ cnt P n ∧ cnt P n ≤ n
  | 0 => ⟨Int.le_refl _, Int.le_refl _⟩
  | n + 1 => by
    have ih := cnt_pos (P := P) n
    show 0 ≤ cnt P n + _ ∧ cnt P n + _ ≤ ((n + 1 : Nat) : Int)
    split <;> omega
theorem Norm.size_ok {ps : List Pr} (h : Norm ps) : 0 ≤ size ps ∧ size ps ≤ 1000000 := by
  rw [h.size_cnt]
  exact cnt_pos 1000000

/-! ### keys without repeats -/
theorem sub_len : ∀ {l m : List Int}, l.Nodup → (∀ x ∈ l, x ∈ m) → l.length ≤ m.length
  | [], m, _, _ => Nat.zero_le _
  | x :: l, m, hn, hs => by
    obtain ⟨h1, h2⟩ := List.nodup_cons.mp hn
    have hx := hs x List.mem_cons_self
    have hl := List.length_erase_of_mem hx
    have hp := List.length_pos_of_mem hx
    have ih := sub_len (l := l) (m := m.erase x) h2 fun y hy => (List.mem_erase_of_ne (fun e => h1 (by rw [← e]; exact hy))).mpr (hs y (List.mem_cons_of_mem _ hy))
    show l.length + 1 ≤ m.length
    omega
/-- as many, and all of the one in the other: the same -/
theorem sub_eq {l m : List Int} (hl : l.Nodup) (hm : m.Nodup) (e : l.length = m.length) (h : ∀ x ∈ l, x ∈ m) : ∀ x ∈ m, x ∈ l := by
  intro x hx
  by_cases c : x ∈ l
  · exact c
  · have h2 := sub_len (l := l) (m := m.erase x) hl fun y hy => (List.mem_erase_of_ne (fun e => c (by rw [← e]; exact hy))).mpr (h y hy)
    have h3 := List.length_erase_of_mem hx
    have h4 := List.length_pos_of_mem hx
    omega
end Sps
set_option Elab.async false
set_option linter.all false
set_option maxRecDepth 100000
set_option maxHeartbeats 4000000
/-! Own errors, checks. -/
namespace Sps
open PySem PySem.Spec PyProof.Rows L2
/-! ### B.__init__(self, ..), B an own class that has ValueError's -/
structure KeC (K : PySem.W.Frag) (C : Addr) : Prop where
  sp : PySem.W.specialIn K (.ref C) "__getattribute__" = some (some (.builtin "type.__getattribute__"))
  ty : PySem.W.typeIn K (.ref C) = some (.type "type")
  rd : PySem.W.readsIn K C (.type "type") = true
  vi : PySem.W.findCls K (.ref C) (.type "type") "__init__" = some (.val (.builtin "ValueError.__init__"))
theorem pe_keinit {X : Cx} {x : Str} {C : Addr} {e : Expr} {es : List Expr} {ta : TA} {p1 p2 pos : Pos} {pl : Sem Bool} (T : KeC X.K C) (hg : Gl X x) (hm : X.mg x = some (.ref C)) (ha : PA X (e :: es) ta) (hdb : (x == ("__debug__" : Str)) = false := by decide)
    (hc : eval (.Call (.Attribute (.Name x p1) "__init__" p2) (e :: es) [] pos) X.env = (do
      let ov ← eval (.Name x p1) X.env
      standAt p2.atName
      let (f, first) ← holding [ov] (getMethod ov "__init__" pl)
      callWith pos f first (backTo pos (starEach (e :: es) X.env)) (backToKw pos (keywordEach [] X.env))) := by rfl)
    (he : starEach (e :: es) X.env = (false, eval e X.env) :: starEach es X.env := by rfl) (hpl : (backTo pos (starEach es X.env)).any (·.1) = false := by rfl) :
    PE X (.Call (.Attribute (.Name x p1) "__init__" p2) (e :: es) [] pos) (tVeI X.K ta) := by
  refine ⟨fun pins s σ H Q I h => ?_⟩
  refine PySem.W.methodCall_KW (ld_glob I hg hm ?_ hdb) hc
  obtain ⟨m, fr⟩ := I.fr
  refine PySem.W.method_of_cls fr I.ok.mod.kin T.sp (PySem.W.cls_val fr I.ok.mod.kin T.ty T.rd T.vi (by decide +kernel) ?_)
  show wpAny _ _ (callWith pos (Value.builtin "ValueError.__init__") [] (backTo pos (starEach (e :: es) X.env)) []) _ _ _
  refine PyProof.Rows.callWith_method1 (thn (ha.run pos pins _ σ H _ (I.tok _) h) fun us s1 ⟨vs, H1, I1, r1, a, C, ws, ev, hl, T, ea, q⟩ => ?_) he hpl
  subst ev
  cases r1 with
  | @cons _ u0 _ ur ra rw' =>
    obtain rfl : u0 = Value.ref a := ra
    have hlen : ur.length ≤ sizeLine := by
      rw [← Paired.length rw', sizeLine_eq]
      omega
    exact oinit_ok T I1 ea hlen fun s' J => ⟨.non, H1, J, rfl, q⟩

section
variable {P : Program} {w : World} {K : PySem.W.Frag} {mg : Str → Option Value} {base : Heap}
/-- what an own error that keeps a value must have -/
structure BadC (K : PySem.W.Frag) (mg : Str → Option Value) (nm : Str) (CB CK fB : Addr) : Prop where
  ox : OexC K CB
  ke : KeC K CK
  mgB : mg nm = some (.ref CB)
  mgK : mg "KeeperError" = some (.ref CK)
  noV : PySem.W.findIn K (.ref CB) "value" = some none
  ini : PySem.W.findIn K (.ref CB) "__init__" = some (some (.ref fB))
  fn : PySem.W.typeIn K (.ref fB) = some (.type "function")
  xf : XfC K CB
def spBadInit (CB : Addr) : Sp := fun vs H Q _ => ∃ (a : Addr) (v : V), vs = [.ref a, v] ∧ H a = some (exo a CB none) ∧ ∀ dx, H dx = none → dx ≠ a → Q .non (L2.upd (L2.upd H dx (exd dx [("value", v)])) a (exo a CB (some dx)))
/-- raise B(v), told at once -/
def mkBad (CB : Addr) (v : V) (E : XK) (H : Hp) : Prop := ∀ (H' : Hp) (d : Addr), Same H H' → H' d = some (.xd [("value", v)]) → E (.ref CB) (some d) H'
theorem sc_BadCopies : FnScope ["self", "value"] ["self", "value"] (defScope s_BadCopies___init__) := ⟨rfl, rfl, rfl, by decide +kernel, rfl, by decide +kernel, by decide +kernel⟩
theorem ok_BadCopies {f CB CK fB : Addr} {fd : FuncData} {nm : Str} (F : Fun K "__init__" "BadCopies.__init__" s_BadCopies___init__ f fd) (B : BadC K mg nm CB CK fB) : FnOk P w K mg base CX0 2 f fd ["self", "value"] (spBadInit CB) := by
  refine F.ok sc_BadCopies (fun vs H Q E h => ?_) (fun cdv A outer s H vs Q E hr h => ?_)
  · obtain ⟨_, _, rfl, _⟩ := h
    rfl
  · obtain ⟨a, v, rfl, ha, k⟩ := h
    refine ⟨_, pss_cons (ps_expr (pe_keinit B.ke rfl B.mgK (pa_cons (pv 0) (pa_cons pe_str pa_nil)))) (pss_one (ps_ost (pv 0) (pv 1) rfl)), ?_⟩
    refine ⟨_, rfl, a, CB, [_], rfl, (by show 1 ≤ 1000; decide), B.ox, ha, ?_⟩
    exact ⟨_, rfl, _, rfl, a, CB, rfl, B.ox, B.noV, .inl ⟨ha, fun dx hd ne => k dx hd ne⟩⟩
theorem sc_BadPiece : FnScope ["self", "value"] ["self", "value"] (defScope s_BadPiece___init__) := ⟨rfl, rfl, rfl, by decide +kernel, rfl, by decide +kernel, by decide +kernel⟩
theorem ok_BadPiece {f CB CK fB : Addr} {fd : FuncData} {nm : Str} (F : Fun K "__init__" "BadPiece.__init__" s_BadPiece___init__ f fd) (B : BadC K mg nm CB CK fB) : FnOk P w K mg base CX0 2 f fd ["self", "value"] (spBadInit CB) := by
  refine F.ok sc_BadPiece (fun vs H Q E h => ?_) (fun cdv A outer s H vs Q E hr h => ?_)
  · obtain ⟨_, _, rfl, _⟩ := h
    rfl
  · obtain ⟨a, v, rfl, ha, k⟩ := h
    refine ⟨_, pss_cons (ps_expr (pe_keinit B.ke rfl B.mgK (pa_cons (pv 0) (pa_cons pe_str pa_nil)))) (pss_one (ps_ost (pv 0) (pv 1) rfl)), ?_⟩
    refine ⟨_, rfl, a, CB, [_], rfl, (by show 1 ≤ 1000; decide), B.ox, ha, ?_⟩
    exact ⟨_, rfl, _, rfl, a, CB, rfl, B.ox, B.noV, .inl ⟨ha, fun dx hd ne => k dx hd ne⟩⟩
/-- the making's reading -/
theorem bad_reads {CB : Addr} {v : V} {E : XK} {H : Hp} (k : mkBad CB v E H) : (fun vs H1 => vs.length ≤ 1000 ∧ ∀ a, H1 a = none → spBadInit CB (.ref a :: (vs ++ [])) (L2.upd H1 a (exo a CB none)) (fun z H2 => z = .non ∧ True) E) [v] H → True := fun _ => trivial
end
end Sps
set_option Elab.async false
set_option linter.all false
set_option maxRecDepth 100000
set_option maxHeartbeats 4000000
/-! Checks that raise. -/
namespace Sps
open PySem PySem.Spec PyProof.Rows L2
theorem bad_mk {CB : Addr} {v : V} {E : XK} {H : Hp} (k : mkBad CB v E H) : [v].length ≤ 1000 ∧ ∀ a, H a = none → spBadInit CB (.ref a :: ([v] ++ [])) (L2.upd H a (exo a CB none))
    (fun z H2 => z = .non ∧ ∃ (d : Addr) (fs : List (Str × V)), H2 a = some (exo a CB (some d)) ∧ H2 d = some (exd d fs) ∧ H d = none ∧ E (.ref CB) (some d) (L2.upd (del H2 a) d (.xd fs))) (fun _ _ _ => False) := by
  refine ⟨by show 1 ≤ 1000; decide, fun a ha => ⟨a, v, rfl, upd_same, fun d hd ne => ⟨rfl, d, [("value", v)], upd_same, ?_, ?_, ?_⟩⟩⟩
  · rw [upd_ne ne, upd_same]
  · rw [upd_ne ne] at hd
    exact hd
  · rw [upd_ne ne] at hd
    refine k _ d (fun b o e => ?_) upd_same
    have nba : b ≠ a := ne_of_none e ha
    have nbd : b ≠ d := ne_of_none e hd
    rw [upd_ne nbd, del_ne nba, upd_ne nba, upd_ne nbd, upd_ne nba]
    exact e
theorem mkBad.same {CB : Addr} {v : V} {E : XK} {H H' : Hp} (k : mkBad CB v E H) (s : Same H H') : mkBad CB v E H' := fun H2 d s2 hd => k H2 d (s.trans s2) hd
/-! ### names of copies -/
section
variable {P : Program} {w : World} {K : PySem.W.Frag} {mg : Str → Option Value} {base : Heap}
def spCheckC (K : PySem.W.Frag) (CB : Addr) : Sp := fun vs H Q E => ∃ (v : V) (b : Bool), vs = [v] ∧ CpV K H v b ∧ (b = true → ∀ H', Same H H' → Q .non H') ∧ (b = false → mkBad CB v E H)
theorem scCk : FnScope ["value"] ["value"] (defScope s_check_copies) := ⟨rfl, rfl, rfl, by decide +kernel, rfl, by decide +kernel, by decide +kernel⟩
theorem ok_checkC {f g CB CK fB : Addr} {fd fdG fdB : FuncData} (F : Fun K "check_copies" "check_copies" s_check_copies f fd) (G : FnOk P w K mg base CX0 4 g fdG ["value"] (spAre K)) (mgG : mg "are_copies" = some (.ref g)) (kG : PySem.W.keepIn K (.ref g) = true) (bG : Binds K fdG ["value"] [])
    (B : BadC K mg "BadCopies" CB CK fB) (GB : FnOk P w K mg base CX0 2 fB fdB ["self", "value"] (spBadInit CB)) (bB : Binds K fdB ["self", "value"] []) : FnOk P w K mg base (L2.CX P w) 5 f fd ["value"] (spCheckC K CB) := by
  refine F.okX scCk (fun vs H Q E h => ?_) (fun cdv A outer s H vs Q E hr h => ?_)
  · obtain ⟨_, _, rfl, _⟩ := h
    rfl
  · obtain ⟨v, b, rfl, hv, good, bad⟩ := h
    have hr3 : Room 3 _ := hr.mono (by decide)
    refine ⟨_, pss_one (ps_if (pt_not (pt_val (pe_call G hr rfl mgG kG bG .nil pass0 (pa_cons (pv 0) pa_nil))))
      (pss_one (ps_raise rfl (takes_of rfl rfl rfl rfl) (pmk_oex B.ox B.ini B.fn GB hr3 bB .nil pass0 rfl B.mgB (pa_cons (pv 0) pa_nil)))) pss_nil), ?_⟩
    refine ⟨_, rfl, v, b, rfl, hv, fun H' s => ⟨_, rfl, ?_⟩⟩
    cases b with
    | true => exact iteF (good rfl H' s)
    | false => exact iteT ⟨_, rfl, bad_mk ((bad rfl).same s)⟩
end
end Sps
set_option Elab.async false
set_option linter.all false
set_option maxRecDepth 100000
set_option maxHeartbeats 4000000
/-! Keepers. -/
namespace Sps
open PySem PySem.Spec PyProof.Rows L2
theorem sorted_uniq {ys ns : List Int} (p : ys.Perm ns) (hy : ys.Pairwise (· ≤ ·)) (hn : ns.Pairwise (· < ·)) : ys = ns :=
  List.Perm.eq_of_pairwise (fun a b _ _ h1 h2 => Int.le_antisymm h1 h2) hy (hn.imp fun h => Int.le_of_lt h) p
abbrev fKe : List Str := ["copies", "piece", "inside", "trials", "state", "now", "open_asks", "answers"]
/-- what the keeper's state is -/
structure KSt (CSt CSi CP : Addr) (H : Hp) (s : Addr) (z : StV) (rs : List Cp) (ns : List Int) : Prop where
  st : IsO CSt H s z.l
  asks : ∃ d, z.asks = .ref d ∧ AskAt H d ns
  told : ∃ d, z.told = .ref d ∧ H d = some (.dK [])
  site : ∃ (t da : Addr) (l : List (Str × V)), z.site = .ref t ∧ IsO CSi H t (("above", .ref da) :: l) ∧ AboveAt H da rs
  asc : ns.Pairwise (· < ·)
  low : ∀ n ∈ ns, 0 ≤ n ∧ n < z.up
  sml : ns.length ≤ 1000
  pic : ∃ p e, z.pic = .ref p ∧ PicAt CP H p e
theorem KSt.same {CSt CSi CP : Addr} {H H' : Hp} {s : Addr} {z : StV} {rs : List Cp} {ns : List Int} (k : KSt CSt CSi CP H s z rs ns) (e : Same H H') : KSt CSt CSi CP H' s z rs ns :=
  ⟨k.st.same e, let ⟨d, h1, h2⟩ := k.asks; ⟨d, h1, h2.same e⟩, let ⟨d, h1, h2⟩ := k.told; ⟨d, h1, e _ _ h2⟩, let ⟨t, da, l, h1, h2, h3⟩ := k.site; ⟨t, da, l, h1, h2.same e, h3.same e⟩, k.asc, k.low, k.sml, let ⟨p, e1, h1, h2⟩ := k.pic; ⟨p, e1, h1, h2.same e⟩⟩
/-- all that a state is made of is none of the instances of the class at C -/
theorem IsO.off {C D : Addr} {H : Hp} {x k dk : Addr} {l fk : List (Str × V)} (h : IsO C H x l) (hk : H k = some (.ins D dk fk)) (ne : C ≠ D) (o : HO) : IsO C (L2.upd H k o) x l := by
  obtain ⟨dx, fs, e, a, b⟩ := h
  refine ⟨dx, fs, ?_, a, b⟩
  rw [upd_ne (fun z => by rw [z, hk] at e; cases e; exact ne rfl)]
  exact e
theorem ins_off {H : Hp} {k dk D b : Addr} {fk : List (Str × V)} {u o : HO} (hk : H k = some (.ins D dk fk)) (e : H b = some u) (n : ∀ C d f, u ≠ .ins C d f) : (L2.upd H k o) b = some u := by
  rw [upd_ne (fun z => by rw [z, hk] at e; exact n _ _ _ (Option.some.inj e).symm)]
  exact e
theorem AskAt.off {H : Hp} {k dk D d : Addr} {fk : List (Str × V)} {ns : List Int} {o : HO} (h : AskAt H d ns) (hk : H k = some (.ins D dk fk)) : AskAt (L2.upd H k o) d ns := let ⟨kvs, e, q⟩ := h; ⟨kvs, ins_off hk e (fun _ _ _ z => by cases z), q⟩
theorem AboveAt.off {H : Hp} {k dk D d : Addr} {fk : List (Str × V)} {rs : List Cp} {o : HO} (h : AboveAt H d rs) (hk : H k = some (.ins D dk fk)) : AboveAt (L2.upd H k o) d rs := let ⟨us, h1, h2, h3⟩ := h; ⟨us, h1, ins_off hk h2 (fun _ _ _ z => by cases z), paired_imp (fun _ _ e => ins_off hk e (fun _ _ _ z => by cases z)) h3⟩
theorem PicAt.off {C D : Addr} {H : Hp} {x e k dk : Addr} {fk : List (Str × V)} {o : HO} (h : PicAt C H x e) (hk : H k = some (.ins D dk fk)) (ne : C ≠ D) : PicAt C (L2.upd H k o) x e := by
  obtain ⟨dx, fs, h1, h2, h3⟩ := h
  refine ⟨dx, fs, ?_, h2, ins_off hk h3 (fun _ _ _ z => by cases z)⟩
  rw [upd_ne (fun z => by rw [z, hk] at h1; cases h1; exact ne rfl)]
  exact h1
theorem KSt.off {CSt CSi CP CK : Addr} {H : Hp} {s k dk : Addr} {fk : List (Str × V)} {z : StV} {rs : List Cp} {ns : List Int} {o : HO} (h : KSt CSt CSi CP H s z rs ns) (hk : H k = some (.ins CK dk fk)) (n1 : CSt ≠ CK) (n2 : CSi ≠ CK) (n3 : CP ≠ CK) : KSt CSt CSi CP (L2.upd H k o) s z rs ns :=
  ⟨h.st.off hk n1 _, let ⟨d, h1, h2⟩ := h.asks; ⟨d, h1, h2.off hk⟩, let ⟨d, h1, h2⟩ := h.told; ⟨d, h1, ins_off hk h2 (fun _ _ _ z => by cases z)⟩, let ⟨t, da, l, h1, h2, h3⟩ := h.site; ⟨t, da, l, h1, h2.off hk n2 _, h3.off hk⟩, h.asc, h.low, h.sml, let ⟨p, e1, h1, h2⟩ := h.pic; ⟨p, e1, h1, h2.off hk n3⟩⟩
def mKe : List Str := ["become", "groups"]
def NoM (fs : List (Str × V)) : Prop := ∀ m ∈ mKe, fs.lookup m = none
theorem NoM.put {fs : List (Str × V)} (h : NoM fs) (f : Str) (v : V) (n : f ∉ mKe) : NoM (putF f v fs) := fun m hm => by
  rw [lookup_putF, if_neg (fun e => n (by rw [← e]; exact hm))]
  exact h m hm
/-- a keeper -/
structure KAt (CK CSt CSi CP : Addr) (H : Hp) (k : Addr) (rs : List Cp) (a : Addr) (pc : V) (t u : Int) (ns : List Int) : Prop where
  ex : ∃ (dx s ta tb : Addr) (fs : List (Str × V)) (z : StV), H k = some (.ins CK dx fs) ∧ fs.length ≤ 8 ∧ Has fs [("answers", .ref tb), ("open_asks", .ref ta), ("now", .int t), ("state", .ref s), ("copies", .ref a), ("piece", pc)] ∧ KSt CSt CSi CP H s z rs ns ∧ z.time = t ∧ z.up = u ∧ NoM fs ∧
    H ta = some (.tup (ns.map V.int)) ∧ H tb = some (.tup [])
theorem len_putS {f : Str} {v x : V} : ∀ {fs : List (Str × V)}, fs.lookup f = some x → (putF f v fs).length = fs.length
  | [], h => by cases h
  | (k, y) :: r, h => by
    unfold putF
    by_cases e : k = f
    · rw [if_pos e]; rfl
    · rw [if_neg e, List.length_cons, List.length_cons]
      have h2 : r.lookup f = some x := by
        rw [List.lookup_cons] at h
        have e2 : (f == k) = false := beq_eq_false_iff_ne.mpr fun z => e z.symm
        rw [e2] at h
        exact h
      rw [len_putS h2]
/-- few fields: the four that become writes are there, or there are four others -/
def Few (fs : List (Str × V)) : Prop := fs.length ≤ 4 ∨ (fs.length ≤ 8 ∧ ∃ a b c d, Has fs [("answers", a), ("open_asks", b), ("now", c), ("state", d)])
theorem Few.put4 {fs : List (Str × V)} (h : Few fs) (a b c d : V) : (putF "answers" a (putF "open_asks" b (putF "now" c (putF "state" d fs)))).length ≤ 8 := by
  rcases h with h | ⟨h, a0, b0, c0, d0, hh⟩
  · have l1 := length_putF ("state" : Str) d fs
    have l2 := length_putF ("now" : Str) c (putF "state" d fs)
    have l3 := length_putF ("open_asks" : Str) b (putF "now" c (putF "state" d fs))
    have l4 := length_putF ("answers" : Str) a (putF "open_asks" b (putF "now" c (putF "state" d fs)))
    omega
  · have e1 := len_putS (v := d) (hh.at_ 3 rfl)
    have e2 : (putF "now" c (putF "state" d fs)).length = (putF "state" d fs).length := len_putS (x := c0) (by rw [lookup_putF, if_neg (by decide)]; exact hh.at_ 2 rfl)
    have e3 : (putF "open_asks" b (putF "now" c (putF "state" d fs))).length = (putF "now" c (putF "state" d fs)).length := len_putS (x := b0) (by rw [lookup_putF, if_neg (by decide), lookup_putF, if_neg (by decide)]; exact hh.at_ 1 rfl)
    have e4 : (putF "answers" a (putF "open_asks" b (putF "now" c (putF "state" d fs)))).length = (putF "open_asks" b (putF "now" c (putF "state" d fs))).length := len_putS (x := a0) (by rw [lookup_putF, if_neg (by decide), lookup_putF, if_neg (by decide), lookup_putF, if_neg (by decide)]; exact hh.at_ 0 rfl)
    omega
section
variable {P : Program} {w : World} {K : PySem.W.Frag} {mg : Str → Option Value} {base : Heap}
/-! ### become -/
def spBecome (CK CSt CSi CP : Addr) : Sp := fun vs H Q _ => ∃ (k s dx : Addr) (fs : List (Str × V)) (z : StV) (rs : List Cp) (ns : List Int) (a : Addr) (pc : V), vs = [.ref k, .ref s] ∧ H k = some (.ins CK dx fs) ∧ Few fs ∧ NoM fs ∧ fs.lookup ("copies" : Str) = some (.ref a) ∧ fs.lookup ("piece" : Str) = some pc ∧ KSt CSt CSi CP H s z rs ns ∧
  ∀ H', SameX k H H' → KAt CK CSt CSi CP H' k rs a pc z.time z.up ns → Q .non H'
theorem scBe : FnScope ["self", "state"] ["self", "state"] (defScope s_Keeper_become) := ⟨rfl, rfl, rfl, by decide +kernel, rfl, by decide +kernel, by decide +kernel⟩
theorem ok_become {f CK fI CSt fS CSi CP : Addr} {fd : FuncData} (F : Fun K "become" "Keeper.become" s_Keeper_become f fd) (T : Names mg) (O : OC K mg "Keeper" CK fI fKe) (OS : OC K mg "State" CSt fS fSta) (n1 : CSt ≠ CK) (n2 : CSi ≠ CK) (n3 : CP ≠ CK) : FnOk P w K mg base CX0 1 f fd ["self", "state"] (spBecome CK CSt CSi CP) := by
  refine F.ok scBe (fun vs H Q E h => ?_) (fun cdv A outer s H vs Q E hr h => ?_)
  · obtain ⟨_, _, _, _, _, _, _, _, _, rfl, _⟩ := h
    rfl
  · obtain ⟨k, s0, dx, fs, z, rs, ns, a, pc, rfl, hk, hfew, hnm, hc, hpc, hS, h⟩ := h
    have hl : fs.length ≤ 8 := hfew.elim (fun q => Nat.le_trans q (by decide)) fun q => q.1
    refine ⟨_, pss_cons (ps_fld (pv 0) (pv 1) rfl) (pss_cons (ps_fld (pv 0) (pe_fld (pv 1) rfl) rfl)
      (pss_cons (ps_fld (pv 0) (pe_callTy call_tuple_of (by rfl) T.tuple (by decide +kernel) (pa_cons (pe_callB (call_sortD rfl) (by rfl) T.sorted (by decide +kernel) (pa_cons (pe_fld (pv 1) rfl) pa_nil)) pa_nil)) rfl)
      (pss_one (ps_fld (pv 0) (pe_callTy call_tuple_of (by rfl) T.tuple (by decide +kernel) (pa_cons (pe_callB (call_sortD rfl) (by rfl) T.sorted (by decide +kernel) (pa_cons (pe_fld (pv 1) rfl) pa_nil)) pa_nil)) rfl)))), ?_⟩
    have no : ∀ {x : Str}, x ∈ fKe → NoAttr K CK x := fun {x} m => O.no x m
    have noS : ∀ {x : Str}, x ∈ fSta → NoAttr K CSt x := fun {x} m => OS.no x m
    refine ⟨_, rfl, _, rfl, k, CK, dx, fs, rfl, hk, O.cl, no (by decide), Nat.lt_of_le_of_lt hl (by decide), ?_⟩
    -- one store after the other
    have l1 : (putF "state" (.ref s0) fs).length ≤ 9 := Nat.le_trans (length_putF _ _ _) (Nat.succ_le_succ hl)
    generalize e1 : putF "state" (.ref s0) fs = f1 at l1
    have x1 : SameX k H (L2.upd H k (.ins CK dx f1)) := SameX.upd
    have k1 : (L2.upd H k (.ins CK dx f1)) k = some (.ins CK dx f1) := upd_same
    have S1 := hS.off (o := .ins CK dx f1) hk n1 n2 n3
    generalize eH : L2.upd H k (.ins CK dx f1) = H1 at x1 k1 S1
    obtain ⟨dS, fS_, hs1, _, hh⟩ := S1.st
    refine ⟨_, rfl, s0, CSt, dS, fS_, _, rfl, hs1, OS.cl, noS (by decide), hh.at_ 5 rfl, _, rfl, k, CK, dx, f1, rfl, k1, O.cl, no (by decide), Nat.lt_of_le_of_lt l1 (by decide), ?_⟩
    have l2 : (putF "now" (.int z.time) f1).length ≤ 10 := Nat.le_trans (length_putF _ _ _) (Nat.succ_le_succ l1)
    generalize e2 : putF "now" (.int z.time) f1 = f2 at l2
    have x2 : SameX k H (L2.upd H1 k (.ins CK dx f2)) := x1.trans SameX.upd
    have k2 : (L2.upd H1 k (.ins CK dx f2)) k = some (.ins CK dx f2) := upd_same
    have S2 := S1.off (o := .ins CK dx f2) k1 n1 n2 n3
    generalize eH2 : L2.upd H1 k (.ins CK dx f2) = H2 at x2 k2 S2
    obtain ⟨dS2, fS2, hs2, _, hh2⟩ := S2.st
    obtain ⟨d, ed, kvs, hd, hkv⟩ := S2.asks
    refine ⟨_, rfl, s0, CSt, dS2, fS2, _, rfl, hs2, OS.cl, noS (by decide), hh2.at_ 3 rfl, d, kvs, ns, by rw [ed], .inl hd, hkv, fun ys p hp hs hpn => ?_⟩
    obtain rfl := sorted_uniq hp hs S2.asc
    refine ⟨p, _, rfl, .inl ⟨lstAt upd_same, fun ta hta => ?_⟩⟩
    have s3 : Same H2 (L2.upd (L2.upd H2 p (.lst (ys.map V.int))) ta (.tup (ys.map V.int))) := (Same.upd hpn).trans (Same.upd hta)
    refine ⟨_, rfl, k, CK, dx, f2, rfl, s3 _ _ k2, O.cl, no (by decide), Nat.lt_of_le_of_lt l2 (by decide), ?_⟩
    have l3 : (putF "open_asks" (.ref ta) f2).length ≤ 11 := Nat.le_trans (length_putF _ _ _) (Nat.succ_le_succ l2)
    generalize e3 : putF "open_asks" (.ref ta) f2 = f3 at l3
    have k2' := s3 _ _ k2
    have S3 := (S2.same s3).off (o := .ins CK dx f3) k2' n1 n2 n3
    have x3 := (x2.trans (Same.x s3 k)).trans (SameX.upd (o := .ins CK dx f3))
    have t3 : (L2.upd (L2.upd (L2.upd H2 p (.lst (ys.map V.int))) ta (.tup (ys.map V.int))) k (.ins CK dx f3)) ta = some (.tup (ys.map V.int)) := ins_off k2' upd_same (fun _ _ _ z => by cases z)
    have k3 : (L2.upd (L2.upd (L2.upd H2 p (.lst (ys.map V.int))) ta (.tup (ys.map V.int))) k (.ins CK dx f3)) k = some (.ins CK dx f3) := upd_same
    generalize eH3 : L2.upd (L2.upd (L2.upd H2 p (.lst (ys.map V.int))) ta (.tup (ys.map V.int))) k (.ins CK dx f3) = H3 at S3 x3 t3 k3
    obtain ⟨dS3, fS3, hs3, _, hh3⟩ := S3.st
    obtain ⟨d2, ed2, hd2⟩ := S3.told
    refine ⟨_, rfl, s0, CSt, dS3, fS3, _, rfl, hs3, OS.cl, noS (by decide), hh3.at_ 2 rfl, d2, [], [], by rw [ed2], .inl hd2, rfl, fun zs p2 hp2 hs2' hpn2 => ?_⟩
    obtain rfl := List.Perm.eq_nil hp2
    refine ⟨p2, _, rfl, .inl ⟨lstAt upd_same, fun tb htb => ?_⟩⟩
    have s4 : Same H3 (L2.upd (L2.upd H3 p2 (.lst (([] : List Int).map V.int))) tb (.tup (([] : List Int).map V.int))) := (Same.upd hpn2).trans (Same.upd htb)
    have k3' := s4 _ _ k3
    refine ⟨_, rfl, k, CK, dx, f3, rfl, k3', O.cl, no (by decide), Nat.lt_of_le_of_lt l3 (by decide), ?_⟩
    refine h _ ((x3.trans (Same.x s4 k)).trans SameX.upd) ⟨dx, s0, ta, tb, _, z, upd_same, by rw [← e3, ← e2, ← e1]; exact hfew.put4 _ _ _ _, ?_, (S3.same s4).off k3' n1 n2 n3, rfl, rfl, by rw [← e3, ← e2, ← e1]; exact (((hnm.put _ _ (by decide)).put _ _ (by decide)).put _ _ (by decide)).put _ _ (by decide), ins_off k3' (s4 _ _ t3) (fun _ _ _ z => by cases z), ins_off k3' upd_same (fun _ _ _ z => by cases z)⟩
    have h0 : Has fs [("copies", .ref a), ("piece", pc)] := fun q m => by
      rcases List.mem_cons.mp m with z | z
      · rw [z]; exact hc
      · rw [List.mem_singleton.mp z]; exact hpc
    rw [← e3, ← e2, ← e1]
    exact (((h0.put "state" _ (by rfl)).put "now" _ (by rfl)).put "open_asks" _ (by rfl)).put "answers" _ (by rfl)
end
end Sps
set_option Elab.async false
set_option linter.all false
set_option maxRecDepth 100000
set_option maxHeartbeats 4000000
/-! Keepers: made of any values; their groups. -/
namespace Sps
open PySem PySem.Spec PyProof.Rows L2
/-- copies that are right -/
theorem CpV.good {K : PySem.W.Frag} {H : Hp} {v : V} {b : Bool} (h : CpV K H v b) (e1 : b = true) : ∃ (a : Addr) (rs : List Cp), v = .ref a ∧ RowsAt H a rs ∧ 1 ≤ rs.length ∧ rs.length ≤ 6 ∧ (∀ r ∈ rs, okRow r) ∧ goodB rs = true := by
  cases h with
  | kind _ => cases e1
  | tup hA hP hz =>
    rename_i a xs os
    unfold areB at e1
    obtain ⟨e2, e3⟩ := Bool.and_eq_true_iff.mp e1
    obtain ⟨l1, l2⟩ := Bool.and_eq_true_iff.mp e2
    obtain ⟨e4, e5⟩ := Bool.and_eq_true_iff.mp e3
    have l1 := of_decide_eq_true l1
    have l2 := of_decide_eq_true l2
    have asc : ascB (rowsOf os) = true := (Bool.and_eq_true_iff.mp e5).1
    have hR := hz e4 asc l1 l2
    have hok := rows_ok hP
    have ln : os.length = (rowsOf os).length := by
      have := congrArg List.length (oks_some e4)
      rwa [List.length_map] at this
    exact ⟨a, rowsOf os, rfl, hR, by omega, by omega, hok, e5⟩
/-- a value as piece: right or not -/
inductive PcV (K : PySem.W.Frag) (H : Hp) : V → Bool → Prop
  | int (i : Int) : PcV K H (.int i) (decide (1 ≤ i) && decide (i ≤ 64))
  | no {v : V} (h : NoInt K H v) : PcV K H v false
theorem noInt_same {K : PySem.W.Frag} {H H' : Hp} {x : V} (h : NoInt K H x) (s : Same H H') : NoInt K H' x := let ⟨t, ty, k⟩ := h; ⟨t, tyX_same ty s, k⟩
theorem PcV.same {K : PySem.W.Frag} {H H' : Hp} {v : V} {b : Bool} (h : PcV K H v b) (s : Same H H') : PcV K H' v b := by
  cases h with
  | int i => exact .int i
  | no h => exact .no (noInt_same h s)
section
variable {P : Program} {w : World} {K : PySem.W.Frag} {mg : Str → Option Value} {base : Heap}
/-- what the defs of the keeper use of the others -/
structure KDefs (P : Program) (w : World) (K : PySem.W.Frag) (mg : Str → Option Value) (base : Heap) (CK CSt CSi CP : Addr) where
  fI : Addr
  fS : Addr
  fSi_ : Addr
  fP_ : Addr
  O : OC K mg "Keeper" CK fI fKe
  OS : OC K mg "State" CSt fS fSta
  OSi : OC K mg "Site" CSi fSi_ fSi
  OP : OC K mg "Picture" CP fP_ fPi
  aBe : Addr
  dBe : FuncData
  gBe : FnOk P w K mg base CX0 1 aBe dBe ["self", "state"] (spBecome CK CSt CSi CP)
  bBe : Binds K dBe ["self", "state"] []
  mBe : Meth K CK "become" aBe
  aW : Addr
  dW : FuncData
  gW : FnOk P w K mg base CX0 2 aW dW ["value", "least", "most"] (spWithin K)
  mW : mg "is_within" = some (.ref aW)
  kW : PySem.W.keepIn K (.ref aW) = true
  bW : Binds K dW ["value", "least", "most"] []
def spPc (K : PySem.W.Frag) : Sp := fun vs H Q _ => ∃ (v : V) (c : Bool), vs = [v, .int 1, .int 64] ∧ PcV K H v c ∧ Q (.bl c) H
theorem pc_within {vs : List V} {H : Hp} {Q : VK} {E : XK} (h : spPc K vs H Q E) : spWithin K vs H Q E := by
  obtain ⟨v, c, rfl, hv, q⟩ := h
  cases hv with
  | int i => exact ⟨_, 1, 64, rfl, .inl ⟨i, rfl, q⟩⟩
  | no hn => exact ⟨_, 1, 64, rfl, .inr ⟨hn, q⟩⟩
def spKeep (K : PySem.W.Frag) (CK CSt CSi CP BC BP : Addr) : Sp := fun vs H Q E => ∃ (x dx : Addr) (v pv : V) (b c : Bool), vs = [.ref x, v, pv] ∧ H x = some (.ins CK dx []) ∧ CpV K H v b ∧ PcV K H pv c ∧ (b = false → mkBad BC v E H) ∧ (b = true → c = false → mkBad BP pv E H) ∧
  (b = true → c = true → ∀ (H' : Hp) (a : Addr) (rs : List Cp), v = .ref a → SameX x H H' → KAt CK CSt CSi CP H' x rs a pv 0 0 [] → Q .non H')
theorem scKI : FnScope ["self", "copies", "piece"] ["self", "copies", "piece"] (defScope s_Keeper___init__) := ⟨rfl, rfl, rfl, by decide +kernel, rfl, by decide +kernel, by decide +kernel⟩
theorem ok_keep {f gC gF CK CSt CSi CP BC BP CE fC fP : Addr} {fd fdC fdF fdS fdP : FuncData} (F : FunD K "__init__" "Keeper.__init__" (defArgs s_Keeper___init__) (defBody s_Keeper___init__) (defScope s_Keeper___init__) [] [("piece", .int 4)] f fd) (D : KDefs P w K mg base CK CSt CSi CP)
    (GC : FnOk P w K mg base (L2.CX P w) 5 gC fdC ["value"] (spCheckC K BC)) (mgC : mg "check_copies" = some (.ref gC)) (kC : PySem.W.keepIn K (.ref gC) = true) (bC : Binds K fdC ["value"] [])
    (GF : FnOk P w K mg base CX0 7 gF fdF ["site"] (spFirst CSt CSi CP)) (mgF : mg "first_state" = some (.ref gF)) (kF : PySem.W.keepIn K (.ref gF) = true) (bF : Binds K fdF ["site"] [])
    (GS : FnOk P w K mg base CX0 2 D.fSi_ fdS ["self", "copies", "piece"] (spSite CSi)) (bS : Binds K fdS ["self", "copies", "piece"] [])
    (B : BadC K mg "BadPiece" BP CE fP) (GB : FnOk P w K mg base CX0 2 fP fdP ["self", "value"] (spBadInit BP)) (bB : Binds K fdP ["self", "value"] []) : FnOk P w K mg base (L2.CX P w) 8 f fd ["self", "copies", "piece"] (spKeep K CK CSt CSi CP BC BP) := by
  refine F.ok scKI (fun vs H Q E h => ?_) (fun cdv A outer s H vs Q E hr h => ?_)
  · obtain ⟨_, _, _, _, _, _, rfl, _⟩ := h
    rfl
  · obtain ⟨x, dx, v, pu, b, c, rfl, hx, hv, hp, bad1, bad2, h⟩ := h
    have hr1 : Room 1 _ := hr.mono (by decide)
    have hr2 : Room 2 _ := hr.mono (by decide)
    have hr3 : Room 3 _ := hr.mono (by decide)
    have hr5 : Room 5 _ := hr.mono (by decide)
    have no : ∀ {k : Str}, k ∈ fKe → NoAttr K CK k := fun {k} m => D.O.no k m
    refine ⟨_, pss_cons (ps_expr (pe_call GC hr5 rfl mgC kC bC .nil (passes_call (takes_of rfl rfl rfl rfl) fun _ _ _ _ h => h) (pa_cons (pv 1) pa_nil)))
      (pss_cons (ps_if (pt_not (pt_val (pe_call (D.gW.imp fun _ _ _ _ z => pc_within (K := K) z) hr2 rfl D.mW D.kW D.bW .nil pass0 (pa_cons (pv 2) (pa_cons pe_int (pa_cons pe_int pa_nil))))))
        (pss_one (ps_raise rfl (takes_of rfl rfl rfl rfl) (pmk_oex B.ox B.ini B.fn GB hr3 bB .nil pass0 rfl B.mgB (pa_cons (pv 2) pa_nil)))) pss_nil)
      (pss_cons (ps_fld (pv 0) (pv 1) rfl) (pss_cons (ps_fld (pv 0) (pv 2) rfl) (pss_cons (ps_fld (pv 0) (pe_tup pa_nil) rfl) (pss_cons (ps_fld (pv 0) pe_int rfl)
      (pss_one (ps_expr (pe_meth (pv 0) D.O.cl D.mBe D.gBe hr1 D.bBe .nil pass0 (pa_cons (pe_call GF hr rfl mgF kF bF .nil pass0 (pa_cons (pe_make D.OSi.make GS hr3 rfl D.OSi.mgC bS .nil pass0 (pa_cons (pv 1) (pa_cons (pv 2) pa_nil))) pa_nil)) pa_nil))))))))), ?_⟩
    refine ⟨_, rfl, v, b, rfl, hv, fun eb H1 s1 => ?_, bad1⟩
    obtain ⟨a, rs, rfl, hR, h1, h6, hok, hg⟩ := hv.good eb
    have fin : c = true → _ := h eb
    have rest : ∀ {Q1 : Prop}, (c = true → Q1) → (c = false → Q1) → Q1 := fun q1 q2 => by
      cases c with
      | true => exact q1 rfl
      | false => exact q2 rfl
    have test : ∀ {A B : Prop}, (c = false → A) → (c = true → B) → if (!c) = true then A else B := fun q1 q2 => by
      cases c with
      | true => exact iteF (q2 rfl)
      | false => exact iteT (q1 rfl)
    refine ⟨_, rfl, pu, c, rfl, hp.same s1, _, rfl, test (fun ec => ⟨_, rfl, bad_mk ((bad2 eb ec).same s1)⟩) (fun ec => ?_)⟩
    have g0 := (Sf.nil hx).new s1
    refine ⟨_, rfl, _, rfl, x, CK, dx, _, rfl, g0.at_, D.O.cl, no (by decide), g0.lt (by rfl), ?_⟩
    have g1 := g0.put "copies" (.ref a) (by rfl)
    refine ⟨_, rfl, _, rfl, x, CK, dx, _, rfl, g1.at_, D.O.cl, no (by decide), g1.lt (by rfl), ?_⟩
    have g2 := g1.put "piece" pu (by rfl)
    refine ⟨(by show 0 ≤ sizeLine; decide), fun ti hti => ⟨_, rfl, x, CK, dx, _, rfl, (g2.new (Same.upd hti)).at_, D.O.cl, no (by decide), g2.lt (by rfl), ?_⟩⟩
    have g3 := (g2.new (Same.upd (o := .tup []) hti)).put "inside" (.ref ti) (by rfl)
    refine ⟨_, rfl, x, CK, dx, _, rfl, g3.at_, D.O.cl, no (by decide), g3.lt (by rfl), ?_⟩
    have g4 := g3.put "trials" (.int 0) (by rfl)
    have nm0 : NoM ([] : List (Str × V)) := fun _ _ => rfl
    have nm4 : NoM (putF "trials" (.int 0) (putF "inside" (.ref ti) (putF "piece" pu (putF "copies" (.ref a) [])))) := (((nm0.put _ _ (by decide)).put _ _ (by decide)).put _ _ (by decide)).put _ _ (by decide)
    generalize ef : putF "trials" (.int 0) (putF "inside" (.ref ti) (putF "piece" pu (putF "copies" (.ref a) []))) = f4 at g4 nm4
    generalize eH : L2.upd (L2.upd (L2.upd (L2.upd (L2.upd H1 x (.ins CK dx (putF "copies" (.ref a) []))) x (.ins CK dx (putF "piece" pu (putF "copies" (.ref a) [])))) ti (.tup [])) x (.ins CK dx (putF "inside" (.ref ti) (putF "piece" pu (putF "copies" (.ref a) []))))) x (.ins CK dx f4) = H4 at g4
    refine ⟨_, rfl, x, dx, f4, rfl, g4.at_, nm4 _ (by decide), ?_⟩
    -- the site
    have hR4 : RowsAt H4 a rs := by
      obtain ⟨o, ts, q1, q2, q3⟩ := hR
      exact ⟨o, ts, g4.sx _ _ (ne_of q1 hx (by intro z; cases z)) q1, q2, paired_imp (fun t r e => g4.sx _ _ (ne_of e hx (by intro z; cases z)) e) q3⟩
    refine ⟨_, rfl, _, rfl, fun y dy hy hdy nyd => ?_⟩
    refine ⟨y, dy, a, pu, rs, rfl, upd_same, (hR4.same (Same.upd hdy)).same (Same.upd (by rw [upd_ne (Ne.symm nyd)]; exact hy)), h6, hg, fun H5 da s5 hda ho => ⟨rfl, ?_⟩⟩
    have s45 := madeSame hy hdy s5
    obtain ⟨dS, fsS, hyS, hyl, hyh⟩ := ho
    refine ⟨y, dS, fsS, pu, rfl, hyS, hyh.at_ 1 rfl, fun H6 s0 d1 d2 d3 pic pe s6 hs0 hPic hA hT hSt => ?_⟩
    have s46 := s45.trans s6
    refine ⟨x, s0, dx, f4, ⟨.ref y, 0, 0, .ref d1, .ref d2, .ref d3, .ref pic⟩, rs, [], a, pu, rfl, s46 _ _ g4.at_, .inl g4.len, nm4, g4.has.at_ 3 rfl, g4.has.at_ 2 rfl, ⟨hSt, ⟨d1, rfl, hA⟩, ⟨d2, rfl, hT⟩, ⟨y, da, _, rfl, ⟨dS, fsS, s6 _ _ hyS, hyl, hyh⟩, hda.same s6⟩, .nil, (fun _ m => nomatch m), Nat.zero_le _, ⟨pic, pe, rfl, hPic⟩⟩, fun H' sx hK => ?_⟩
    exact fin ec H' a rs rfl ((g4.sx.trans (Same.x s46 x)).trans sx) hK
end
end Sps
set_option Elab.async false
set_option linter.all false
set_option maxRecDepth 100000
set_option maxHeartbeats 4000000
/-! The law's drawing. -/
namespace Sps
open PySem PySem.Spec PyProof.Rows L2
/-- the pot of the drawing, after at most n draws by counting -/
def PotOk (n : Int) (H : Hp) (l : Addr) : Prop := ∃ a m c : Int, H l = some (.lst [.int a, .int m, .int c]) ∧ 0 ≤ m ∧ m < 2305843009213693951 ∧ 0 ≤ c ∧ c ≤ n
theorem PotOk.mono {n n' : Int} {H : Hp} {l : Addr} (h : PotOk n H l) (e : n ≤ n') : PotOk n' H l := let ⟨a, m, c, h1, h2, h3, h4, h5⟩ := h; ⟨a, m, c, h1, h2, h3, h4, Int.le_trans h5 e⟩
theorem PotOk.same {n : Int} {H H' : Hp} {l : Addr} (h : PotOk n H l) (s : Same H H') : PotOk n H' l := let ⟨a, m, c, h1, h2⟩ := h; ⟨a, m, c, s _ _ h1, h2⟩
def primes : List V := [.int 2147483647, .int 2147483629, .int 2147483587, .int 2147483579, .int 2147483563]
theorem prime_at (c : Int) : ∃ v : Int, atI primes (c % 5) = some (.int v) ∧ 0 < v ∧ v ≤ 2147483647 := by
  have h0 := Int.emod_nonneg c (by decide : (5 : Int) ≠ 0)
  have h1 := Int.emod_lt_of_pos c (by decide : (0 : Int) < 5)
  have cases5 : c % 5 = 0 ∨ c % 5 = 1 ∨ c % 5 = 2 ∨ c % 5 = 3 ∨ c % 5 = 4 := by omega
  rcases cases5 with e | e | e | e | e <;> rw [e]
  · exact ⟨2147483647, by decide +kernel, by decide, by decide⟩
  · exact ⟨2147483629, by decide +kernel, by decide, by decide⟩
  · exact ⟨2147483587, by decide +kernel, by decide, by decide⟩
  · exact ⟨2147483579, by decide +kernel, by decide, by decide⟩
  · exact ⟨2147483563, by decide +kernel, by decide, by decide⟩
/-- both ways of a conditional expression give a value of which the same is known -/
theorem if_read {c : Bool} {ta tb : TE} {σ : L2.St} {H : Hp} {Q : VK} {W : V → Prop} (h1 : c = true → ∀ Q' : VK, (∀ v, W v → Q' v H) → ta σ H Q') (h2 : ¬ c = true → ∀ Q' : VK, (∀ v, W v → Q' v H) → tb σ H Q') (h : ∀ v, W v → Q v H) :
    if c = true then ta σ H Q else tb σ H Q := ite2 (fun e => h1 e Q h) fun e => h2 e Q h
section
variable {P : Program} {w : World} {K : PySem.W.Frag} {mg : Str → Option Value} {base : Heap}
def spDraw : Sp := fun vs H Q _ => ∃ (l : Addr) (many n : Int), vs = [.ref l, .int many] ∧ PotOk n H l ∧ n ≤ 100000 ∧ 0 < many ∧ many < 1000000 ∧
  ∀ (H' : Hp) (r : Int), SameX l H H' → PotOk (n + 1) H' l → 0 ≤ r → r < many → Q (.int r) H'
theorem scD : FnScope ["_law_pot_here", "_law_many", "_law_digit", "_law_prime", "_law_made"] ["_law_pot_here", "_law_many"] (defScope s__law_draw) := ⟨rfl, rfl, rfl, by decide +kernel, rfl, by decide +kernel, by decide +kernel⟩
theorem ok_draw {f : Addr} {fd : FuncData} (F : Fun K "_law_draw" "_law_draw" s__law_draw f fd) (T : Names mg) : FnOk P w K mg base CX0 2 f fd ["_law_pot_here", "_law_many"] spDraw := by
  refine F.ok scD (fun vs H Q E h => ?_) (fun cdv A outer s H vs Q E hr h => ?_)
  · obtain ⟨l, many, n, rfl, _⟩ := h
    rfl
  · obtain ⟨l, many, n, rfl, ⟨a, m, c, hl, hm0, hm1, hc0, hc1⟩, hn, hm, hm2, k⟩ := h
    refine ⟨_, pss_cons (ps_if (pt_cmpR op_gt (pe_ix ix_list (pv 0) pe_int (fun _ _ => rfl)) pe_int (nomark _))
        (pss_cons (ps_set (i := 2) scD.nd rfl (Or.inl rfl) (pe_op op_mod (pe_callTy call_int1 (by rfl) T.int (by decide +kernel) (pa_cons (pe_ix ix_list (pv 0) pe_int (fun _ _ => rfl)) pa_nil)) (pv 1)))
        (pss_cons (ps_asg (pe_op op_fdiv (pe_ix ix_list (pv 0) pe_int (fun _ _ => rfl)) (pv 1)) (pg_sub (pv 0) pe_int set_list))
        (pss_one (ps_ret (pv 2))))) pss_nil)
      (pss_cons (ps_asg (pe_op op_add (pe_ix ix_list (pv 0) pe_int (fun _ _ => rfl)) pe_int) (pg_sub (pv 0) pe_int set_list))
      (pss_cons (ps_set (i := 3) scD.nd rfl (Or.inl rfl) (pe_ix ix_list (pe_lst (pa_cons pe_int (pa_cons pe_int (pa_cons pe_int (pa_cons pe_int (pa_cons pe_int pa_nil))))))
          (pe_op op_mod (pe_callTy call_int1 (by rfl) T.int (by decide +kernel) (pa_cons (pe_ix ix_list (pv 0) pe_int (fun _ _ => rfl)) pa_nil)) pe_int) (fun _ _ => rfl)))
      (pss_cons (ps_set (i := 4) scD.nd rfl (Or.inl rfl) (pe_op op_mod (pe_callTy call_int1 (by rfl) T.int (by decide +kernel) (pa_cons (pe_op op_pow (pe_op op_add (pe_op op_add (pe_ix ix_list (pv 0) pe_int (fun _ _ => rfl))
            (pe_op op_mul (pe_op op_mul pe_int (pe_ix ix_list (pv 0) pe_int (fun _ _ => rfl))) (pe_ix ix_list (pv 0) pe_int (fun _ _ => rfl)))) pe_int) pe_int) pa_nil)) (pv 3)))
      (pss_cons (ps_set (i := 4) scD.nd rfl (Or.inl rfl) (pe_op op_mod (pe_callTy call_int1 (by rfl) T.int (by decide +kernel) (pa_cons (pe_op op_mul (pv 4)
            (pe_op op_add (pe_op op_mod (pe_callTy call_int1 (by rfl) T.int (by decide +kernel) (pa_cons (pv 4) pa_nil)) pe_int) (pe_op op_mul pe_int (pe_ix ix_list (pv 0) pe_int (fun _ _ => rfl))))) pa_nil)) pe_int))
      (pss_one (ps_ret (pe_op op_mod (pe_callTy call_int1 (by rfl) T.int (by decide +kernel) (pa_cons (pe_op op_fdiv (pv 4) pe_int) pa_nil)) (pv 1)))))))), ?_⟩
    refine ⟨_, rfl, l, _, 0, _, rfl, rfl, SqL.of hl, atI_nat (j := 0) rfl, _, _, rfl, rfl, _, rfl, ?_⟩
    refine ite2 (fun _ => ?_) (fun _ => ?_)
    · refine ⟨_, rfl, l, _, 0, _, rfl, rfl, SqL.of hl, atI_nat (j := 0) rfl, .inl ⟨a, rfl, _, rfl, _, _, rfl, rfl, hm, ?_⟩⟩
      refine ⟨_, rfl, l, _, 0, _, rfl, rfl, SqL.of hl, atI_nat (j := 0) rfl, _, rfl, _, _, rfl, rfl, ⟨hm, by omega⟩, ?_⟩
      refine ⟨_, rfl, l, _, 0, 0, rfl, rfl, hl, (by show ixN 3 0 = some 0; decide +kernel), ?_⟩
      refine ⟨_, rfl, ?_⟩
      exact k _ _ SameX.upd ⟨a / many, m, c, upd_same, hm0, hm1, hc0, by omega⟩ (Int.emod_nonneg _ (by omega)) (Int.emod_lt_of_pos _ hm)
    · refine ⟨_, rfl, l, _, 2, _, rfl, rfl, SqL.of hl, atI_nat (j := 2) rfl, _, _, rfl, rfl, ?_⟩
      refine ⟨_, rfl, l, _, 2, 2, rfl, rfl, hl, (by show ixN 3 2 = some 2; decide +kernel), ?_⟩
      -- pot[2] is one greater
      have hl1 : (L2.upd H l (.lst [.int a, .int m, .int (c + 1)])) l = some (.lst [.int a, .int m, .int (c + 1)]) := upd_same
      refine ⟨by show 5 ≤ sizeLine; decide, fun p hp => ?_⟩
      have pl : l ≠ p := ne_of_none hl1 hp
      have hl2 : (L2.upd (L2.upd H l (.lst [.int a, .int m, .int (c + 1)])) p (.lst primes)) l = some (.lst [.int a, .int m, .int (c + 1)]) := by rw [upd_ne pl]; exact hl1
      obtain ⟨v, hv, v0, v1⟩ := prime_at (c + 1)
      refine ⟨_, rfl, l, _, 2, _, rfl, rfl, SqL.of hl2, atI_nat (j := 2) rfl, .inl ⟨c + 1, rfl, _, _, rfl, rfl, (by show (0 : Int) < 5; decide), ?_⟩⟩
      refine ⟨p, primes, _, _, rfl, rfl, SqL.of upd_same, hv, ?_⟩
      have c1 : 0 ≤ c + 1 := by omega
      have c2 : c + 1 ≤ 100001 := by omega
      have sq1 : 0 ≤ (c + 1) * (c + 1) := Int.mul_nonneg c1 c1
      have sq2 : (c + 1) * (c + 1) ≤ 100001 * 100001 := Int.mul_le_mul c2 c2 c1 (by decide)
      have e99 : 99991 * (c + 1) * (c + 1) = 99991 * ((c + 1) * (c + 1)) := Int.mul_assoc _ _ _
      refine ⟨_, rfl, l, _, 1, _, rfl, rfl, SqL.of hl2, atI_nat (j := 1) rfl, _, rfl, l, _, 2, _, rfl, rfl, SqL.of hl2, atI_nat (j := 2) rfl, _, _, rfl, rfl, .inl (by constructor <;> omega),
        _, rfl, l, _, 2, _, rfl, rfl, SqL.of hl2, atI_nat (j := 2) rfl, _, _, rfl, rfl, .inl (by constructor <;> omega), _, _, rfl, rfl, _, _, rfl, rfl, _, _, rfl, rfl, ⟨by decide, by decide, by omega⟩, ?_⟩
      refine .inl ⟨_, rfl, _, rfl, _, _, rfl, rfl, v0, ?_⟩
      generalize hx : (m + 99991 * (c + 1) * (c + 1) + 61) ^ (3 : Int).toNat % v = x
      have x0 : 0 ≤ x := by rw [← hx]; exact Int.emod_nonneg _ (by omega)
      have x1 : x < v := by rw [← hx]; exact Int.emod_lt_of_pos _ v0
      refine ⟨_, rfl, _, rfl, .inl ⟨_, rfl, _, _, rfl, rfl, (by show (0 : Int) < 10007; decide), _, rfl, l, _, 2, _, rfl, rfl, SqL.of hl2, atI_nat (j := 2) rfl, _, _, rfl, rfl, .inl (by constructor <;> omega), _, _, rfl, rfl,
        _, _, rfl, rfl, .inl (by constructor <;> omega), ?_⟩⟩
      refine .inl ⟨_, rfl, _, _, rfl, rfl, (by show (0 : Int) < 2305843009213693907; decide), ?_⟩
      refine ⟨_, rfl, _, _, rfl, rfl, ⟨by decide, by decide⟩, .inl ⟨_, rfl, _, rfl, _, _, rfl, rfl, hm, ?_⟩⟩
      refine k _ _ (SameX.trans SameX.upd (Same.x (Same.upd hp) l)) ⟨a, m, c + 1, hl2, hm0, hm1, c1, by omega⟩ (Int.emod_nonneg _ (by omega)) (Int.emod_lt_of_pos _ hm)

def spAny : Sp := fun vs H Q _ => ∃ (l : Addr) (n : Int) (v : V), vs = [.ref l, v] ∧ PotOk n H l ∧ n ≤ 100000 ∧
  ((∃ (a : Addr) (xs : List V), v = .ref a ∧ a ≠ l ∧ H a = some (.lst xs) ∧ 0 < xs.length ∧ xs.length < 1000 ∧ ∀ (H' : Hp) (x : V), SameX l H H' → PotOk (n + 1) H' l → x ∈ xs → Q x H') ∨
    ∃ z : Str, v = .str z ∧ 0 < z.length ∧ z.length < 1000 ∧ ∀ (H' : Hp) (c : Nat), SameX l H H' → PotOk (n + 1) H' l → c ∈ z.cps.toList → Q (.str ⟨#[c]⟩) H')
theorem scY : FnScope ["_law_pot_here", "_law_items"] ["_law_pot_here", "_law_items"] (defScope s__law_any) := ⟨rfl, rfl, rfl, by decide +kernel, rfl, by decide +kernel, by decide +kernel⟩
theorem ok_any {f g : Addr} {fd fdG : FuncData} (F : Fun K "_law_any" "_law_any" s__law_any f fd) (T : Names mg) (G : FnOk P w K mg base CX0 2 g fdG ["_law_pot_here", "_law_many"] spDraw) (mgG : mg "_law_draw" = some (.ref g)) (kG : PySem.W.keepIn K (.ref g) = true) (bG : Binds K fdG ["_law_pot_here", "_law_many"] []) :
    FnOk P w K mg base CX0 3 f fd ["_law_pot_here", "_law_items"] spAny := by
  refine F.ok scY (fun vs H Q E h => ?_) (fun cdv A outer s H vs Q E hr h => ?_)
  · obtain ⟨l, n, v, rfl, _⟩ := h
    rfl
  · obtain ⟨l, n, v, rfl, hp, hn, h⟩ := h
    refine ⟨_, pss_one (ps_ret (pe_ix (ix_list.or ix_str) (pv 1) (pe_call G hr rfl mgG kG bG .nil pass0 (pa_cons (pv 0) (pa_cons (pe_callB (call_len_seq.or call_len_str) (by rfl) T.len PySem.boot_len (pa_cons (pv 1) pa_nil)) pa_nil))) (fun _ _ => rfl))), ?_⟩
    rcases h with ⟨a, xs, rfl, hal, ha, h0, h1, k⟩ | ⟨z, rfl, h0, h1, k⟩
    · refine ⟨_, rfl, _, rfl, _, rfl, .inl ⟨a, xs, rfl, .inl (SqL.of ha), l, xs.length, n, rfl, hp, hn, by omega, by omega, fun H' r sx hp' r0 r1 => ?_⟩⟩
      have hlt : r.toNat < xs.length := by omega
      refine .inl ⟨a, xs, r, xs[r.toNat], rfl, rfl, SqL.of (sx _ _ hal ha), at_of (j := r.toNat) (by omega) (List.getElem?_eq_getElem hlt), ?_⟩
      exact k H' _ sx hp' (List.getElem_mem hlt)
    · have hz : z.length ≤ sizeLine := Nat.le_trans (Nat.le_of_lt h1) (by decide)
      refine ⟨_, rfl, _, rfl, _, rfl, .inr ⟨z, rfl, hz, l, z.length, n, rfl, hp, hn, by omega, by omega, fun H' r sx hp' r0 r1 => ?_⟩⟩
      obtain ⟨j, rfl⟩ := Int.eq_ofNat_of_zero_le r0
      have hlt : j < z.cps.toList.length := by
        rw [Array.length_toList]
        show j < z.length
        omega
      refine .inr ⟨z, _, z.cps.toList[j], rfl, rfl, hz, atI_nat (j := j) (List.getElem?_eq_getElem hlt), ?_⟩
      exact k H' _ sx hp' (List.getElem_mem hlt)
def spPot (K : PySem.W.Frag) : Sp := fun vs H Q _ => ∃ (a : Addr) (ns : List Int) (k : Int), vs = [.ref a, .int k] ∧ SqL K H a (ns.map V.int) ∧ 0 ≤ k ∧ k < 1000 ∧
  ∀ (H' : Hp) (l : Addr), Same H H' → H l = none → PotOk 0 H' l → Q (.ref l) H'
theorem scPt : FnScope ["_law_script", "_law_k", "_law_cell", "_law_own"] ["_law_script", "_law_k"] (defScope s__law_pot) := ⟨rfl, rfl, rfl, by decide +kernel, rfl, by decide +kernel, by decide +kernel⟩
theorem ok_pot {f : Addr} {fd : FuncData} (F : Fun K "_law_pot" "_law_pot" s__law_pot f fd) (T : Names mg) : FnOk P w K mg base CX0 2 f fd ["_law_script", "_law_k"] (spPot K) := by
  refine F.ok scPt (fun vs H Q E h => ?_) (fun cdv A outer s H vs Q E hr h => ?_)
  · obtain ⟨a, ns, k, rfl, _⟩ := h
    rfl
  · obtain ⟨a, ns, k, rfl, ha, h0, h1, q⟩ := h
    refine ⟨_, pss_cons (ps_set (i := 2) scPt.nd rfl (Or.inl rfl) (pe_ifExp (pt_cmpR op_lt (pv 1) (pe_callB call_len_seq (by rfl) T.len PySem.boot_len (pa_cons (pv 0) pa_nil)) (nomark _)) (pe_ix ix_list (pv 0) (pv 1) (fun _ _ => rfl))
          (pe_op op_add (pe_op op_mul pe_int (pv 1)) pe_int)))
      (pss_cons (ps_set (i := 3) scPt.nd rfl (Or.inl rfl) (pe_op op_mul (pe_op op_mod (pe_callTy call_int1 (by rfl) T.int (by decide +kernel) (pa_cons (pe_callB call_abs (by rfl) T.abs (by decide +kernel) (pa_cons (pv 2) pa_nil)) pa_nil))
            (pe_op op_powW (pe_op op_pow pe_int pe_int) pe_int))
          (pe_callTy call_int1 (by rfl) T.int (by decide +kernel) (pa_cons (pe_cmpR op_ge (pe_callB call_abs (by rfl) T.abs (by decide +kernel) (pa_cons (pv 2) pa_nil)) (pe_op op_pow pe_int pe_int) (nomark _)) pa_nil))))
      (pss_one (ps_ret (pe_lst (pa_cons (pv 3) (pa_cons (pe_op op_mod (pe_callTy call_int1 (by rfl) T.int (by decide +kernel) (pa_cons (pe_op op_add (pe_op op_add
          (pe_op op_mul (pe_op op_mod (pe_callTy call_int1 (by rfl) T.int (by decide +kernel) (pa_cons (pv 2) pa_nil)) pe_int) pe_int) (pe_op op_mul (pe_op op_mul pe_int (pv 1)) (pv 1))) pe_int) pa_nil)) pe_int) (pa_cons pe_int pa_nil))))))), ?_⟩
    refine ⟨_, rfl, _, rfl, a, _, rfl, .inl ha, _, _, rfl, rfl, _, rfl, ?_⟩
    refine if_read (W := fun v => ∃ c, v = V.int c) (fun c Q' hq => ?_) (fun c Q' hq => ?_) (fun v ⟨c, ec⟩ => ?_)
    · have c' : k < ((ns.map V.int).length : Int) := of_decide_eq_true c
      rw [List.length_map] at c'
      have hlt : k.toNat < ns.length := by omega
      refine ⟨_, rfl, _, rfl, a, _, k, .int ns[k.toNat], rfl, rfl, ha, at_of (j := k.toNat) (by omega) ?_, hq _ ⟨_, rfl⟩⟩
      rw [List.getElem?_map, List.getElem?_eq_getElem hlt]
      rfl
    · exact ⟨_, rfl, _, _, rfl, rfl, .inl ⟨by decide, by decide⟩, _, _, rfl, rfl, hq _ ⟨_, rfl⟩⟩
    · subst ec
      refine ⟨_, rfl, _, rfl, .inl ⟨_, rfl, _, _, rfl, rfl, ⟨by decide, by decide, by decide⟩, _, _, rfl, rfl, ⟨by decide, by decide +kernel⟩, _, _, rfl, rfl, (by show (0 : Int) < ((10 : Int) ^ Int.toNat 60) ^ Int.toNat 5; decide +kernel), ?_⟩⟩
      refine ⟨_, rfl, _, rfl, _, _, rfl, rfl, ⟨by decide, by decide, by decide⟩, _, _, rfl, rfl, .inr ⟨_, rfl, _, _, rfl, rfl, .inr ?_, ?_⟩⟩
      · have z : ∀ b : Bool, -(2 ^ 64) < (if b = true then (1 : Int) else 0) ∧ (if b = true then (1 : Int) else 0) < 2 ^ 64 := by decide
        exact z _
      refine ⟨_, rfl, _, rfl, .inl ⟨c, rfl, _, _, rfl, rfl, (by show (0 : Int) < 2305843009213693951; decide), _, _, rfl, rfl, .inr ⟨by decide, by decide⟩, _, rfl, _, _, rfl, rfl, .inl ⟨by decide, by decide⟩, _, rfl, _, _, rfl, rfl, .inl ⟨by omega, by omega⟩, _, _, rfl, rfl, _, _, rfl, rfl,
        .inl ⟨_, rfl, _, _, rfl, rfl, (by show (0 : Int) < 2305843009213693921; decide), (by show 3 ≤ sizeLine; decide), fun l hl => ?_⟩⟩⟩
      refine q _ l (Same.upd hl) hl ⟨_, _, 0, upd_same, Int.emod_nonneg _ (by decide), ?_, Int.le_refl _, Int.le_refl _⟩
      refine Int.lt_trans (Int.emod_lt_of_pos _ (by decide)) (by decide)
end
end Sps
set_option Elab.async false
set_option linter.all false
set_option maxRecDepth 100000
set_option maxHeartbeats 4000000
/-! The law's words. -/
namespace Sps
open PySem PySem.Spec PyProof.Rows L2
def c1 (c : Nat) : Str := ⟨#[c]⟩
theorem cps_app (a b : Str) : (a ++ b).cps.toList = a.cps.toList ++ b.cps.toList := by
  show (a.cps ++ b.cps).toList = _
  simp
theorem join_c1 : ∀ zs : List Nat, (Str.join "" (zs.map c1)).cps.toList = zs
  | [] => rfl
  | [c] => rfl
  | c :: d :: r => by
    show ((c1 c) ++ ("" : Str) ++ Str.join "" ((d :: r).map c1)).cps.toList = _
    rw [cps_app, cps_app, join_c1 (d :: r)]
    rfl
theorem alpha_at (i : Nat) (h : i < 26) : alphaL.cps.toList[i]? = some (97 + i) := by
  have h2 : ∀ i : Fin 26, alphaL.cps.toList[i.val]? = some (97 + i.val) := by decide +kernel
  exact h2 ⟨i, h⟩
theorem len_cps (z : Str) : z.length = z.cps.toList.length := by rw [Array.length_toList]; rfl
def wd (stem : Str) (s : Int) (c : Nat) : Str := (cutS stem none (some s) ++ c1 c) ++ cutS stem (some s) none
theorem wd_tl {stem : Str} {s : Nat} (h : s ≤ stem.length) (c : Nat) : (wd stem (s : Int) c).cps.toList = stem.cps.toList.take s ++ c :: stem.cps.toList.drop s := by
  unfold wd
  rw [cps_app, cps_app]
  have e1 : (cutS stem none (some (s : Int))).cps.toList = stem.cps.toList.take s := by
    unfold cutS
    rw [HT.sIx_nat, HT.sIx_none, Nat.min_eq_left h]
    simp
  have e2 : (cutS stem (some (s : Int)) none).cps.toList = stem.cps.toList.drop s := by
    unfold cutS
    rw [HT.sIx_nat, HT.sIx_none, Nat.min_eq_left h]
    show List.take _ _ = _
    rw [List.take_of_length_le]
    rw [List.length_drop, ← len_cps]
    exact Nat.le_refl _
  rw [e1, e2]
  show (List.take s _ ++ [c]) ++ _ = _
  simp
theorem wd_ok {stem : Str} {s : Nat} (h : s ≤ stem.length) (hl : stem.length ≤ 7) (ha : ∀ c ∈ stem.cps.toList, c ∈ alphaL.cps.toList) {c : Nat} (hc : c ∈ alphaL.cps.toList) : lettersOk alphaL (wd stem (s : Int) c) = true := by
  have e := wd_tl h c
  have l : (wd stem (s : Int) c).length = stem.length + 1 := by
    rw [len_cps, e, List.length_append, List.length_cons, List.length_take, List.length_drop, ← len_cps]
    omega
  unfold lettersOk
  rw [l, e, Bool.and_eq_true_iff, Bool.and_eq_true_iff]
  refine ⟨⟨decide_eq_true (by omega), decide_eq_true (by omega)⟩, List.all_eq_true.mpr fun d m => decide_eq_true ?_⟩
  rcases List.mem_append.mp m with q | q
  · exact ha d (List.mem_of_mem_take q)
  · rcases List.mem_cons.mp q with q | q
    · rw [q]; exact hc
    · exact ha d (List.mem_of_mem_drop q)
theorem wd_inj {stem : Str} {s : Nat} (h : s ≤ stem.length) {c d : Nat} (e : wd stem (s : Int) c = wd stem (s : Int) d) : c = d := by
  have e2 := congrArg (fun z : Str => z.cps.toList) e
  have e3 : stem.cps.toList.take s ++ c :: stem.cps.toList.drop s = stem.cps.toList.take s ++ d :: stem.cps.toList.drop s := by rw [← wd_tl h c, ← wd_tl h d]; exact e2
  have e4 := List.append_cancel_left e3
  injection e4
/-- the letter of the word k -/
def letter (f : Int) (k : Nat) : Nat := 97 + ((f + 3 * (0 + (k : Int))) % 26).toNat
theorem letter_at (f : Int) (k : Nat) : atI alphaL.cps.toList ((f + 3 * (0 + (k : Int))) % 26) = some (letter f k) := by
  have h0 : 0 ≤ (f + 3 * (0 + (k : Int))) % 26 := Int.emod_nonneg _ (by decide)
  have h1 : (f + 3 * (0 + (k : Int))) % 26 < 26 := Int.emod_lt_of_pos _ (by decide)
  unfold letter
  generalize (f + 3 * (0 + (k : Int))) % 26 = x at h0 h1
  obtain ⟨j, rfl⟩ := Int.eq_ofNat_of_zero_le h0
  exact atI_nat (j := j) (alpha_at j (by omega))
theorem letter_mem (f : Int) (k : Nat) : letter f k ∈ alphaL.cps.toList := by
  have h1 : (f + 3 * (0 + (k : Int))) % 26 < 26 := Int.emod_lt_of_pos _ (by decide)
  have h0 : 0 ≤ (f + 3 * (0 + (k : Int))) % 26 := Int.emod_nonneg _ (by decide)
  exact List.mem_of_getElem? (alpha_at ((f + 3 * (0 + (k : Int))) % 26).toNat (by omega))
theorem letter_inj {f : Int} {i j : Nat} (hi : i < 8) (hj : j < 8) (e : letter f i = letter f j) : i = j := by
  unfold letter at e
  omega
theorem PotOk.ne {n : Int} {H : Hp} {l D : Addr} (h : PotOk n H l) (hD : H D = none) : l ≠ D := by
  obtain ⟨a, m, c, e, _⟩ := h
  exact ne_of_none e hD
theorem PotOk.upd {n : Int} {H : Hp} {l D : Addr} {o : HO} (h : PotOk n H l) (ne : l ≠ D) : PotOk n (L2.upd H D o) l := by
  obtain ⟨a, m, c, e, r⟩ := h
  exact ⟨a, m, c, by rw [upd_ne ne]; exact e, r⟩
theorem nodup_map {α β : Type} {f : α → β} : ∀ {l : List α}, l.Nodup → (∀ i ∈ l, ∀ j ∈ l, f i = f j → i = j) → (l.map f).Nodup
  | [], _, _ => .nil
  | a :: l, h, k => by
    obtain ⟨h1, h2⟩ := List.nodup_cons.mp h
    rw [List.map_cons]
    refine List.nodup_cons.mpr ⟨fun m => ?_, nodup_map h2 fun i hi j hj => k i (List.mem_cons_of_mem _ hi) j (List.mem_cons_of_mem _ hj)⟩
    obtain ⟨b, mb, e⟩ := List.mem_map.mp m
    exact h1 (k b (List.mem_cons_of_mem _ mb) a List.mem_cons_self e ▸ mb)
section
variable {P : Program} {w : World} {K : PySem.W.Frag} {mg : Str → Option Value} {base : Heap}
def spWords : Sp := fun vs H Q _ => ∃ (l : Addr) (n : Int) (m : Nat), vs = [.ref l, .int m] ∧ PotOk n H l ∧ n ≤ 90000 ∧ m < 8 ∧
  ∀ (H' : Hp) (a : Addr) (ws : List Str), SameX l H H' → PotOk (n + 10) H' l → H a = none → a ≠ l → H' a = some (.lst (ws.map V.str)) → ws.length = m → ws.Nodup → (∀ z ∈ ws, lettersOk alphaL z = true) → Q (.ref a) H'
abbrev nWo : List Str := ["_law_pot_here", "_law_many", "_law_small", "_law_stem", "_law_turn", "_law_spot", "_law_first", "_law_k"]
theorem scWo : FnScope nWo ["_law_pot_here", "_law_many"] (defScope s__law_words) := ⟨rfl, rfl, rfl, by decide +kernel, rfl, by decide +kernel, by decide +kernel⟩
theorem ok_words {f gD gA : Addr} {fd fdD fdA : FuncData} (F : Fun K "_law_words" "_law_words" s__law_words f fd) (T : Names mg)
    (D : FnOk P w K mg base CX0 2 gD fdD ["_law_pot_here", "_law_many"] spDraw) (mD : mg "_law_draw" = some (.ref gD)) (kD : PySem.W.keepIn K (.ref gD) = true) (bD : Binds K fdD ["_law_pot_here", "_law_many"] [])
    (A : FnOk P w K mg base CX0 3 gA fdA ["_law_pot_here", "_law_items"] spAny) (mA : mg "_law_any" = some (.ref gA)) (kA : PySem.W.keepIn K (.ref gA) = true) (bA : Binds K fdA ["_law_pot_here", "_law_items"] []) : FnOk P w K mg base CX0 4 f fd ["_law_pot_here", "_law_many"] spWords := by
  refine F.ok scWo (fun vs H Q E h => ?_) (fun cdv Ar outer s H vs Q E hr h => ?_)
  · obtain ⟨_, _, _, rfl, _⟩ := h
    rfl
  · obtain ⟨l, n, m, rfl, hp, hn, hm, h⟩ := h
    have hr2 : Room 2 _ := hr.mono (by decide)
    refine ⟨_, pss_cons (ps_set (i := 2) scWo.nd rfl (Or.inr rfl) pe_str)
      (pss_cons (ps_set (i := 3) scWo.nd rfl (Or.inr rfl) (pe_join pe_str (pe_lc (own := [("_law_turn", 4)]) (g := gName 4) (tt := tYes) rfl scWo.nd (pi_range1 rfl T.range (pa_cons (pe_call D hr2 rfl mD kD bD .nil pass0 (pa_cons (pv 0) (pa_cons pe_int pa_nil))) pa_nil)) (blkOk_by (own := [("_law_turn", 4)]) (N := nWo) (sc := defScope s__law_words) (by decide +kernel))
          (fun _ _ _ _ _ => pg_name (i := 4) scWo.nd rfl (Or.inl rfl)) (fun _ _ _ _ _ => pts_nil) (fun _ _ _ _ _ => pe_call A hr rfl mA kA bA .nil pass0 (pa_cons (pv 0) (pa_cons (pv 2) pa_nil))))))
      (pss_cons (ps_asg (pe_tup (pa_cons (pe_call D hr2 rfl mD kD bD .nil pass0 (pa_cons (pv 0) (pa_cons (pe_op op_add (pe_callB call_len_str (by rfl) T.len PySem.boot_len (pa_cons (pv 3) pa_nil)) pe_int) pa_nil))) (pa_cons (pe_call D hr2 rfl mD kD bD .nil pass0 (pa_cons (pv 0) (pa_cons pe_int pa_nil))) pa_nil)))
          (pg_tup rfl (pgs_cons (pg_name (i := 5) scWo.nd rfl (Or.inr rfl)) (pgs_cons (pg_name (i := 6) scWo.nd rfl (Or.inr rfl)) pgs_nil))))
      (pss_one (ps_ret (pe_lc (own := [("_law_k", 7)]) (g := gName 7) (tt := tYes) rfl scWo.nd (pi_range1 rfl T.range (pa_cons (pv 1) pa_nil)) (blkOk_by (own := [("_law_k", 7)]) (N := nWo) (sc := defScope s__law_words) (by decide +kernel))
          (fun _ _ _ _ _ => pg_name (i := 7) scWo.nd rfl (Or.inl rfl)) (fun _ _ _ _ _ => pts_nil)
          (fun _ _ _ _ _ => pe_op op_add_str (pe_op op_add_str (pe_slice sl_str (pv 3) po_none (po_some (pv 5))) (pe_ix ix_str (pv 2) (pe_op op_mod (pe_callTy call_int1 (by rfl) T.int (by decide +kernel) (pa_cons (pe_op op_add (pv 6) (pe_op op_mul pe_int (pv 7))) pa_nil)) pe_int) (fun _ _ => rfl)))
            (pe_slice sl_str (pv 3) (po_some (pv 5)) po_none))))))), ?_⟩
    -- the stem
    have sxH : ∀ {H1 H' : Hp}, SameX l H H1 → SameX l H1 H' → SameX l H H' := fun a b => a.trans b
    refine ⟨⟨_, rfl⟩, _, rfl, l, 8, n, rfl, hp, by omega, by decide, by decide, fun H1 r x1 hp1 r0 r1 => ?_⟩
    obtain ⟨j, rfl⟩ := Int.eq_ofNat_of_zero_le r0
    refine ⟨(j : Int), rfl, by omega, by omega, fun D1 hD1 => ?_⟩
    have nl1 : l ≠ D1 := hp1.ne hD1
    refine lc_it (walk_range (lo := 0) (n := ((j : Int)).toNat)) (fun i H' => ∃ zs : List Nat, SameX l H1 H' ∧ H' D1 = some (.lst (zs.map fun c => V.str (c1 c))) ∧ zs.length = i ∧ (∀ c ∈ zs, c ∈ alphaL.cps.toList) ∧ PotOk (n + 1 + i) H' l) ⟨[], Same.x (Same.upd hD1) l, upd_same, rfl, fun _ m => (List.not_mem_nil m).elim, (hp1.upd nl1).mono (by omega)⟩ (fun _ _ _ _ => trivial) ?_ ?_
    · rintro i x H2 H3 hi ⟨zs, sx, hD, hz, ha, hp2⟩ y
      obtain ⟨rfl, rfl⟩ := y
      refine ⟨rfl, ?_⟩
      refine ⟨_, rfl, _, rfl, l, n + 1 + i, _, rfl, hp2, by omega, .inr ⟨alphaL, rfl, by decide +kernel, by decide +kernel, fun H4 c x4 hp4 mc => ?_⟩⟩
      refine ⟨_, x4 _ _ nl1.symm hD, ?_, zs ++ [c], fun b o nb e => ?_, ?_, ?_, ?_, ?_⟩
      · rw [List.length_map, hz]
        exact Nat.lt_of_lt_of_le hi (Nat.le_trans (by omega : ((j : Int)).toNat ≤ 8) (by decide))
      · rw [upd_ne (ne_of_none e hD1)]
        exact (sx.trans x4) b o nb e
      · rw [upd_same, List.map_append]
        rfl
      · rw [List.length_append, hz]
        rfl
      · intro d md
        rcases List.mem_append.mp md with q | q
        · exact ha d q
        · rw [List.mem_singleton.mp q]; exact mc
      · exact (hp4.upd nl1).mono (by push_cast; omega)
    · rintro H2 ⟨zs, sx, hD, hz, ha, hp2⟩
      have hzl : zs.length ≤ 7 := by omega
      have ezs : (zs.map fun c => V.str (c1 c)) = (zs.map c1).map V.str := by rw [List.map_map]; rfl
      rw [ezs] at hD
      have hst := join_c1 zs
      refine ⟨"", D1, zs.map c1, rfl, rfl, .inl (SqL.of hD), ?_, ?_⟩
      · have : ((zs.map c1).map (·.length)).sum = zs.length := by
          clear hst ezs hD ha hz hzl
          induction zs with
          | nil => rfl
          | cons c r ih =>
            rw [List.map_cons, List.map_cons, List.sum_cons, ih, List.length_cons]
            show 1 + _ = _
            omega
        rw [this, List.length_map]
        show zs.length + zs.length * 0 ≤ _
        omega
      rw [TL.join_eq]
      generalize eS : Str.join "" (zs.map c1) = stem at hst
      have hsl : stem.length ≤ 7 := by rw [len_cps, hst]; exact hzl
      have hsa : ∀ c ∈ stem.cps.toList, c ∈ alphaL.cps.toList := by rw [hst]; exact ha
      have hs16 : stem.length ≤ sizeLine := Nat.le_trans hsl (by decide)
      -- the spot, the first letter
      refine ⟨_, rfl, _, rfl, stem, rfl, hs16, _, _, rfl, rfl, l, _, _, rfl, hp2, by omega, by omega, by omega, fun H3 s0 x3 hp3 s0a s0b => ?_⟩
      obtain ⟨s, rfl⟩ := Int.eq_ofNat_of_zero_le s0a
      refine ⟨_, rfl, l, 26, _, rfl, hp3, by omega, by decide, by decide, fun H4 f x4 hp4 f0 f1 => ?_⟩
      refine ⟨(by show 2 ≤ sizeLine; decide), fun t ht => ?_⟩
      refine ⟨t, _, rfl, tupAt upd_same, rfl, _, _, rfl, _, _, rfl, rfl, ?_⟩
      have hss : s ≤ stem.length := by omega
      -- the words
      have x14 : SameX l H (L2.upd H4 t (.tup [.int (s : Int), .int f])) := ((x1.trans sx).trans (x3.trans x4)).trans (Same.x (Same.upd ht) l)
      have hp5 : PotOk (n + 10) (L2.upd H4 t (.tup [.int (s : Int), .int f])) l := (hp4.upd (hp4.ne ht)).mono (by omega)
      generalize eH : L2.upd H4 t (.tup [.int (s : Int), .int f]) = H5 at x14 hp5
      refine ⟨_, rfl, (m : Int), rfl, by omega, by omega, fun D2 hD2 => lc_vals (walk_range (lo := 0) (n := ((m : Int)).toNat)) (fun i => V.str (wd stem (s : Int) (letter f i))) (Nat.lt_of_le_of_lt (by omega : ((m : Int)).toNat ≤ 8) (by decide)) hD2 (fun _ _ => trivial) (fun i x H6 H7 Nx hi s6 y k => ?_) (fun H6 s6 hL => ?_)⟩
      · obtain ⟨rfl, rfl⟩ := y
        refine ⟨rfl, ?_⟩
        have hc1 : (c1 (letter f i)).length = 1 := rfl
        have l1 := cutS_length stem none (some (s : Int))
        have l2 := cutS_length stem (some (s : Int)) none
        have sz : (30 : Nat) ≤ sizeLine := by decide
        have lapp : ∀ a b : Str, (a ++ b).length = a.length + b.length := fun a b => by rw [len_cps, cps_app, List.length_append, ← len_cps, ← len_cps]
        refine ⟨_, rfl, _, rfl, _, rfl, stem, rfl, hs16, _, rfl, _, rfl, _, rfl, _, _, rfl, rfl, .inl ⟨by decide, by decide⟩, _, _, rfl, rfl, .inl ⟨_, rfl, _, _, rfl, rfl, (by show (0 : Int) < 26; decide), alphaL, _, letter f i, rfl, rfl, by decide +kernel, letter_at f i, ?_⟩⟩
        refine ⟨_, _, rfl, rfl, ?_, _, rfl, _, rfl, _, rfl, stem, rfl, hs16, _, _, rfl, rfl, ?_, k _ _ rfl (Same.refl _)⟩
        · show (cutS stem none (some (s : Int))).length + (c1 (letter f i)).length ≤ _
          omega
        · show (cutS stem none (some (s : Int)) ++ c1 (letter f i)).length + (cutS stem (some (s : Int)) none).length ≤ _
          rw [lapp]
          omega
      · have em : ((m : Int)).toNat = m := by omega
        rw [em] at hL
        have eW : ((List.range m).map fun i => V.str (wd stem (s : Int) (letter f i))) = ((List.range m).map fun i => wd stem (s : Int) (letter f i)).map V.str := by rw [List.map_map]; rfl
        rw [eW] at hL
        have nD2 : l ≠ D2 := hp5.ne hD2
        have hD2H : H D2 = none := by
          cases q : H D2 with
          | none => rfl
          | some o => rw [x14 _ _ nD2.symm q] at hD2; cases hD2
        refine h H6 D2 _ (x14.trans (Same.x s6 l)) (hp5.same s6) hD2H nD2.symm hL (by rw [List.length_map, List.length_range]) ?_ ?_
        · refine nodup_map List.nodup_range ?_
          intro i hi j hj e
          exact letter_inj (by have := List.mem_range.mp hi; omega) (by have := List.mem_range.mp hj; omega) (wd_inj hss e)
        · intro z mz
          obtain ⟨i, _, rfl⟩ := List.mem_map.mp mz
          exact wd_ok hss hsl hsa (letter_mem f i)
end
end Sps
set_option Elab.async false
set_option linter.all false
set_option maxRecDepth 100000
set_option maxHeartbeats 4000000
/-! The law's copies. -/
namespace Sps
open PySem PySem.Spec PyProof.Rows L2
theorem ascB_of {rs : List Cp} (h : rs.Pairwise fun a b => ltS a.1 b.1 = true) : ascB rs = true := by
  refine List.all_eq_true.mpr fun i hi => ?_
  have hi2 := List.mem_range.mp hi
  have h1 : i < rs.length := by omega
  have h2 : i + 1 < rs.length := by omega
  rw [nm_at (List.getElem?_eq_getElem h1), nm_at (List.getElem?_eq_getElem h2)]
  exact List.pairwise_iff_getElem.mp h i (i + 1) h1 h2 (Nat.lt_succ_self _)
theorem look_nd : ∀ {rs : List Cp} {r : Cp}, (rs.map (·.1)).Nodup → r ∈ rs → look rs r.1 = some r.2
  | [], _, _, m => by cases m
  | x :: rs, r, nd, m => by
    rw [List.map_cons, List.nodup_cons] at nd
    rw [look_cons]
    rcases List.mem_cons.mp m with e | m
    · rw [if_pos (by rw [e]), e]
    · rw [if_neg (fun e => nd.1 (by rw [e]; exact List.mem_map.mpr ⟨r, m, rfl⟩))]
      exact look_nd nd.2 m
/-- each follows none or an earlier one -/
def Back (ls : List Cp) : Prop := ∀ (j : Nat) (r : Cp), ls[j]? = some r → r.2 = none ∨ ∃ (i : Nat) (q : Cp), i < j ∧ ls[i]? = some q ∧ r.2 = some q.1
theorem back_good {ls rs : List Cp} (hb : Back ls) (hp : rs.Perm ls) (nd : (ls.map (·.1)).Nodup) (hs : rs.Pairwise fun a b => ltS a.1 b.1 = true) : goodB rs = true := by
  have ndr : (rs.map (·.1)).Nodup := (hp.map _).nodup_iff.mpr nd
  have lk : ∀ {j : Nat} {r : Cp}, ls[j]? = some r → look rs r.1 = some r.2 := fun {j r} e => look_nd ndr (hp.mem_iff.mpr (List.mem_of_getElem? e))
  have hlead : ∀ (j k : Nat) (r : Cp), ls[j]? = some r → j < k → lead rs k r.1 = true := by
    intro j
    induction j using Nat.strongRecOn with
    | _ j ih =>
      intro k r e hk
      obtain ⟨k, rfl⟩ : ∃ k', k = k' + 1 := ⟨k - 1, by omega⟩
      unfold lead
      rw [lk e]
      rcases hb j r e with q | ⟨i, q, hi, hq, e2⟩
      · rw [q]
      · rw [e2]
        exact ih i hi k q hq (by omega)
  have at_ : ∀ {r : Cp}, r ∈ rs → ∃ j : Nat, ls[j]? = some r ∧ j < ls.length := fun {r} m => by
    obtain ⟨j, hj⟩ := List.mem_iff_getElem?.mp (hp.mem_iff.mp m)
    exact ⟨j, hj, (List.getElem?_eq_some_iff.mp hj).1⟩
  unfold goodB
  rw [ascB_of hs, Bool.true_and, Bool.and_eq_true_iff]
  refine ⟨List.all_eq_true.mpr fun r m => ?_, List.all_eq_true.mpr fun r m => ?_⟩
  · obtain ⟨j, hj, _⟩ := at_ m
    unfold follB
    rcases hb j r hj with q | ⟨i, q, hi, hq, e2⟩
    · rw [q]
    · rw [e2]
      show (look rs q.1).isSome = true
      rw [lk hq]
      rfl
  · obtain ⟨j, hj, hl⟩ := at_ m
    exact hlead j _ r hj (by rw [hp.length_eq]; exact hl)
section
variable {P : Program} {w : World} {K : PySem.W.Frag} {mg : Str → Option Value} {base : Heap}
def spCopies : Sp := fun vs H Q _ => ∃ (l : Addr) (n : Int), vs = [.ref l, .int 7] ∧ PotOk n H l ∧ n ≤ 80000 ∧
  ∀ (H' : Hp) (a : Addr) (rs : List Cp), SameX l H H' → PotOk (n + 50) H' l → RowsAt H' a rs → 1 ≤ rs.length → rs.length ≤ 7 → (∀ r ∈ rs, okRow r) → goodB rs = true → Q (.ref a) H'
abbrev nCp : List Str := ["_law_pot_here", "_law_most", "_law_words_here", "_law_found", "_law_spot", "_law_word"]
theorem scCp : FnScope nCp ["_law_pot_here", "_law_most"] (defScope s__law_copies) := ⟨rfl, rfl, rfl, by decide +kernel, rfl, by decide +kernel, by decide +kernel⟩
theorem ok_copies {f gD gW : Addr} {fd fdD fdW : FuncData} (F : Fun K "_law_copies" "_law_copies" s__law_copies f fd) (T : Names mg)
    (D : FnOk P w K mg base CX0 2 gD fdD ["_law_pot_here", "_law_many"] spDraw) (mD : mg "_law_draw" = some (.ref gD)) (kD : PySem.W.keepIn K (.ref gD) = true) (bD : Binds K fdD ["_law_pot_here", "_law_many"] [])
    (W : FnOk P w K mg base CX0 4 gW fdW ["_law_pot_here", "_law_many"] spWords) (mW : mg "_law_words" = some (.ref gW)) (kW : PySem.W.keepIn K (.ref gW) = true) (bW : Binds K fdW ["_law_pot_here", "_law_many"] []) : FnOk P w K mg base CX0 5 f fd ["_law_pot_here", "_law_most"] spCopies := by
  refine F.ok scCp (fun vs H Q E h => ?_) (fun cdv Ar outer s H vs Q E hr h => ?_)
  · obtain ⟨_, _, rfl, _⟩ := h
    rfl
  · obtain ⟨l, n, rfl, hp, hn, h⟩ := h
    have hr2 : Room 2 _ := hr.mono (by decide)
    refine ⟨_, pss_cons (ps_par (i := 2) (j := 3) rfl scCp.nd rfl rfl (by decide) rfl rfl (pa_cons (pe_call W hr rfl mW kW bW .nil pass0 (pa_cons (pv 0) (pa_cons (pe_op op_add pe_int (pe_call D hr2 rfl mD kD bD .nil pass0 (pa_cons (pv 0) (pa_cons (pv 1) pa_nil)))) pa_nil))) (pa_cons (pe_lst pa_nil) pa_nil)) (by rfl))
      (pss_cons (ps_for PassesOwn.never rfl (pi_enum (by rfl) T.enumerate (pa_cons (pv 2) pa_nil)) (pg_tup rfl (pgs_cons (pg_name (i := 4) scCp.nd rfl (Or.inl rfl)) (pgs_cons (pg_name (i := 5) scCp.nd rfl (Or.inl rfl)) pgs_nil)))
        (pss_one (ps_expr (pe_bm PySem.F.plainAttrs_list PySem.F.slot_list_append PySem.F.type_list_append mt_append (pv 3) (pa_cons (pe_tup (pa_cons (pv 5) (pa_cons (pe_ifExp (PW.pt (pw_or (pt_cmpR op_eq (pv 4) pe_int (nomark _))
            (pw_or1 (pt_cmpR op_eq (pe_call D hr2 rfl mD kD bD .nil pass0 (pa_cons (pv 0) (pa_cons pe_int pa_nil))) pe_int (nomark _))))) pe_non (pe_ix ix_list (pv 2) (pe_call D hr2 rfl mD kD bD .nil pass0 (pa_cons (pv 0) (pa_cons (pv 4) pa_nil))) (fun _ _ => rfl))) pa_nil))) pa_nil)))))
      (pss_one (ps_ret (pe_callTy call_tupF (by rfl) T.tuple (by decide +kernel) (pa_cons (pe_callB cr_sortRows (by rfl) T.sorted (by decide +kernel) (pa_cons (pv 3) pa_nil)) pa_nil))))), ?_⟩
    refine ⟨_, rfl, _, rfl, _, rfl, l, 7, n, rfl, hp, by omega, by decide, by decide, fun H1 r x1 hp1 r0 r1 => ⟨_, _, rfl, rfl, ?_⟩⟩
    obtain ⟨m, rfl⟩ := Int.eq_ofNat_of_zero_le r0
    refine ⟨l, n + 1, m + 1, by push_cast; rw [Int.add_comm]; rfl, hp1, by omega, by omega, fun H2 A ws x2 hp2 hA1 nAl hA hwl hnd hok => ?_⟩
    refine ⟨(by show 0 ≤ sizeLine; decide), fun Fd hFd => ⟨_, _, rfl, ?_⟩⟩
    have nAF : A ≠ Fd := ne_of_none hA hFd
    have nlF : l ≠ Fd := hp2.ne hFd
    have s2 : Same H2 (L2.upd H2 Fd (.lst [])) := Same.upd hFd
    have hF3 : (L2.upd H2 Fd (.lst [])) Fd = some (.lst []) := upd_same
    have x13 := (x1.trans x2).trans (Same.x s2 l)
    have hp3 := hp2.same s2
    have hA3 := s2 _ _ hA
    have hFH : H Fd = none := by
      cases q : H Fd with
      | none => rfl
      | some o => rw [(x1.trans x2) _ _ nlF.symm q] at hFd; cases hFd
    generalize eH : L2.upd H2 Fd (.lst []) = H3 at x13 hp3 hA3 hF3
    refine ⟨_, rfl, A, _, rfl, lstAt hA3, for_it (walk_enum (K := K) (a := A) (xs := ws.map V.str)) (fun i σ H' => ∃ (rws : List Rw) (y4 y5 : Option V), σ = [some (.ref l), some (.int 7), some (.ref A), some (.ref Fd), y4, y5] ∧ SameX l H H' ∧ PotOk (n + 11 + 2 * i) H' l ∧ H' A = some (.lst (ws.map V.str)) ∧
        H' Fd = some (.lst (rws.map rwV)) ∧ rws.length = i ∧ (∀ r ∈ rws, RwAt H' r) ∧ (rws.map (·.2.1)) = ws.take i ∧ Back (rws.map (·.2))) ⟨[], none, none, rfl, x13, hp3.mono (by omega), hA3, hF3, rfl, (fun _ m => (List.not_mem_nil m).elim), rfl, fun j r e => by simp at e⟩ (fun i σ H' _ ⟨_, _, _, _, _, _, hA', _⟩ => lstAt hA') ?_ ?_⟩
    · rintro i x σ H4 H4' hi ⟨rws, y4, y5, rfl, sx, hp4, hA4, hF4, hrl, hrw, hnm, hbk⟩ y
      obtain ⟨Te, xi, xw, rfl, hTe, rfl, exi, exw⟩ := y
      have exi : xi = .int (i : Nat) := (Option.some.inj exi).symm
      subst exi
      have exw : (ws.map V.str)[i]? = some xw := exw
      rw [List.getElem?_map] at exw
      obtain ⟨z, hz, rfl⟩ : ∃ z, ws[i]? = some z ∧ V.str z = xw := by
        cases q : ws[i]? with
        | none => rw [q] at exw; cases exw
        | some z => rw [q] at exw; exact ⟨z, rfl, Option.some.inj exw⟩
      have sT := Same.upd (o := .tup [.int (i : Nat), .str z]) hTe
      have hil : i < ws.length := (List.getElem?_eq_some_iff.mp hz).1
      have hi8 : i < 8 := by omega
      have tk : ws.take (i + 1) = ws.take i ++ [z] := by rw [List.take_succ, hz]; rfl
      have hpT := hp4.same sT
      have hAT := sT _ _ hA4
      have hFT := sT _ _ hF4
      have rowT : ∀ r ∈ rws, RwAt (L2.upd H4 Te (.tup [.int (i : Nat), .str z])) r := fun r m => sT _ _ (hrw r m)
      refine ⟨Te, _, rfl, tupAt upd_same, rfl, _, _, rfl, _, _, rfl, rfl, ?_⟩
      have xT := sx.trans (Same.x sT l)
      generalize eT : L2.upd H4 Te (.tup [.int (i : Nat), .str z]) = H5 at hpT hAT hFT rowT xT
      -- what the word follows
      have key : ∀ Q' : VK, (∀ (H6 : Hp) (o : Option Str), SameX l H5 H6 → PotOk (n + 11 + 2 * ((i + 1 : Nat) : Int)) H6 l → (o = none ∨ ∃ (j : Nat) (q : Str), j < i ∧ ws[j]? = some q ∧ o = some q) → Q' (optV o) H6) →
          tIf (tOr (tTest (tOp rEq (tVar 4) (tC (.int 0)))) (tTest (tOp rEq (tCall spDraw [] E0 (tCons (tVar 0) (tCons (tC (.int 3)) tNil))) (tC (.int 0))))) (tC .non) (tOp (rIxL K) (tVar 2) (tCall spDraw [] E0 (tCons (tVar 0) (tCons (tVar 4) tNil))))
            [some (.ref l), some (.int 7), some (.ref A), some (.ref Fd), some (.int (i : Nat)), some (.str z)] H5 Q' := fun Q' k => by
        refine ⟨_, rfl, rfl, _, rfl, ?_⟩
        by_cases h0 : i = 0
        · refine ite_t (by rw [h0]; rfl) (iteT ?_)
          exact k H5 none (SameX.refl H5 l) (hpT.mono (by push_cast; omega)) (.inl rfl)
        · refine ite_f (fun e => h0 (by have := V.int.inj e; omega)) ?_
          refine ⟨_, rfl, l, 3, _, rfl, hpT, by omega, by decide, by decide, fun H6 r x6 hp6 r0 r1 => ⟨rfl, _, rfl, ?_⟩⟩
          by_cases e : r = 0
          · rw [decide_eq_true (show V.int r = V.int 0 by rw [e])]
            refine iteT ?_
            exact k H6 none x6 (hp6.mono (by push_cast; omega)) (.inl rfl)
          · rw [decide_eq_false (show ¬ V.int r = V.int 0 from fun q => e (V.int.inj q))]
            refine iteF ?_
            refine ⟨_, rfl, _, rfl, _, rfl, l, (i : Nat), _, rfl, hp6, by omega, by omega, by omega, fun H7 r2 x7 hp7 q0 q1 => ?_⟩
            obtain ⟨j, rfl⟩ := Int.eq_ofNat_of_zero_le q0
            have hj : j < i := by omega
            have hjl : j < ws.length := by omega
            refine ⟨A, ws.map V.str, _, V.str ws[j], rfl, rfl, SqL.of ((x6.trans x7) _ _ nAl hAT), atI_nat (j := j) (by rw [List.getElem?_map, List.getElem?_eq_getElem hjl]; rfl), ?_⟩
            exact k H7 (some ws[j]) (x6.trans x7) (hp7.mono (by push_cast; omega)) (.inr ⟨j, _, hj, List.getElem?_eq_getElem hjl, rfl⟩)
      refine ⟨_, rfl, .inl ⟨rfl, _, lstAt hFT⟩, _, rfl, key _ fun H6 o x6 hp6 ho => ⟨(by show 2 ≤ sizeLine; decide), fun p hp => ?_⟩⟩
      have hF6 := x6 _ _ nlF.symm hFT
      have nFp : Fd ≠ p := ne_of_none hF6 hp
      have nlp : l ≠ p := hp6.ne hp
      refine ⟨Fd, _, _, rfl, rfl, (by rw [upd_ne nFp]; exact hF6), ?_, ?_⟩
      · rw [List.length_map, hrl]
        exact Nat.lt_of_lt_of_le hi8 (by decide)
      · refine ⟨rws ++ [(p, z, o)], _, _, rfl, fun b u nb e => ?_, (hp6.upd nlp).upd nlF, ?_, ?_, ?_, ?_, ?_, ?_⟩
        · have e5 := xT b u nb e
          have e6 := x6 b u nb e5
          rw [upd_ne (fun q => by rw [q, hFH] at e; cases e), upd_ne (ne_of_none e6 hp)]
          exact e6
        · have e6 := x6 _ _ nAl hAT
          rw [upd_ne nAF, upd_ne (ne_of_none e6 hp)]
          exact e6
        · rw [upd_same, List.map_append]
          rfl
        · rw [List.length_append, hrl]
          rfl
        · intro r mr
          rcases List.mem_append.mp mr with q | q
          · have e5 := rowT r q
            have nrl : r.1 ≠ l := by
              obtain ⟨a1, a2, a3, ea, _⟩ := hpT
              exact fun w => by unfold RwAt at e5; rw [w, ea] at e5; cases e5
            have e6 := x6 _ _ nrl e5
            unfold RwAt
            rw [upd_ne (ne_of e6 hF6 (by intro w; cases w)), upd_ne (ne_of_none e6 hp)]
            exact e6
          · rw [List.mem_singleton.mp q]
            unfold RwAt
            rw [upd_ne (fun w => nFp w.symm), upd_same]
        · rw [List.map_append, hnm, tk]
          rfl
        · intro j r e
          rw [List.map_append] at e
          by_cases hj : j < i
          · rw [List.getElem?_append_left (by rw [List.length_map, hrl]; exact hj)] at e
            rcases hbk j r e with q | ⟨i2, q, h1, h2, h3⟩
            · exact .inl q
            · exact .inr ⟨i2, q, h1, by rw [List.map_append, List.getElem?_append_left (by rw [List.length_map, hrl]; omega)]; exact h2, h3⟩
          · have ej : j = i := by
              have hlt := (List.getElem?_eq_some_iff.mp e).1
              rw [List.length_append, List.length_map, hrl] at hlt
              simp at hlt
              omega
            subst ej
            rw [List.getElem?_append_right (by rw [List.length_map, hrl]; exact Nat.le_refl _), List.length_map, hrl, Nat.sub_self] at e
            have er : (z, o) = r := Option.some.inj e
            subst er
            rcases ho with q | ⟨j2, q, h1, h2, h3⟩
            · exact .inl q
            · have hm : (rws.map (·.2.1))[j2]? = some q := by rw [hnm, List.getElem?_take_of_lt h1]; exact h2
              rw [List.getElem?_map] at hm
              cases hr2 : rws[j2]? with
              | none => rw [hr2] at hm; cases hm
              | some r2 =>
                rw [hr2] at hm
                have hq : r2.2.1 = q := Option.some.inj hm
                refine .inr ⟨j2, r2.2, h1, ?_, by rw [hq]; exact h3⟩
                rw [List.map_append, List.getElem?_append_left (by rw [List.length_map, hrl]; exact h1), List.getElem?_map, hr2]
                rfl
    · rintro σ H4 ⟨rws, y4, y5, rfl, sx, hp4, hA4, hF4, hrl, hrw, hnm, hbk⟩
      rw [List.length_map] at hrl hnm hp4
      rw [List.take_of_length_le (Nat.le_refl _)] at hnm
      refine ⟨_, rfl, Fd, rws, rfl, hF4, by omega, hrw, by rw [hnm]; exact hnd, fun ss p hperm hsrt hpn => ?_⟩
      refine ⟨p, _, rfl, lstAt upd_same, fun a o ha hod => ?_⟩
      have s5 : Same H4 (L2.upd (L2.upd H4 p (.lst (ss.map rwV))) a (.frz o (.tup (ss.map rwV)))) := (Same.upd hpn).trans (Same.upd ha)
      have hlen : ss.length = m + 1 := by rw [hperm.length_eq, hrl, hwl]
      have hpr : Paired (fun (t : Addr) (r : Cp) => (L2.upd (L2.upd H4 p (.lst (ss.map rwV))) a (.frz o (.tup (ss.map rwV)))) t = some (.tup [.str r.1, optV r.2])) (ss.map (·.1)) (ss.map (·.2)) := by
        have aux : ∀ (l : List Rw), (∀ r ∈ l, RwAt H4 r) → Paired (fun (t : Addr) (r : Cp) => (L2.upd (L2.upd H4 p (.lst (ss.map rwV))) a (.frz o (.tup (ss.map rwV)))) t = some (.tup [.str r.1, optV r.2])) (l.map (·.1)) (l.map (·.2)) := fun l => by
          induction l with
          | nil => intro _; exact .nil
          | cons r l ih => intro hk; exact .cons (s5 _ _ (hk r List.mem_cons_self)) (ih fun q mq => hk q (List.mem_cons_of_mem _ mq))
        exact aux ss fun r mr => hrw r (hperm.mem_iff.mp mr)
      have ndl : ((rws.map (·.2)).map (·.1)).Nodup := by
        rw [List.map_map]
        show (rws.map (·.2.1)).Nodup
        rw [hnm]
        exact hnd
      refine h _ a (ss.map (·.2)) (sx.trans (Same.x s5 l)) ((hp4.same s5).mono (by omega)) ⟨o, ss.map (·.1), by rw [upd_same, List.map_map]; rfl, hod, hpr⟩ (by rw [List.length_map]; omega) (by rw [List.length_map]; omega) ?_ ?_
      · intro r mr
        obtain ⟨w0, mw, rfl⟩ := List.mem_map.mp mr
        have mw2 := hperm.mem_iff.mp mw
        have inW : ∀ {q : Rw}, q ∈ rws → q.2.1 ∈ ws := fun {q} mq => by rw [← hnm]; exact List.mem_map.mpr ⟨q, mq, rfl⟩
        refine ⟨hok _ (inW mw2), fun f ef => ?_⟩
        obtain ⟨j, hj⟩ := List.mem_iff_getElem?.mp mw2
        rcases hbk j w0.2 (by rw [List.getElem?_map, hj]; rfl) with q | ⟨i2, q, _, h2, h3⟩
        · rw [q] at ef; cases ef
        · rw [ef] at h3
          have e3 : f = q.1 := Option.some.inj h3
          rw [e3]
          rw [List.getElem?_map] at h2
          cases hr2 : rws[i2]? with
          | none => rw [hr2] at h2; cases h2
          | some r2 =>
            rw [hr2] at h2
            have hq : r2.2 = q := Option.some.inj h2
            rw [← hq]
            exact hok _ (inW (List.mem_of_getElem? hr2))
      · exact back_good hbk (hperm.map _) ndl (List.pairwise_map.mpr hsrt)
end
end Sps
set_option Elab.async false
set_option linter.all false
set_option maxRecDepth 100000
set_option maxHeartbeats 4000000
/-! Several except clauses, named or not; _law_caught. -/
namespace Sps
open PySem PySem.Spec PyProof.Rows L2
/-- what the clauses wish, one after the other; those that are marked bind the name at slot i -/
def wManyAs (K : PySem.W.Frag) (i : Nat) (Wout : WX) (D : Ends) : List (Bool × Value × (Addr → Value → Option Addr → TS)) → WX
  | [] => Wout
  | (false, c, ts) :: r => fun cls d σ H => ∃ b, PySem.W.exmOne K cls c = some b ∧ (b = true → ∀ a, H a = none → ts a cls d D σ H) ∧ (b = false → wManyAs K i Wout D r cls d σ H)
  | (true, c, ts) :: r => fun cls d σ H => ∃ b, PySem.W.exmOne K cls c = some b ∧ (b = true → ∀ a, H a = none → ts a cls d { nx := fun σ' H' => D.nx (σ'.set i none) H', rt := D.rt, bk := fun σ' H' => D.bk (σ'.set i none) H', ct := fun σ' H' => D.ct (σ'.set i none) H' } (σ.set i (some (.ref a))) H) ∧ (b = false → wManyAs K i Wout D r cls d σ H)
inductive HdsAs (X : Cx) (i : Nat) (n : Str) : List ExceptHandler → List (Bool × Value × (Addr → Value → Option Addr → TS)) → Prop
  | nil : HdsAs X i n [] []
  | plain {x : Str} {c : Value} {ts : Addr → Value → Option Addr → TS} {b₀ : Stmt} {suite : List Stmt} {np pos' : Pos} {hds : List ExceptHandler} {l : List (Bool × Value × (Addr → Value → Option Addr → TS))} (hc : L2.Names X x c)
      (hsu : ∀ (a : Addr) (oe : Obj) (cls : Value) (d : Option Addr) (pn : List (Addr × Obj)), Zc cls d oe → (∃ vs, oe.data = .fields vs) → PSs (X.suite a ((a, oe) :: pn)) (b₀ :: suite) (ts a cls d)) (r : HdsAs X i n hds l) :
      HdsAs X i n (.ExceptHandler (some (.Name x np)) none (b₀ :: suite) pos' :: hds) ((false, c, ts) :: l)
  | as {x : Str} {c : Value} {ts : Addr → Value → Option Addr → TS} {b₀ : Stmt} {suite : List Stmt} {np pos' : Pos} {hds : List ExceptHandler} {l : List (Bool × Value × (Addr → Value → Option Addr → TS))} (hc : L2.Names X x c)
      (hsu : ∀ (a : Addr) (oe : Obj) (cls : Value) (d : Option Addr) (pn : List (Addr × Obj)), Zc cls d oe → (∃ vs, oe.data = .fields vs) → PSs (X.suite a ((a, oe) :: pn)) (b₀ :: suite) (ts a cls d)) (r : HdsAs X i n hds l) :
      HdsAs X i n (.ExceptHandler (some (.Name x np)) (some n) (b₀ :: suite) pos' :: hds) ((true, c, ts) :: l)
section
variable {X : Cx} {body : List Stmt} {i : Nat} {n : Str} {h₀ : ExceptHandler} {hds : List ExceptHandler} {l : List (Bool × Value × (Addr → Value → Option Addr → TS))} {pos : Pos} {tb : WX → TS} {Wout : WX}
theorem ps_try_manyAs (hN : X.N.Nodup) (hi : X.N[i]? = some n) (hln : X.env.kindOf n = some .local) (hs : X.stack = X.env :: X.outer) (hf : X.env.frame = some X.env.locals) (tk : Takes X Wout)
    (hb : ∀ (W : WX) (pn : List (Addr × Obj)) (xe : Value → Shared → Prop), Takes (X.tr pn xe) W → PassesOwn (model X.prog X.w) X.A X.env xe → PSs (X.tr pn xe) body (tb W))
    (hh : HdsAs X i n (h₀ :: hds) l) : PS X (.Try body (h₀ :: hds) [] [] pos) (fun D σ H => tb (wManyAs X.K i Wout D l) D σ H) := by
  refine ⟨fun pins s σ H D I h => ?_⟩
  have ok := I.ok
  have hloc : Loc X.env.scope n := .inl hln
  have hfr : X.A.frames = some (X.env :: X.outer) := by rw [ok.frames, hs]
  refine wpAny_Try_except ?_
  refine wpAny_mono ((hb (wManyAs X.K i Wout D l) (X.pn ++ pins) (fun e s₁ => wpAny (model X.prog X.w) X.A (noteFrame e X.env) (fun _ s₂ => wpAny (model X.prog X.w) X.A (setFlight e none) (fun _ s₃ =>
    wpAny (model X.prog X.w) X.A (handleBy e X.env (h₀ :: hds)) (SP X pins D) X.xe s₃) X.xe s₂) X.xe s₁) (fun u s' xx => ?_) PassesOwn.looking).run [] s σ H D (I.toTry _) h) (fun f s1 hsp => ?_) (fun e s1 he => he)
  · -- the catch
    obtain ⟨a, B, sI, pins', σ', H', cls, d, rfl, J', nb, up, sky, na, os, ag, w⟩ := xx
    have J : Inv X pins σ' H' sI := J'.ofTry ok
    have sky' : Sky B (X.env :: X.outer) a (Zc cls d) X.env.locals s'.heap := by rw [← hs]; exact sky
    show wpAny (model X.prog X.w) X.A (noteFrame (.ref a) X.env) _ _ _
    refine Sky.land Zc.steady hfr hf sky' fun h3 fl3 up3 => ?_
    have J3 : Inv X pins σ' H' { s' with heap := h3 } := J.landed nb fl3.1 (up.trans up3) os ag
    obtain ⟨oe3, vs3, he3, hz3, hd3⟩ := fl3.there
    have notFr : ∀ {h : Heap} {o : Obj} {vs : Array Value}, h.FunFrames B (X.env :: X.outer) → h.get? a = some o → o.data = .fields vs → a ∉ frs (X.env :: X.outer) := fun {h o vs} ff e dd hm => by
      obtain ⟨_, o', e', hnf⟩ := ff.mem hm
      rw [e] at e'; cases e'
      exact hnf _ dd
    have nfr := notFr fl3.2.2.1 he3 hd3
    have nL : a ≠ X.env.locals := fun z => nfr (List.mem_filterMap.mpr ⟨X.env, List.mem_cons_self, by rw [hf, z]⟩)
    have nF : a ∉ X.fs := fun hm => by
      obtain ⟨e, he, q⟩ := List.mem_filterMap.mp hm
      exact nfr (List.mem_filterMap.mpr ⟨e, List.mem_cons_of_mem _ he, q⟩)
    have S3 := J3.suite he3 hd3 na nL nF
    have go : ∀ {hds' : List ExceptHandler} {l' : List (Bool × Value × (Addr → Value → Option Addr → TS))}, HdsAs X i n hds' l' → wManyAs X.K i Wout D l' cls d σ' H' →
        wpAny (model X.prog X.w) X.A (handleBy (.ref a) X.env hds') (SP X pins D) X.xe { s' with heap := h3 } := by
      intro hds' l' hk
      induction hk with
      | nil =>
        intro w
        refine wpAny_handleBy_nil ?_
        obtain ⟨k1, k2, k3, oe, vs, T, oT, ts', he, hz, hd, h1, hr⟩ := id fl3
        unfold PySem.passOn
        refine wpAny_bind (wpAny_field he hd h1 ?_)
        rw [if_neg (show ¬ ((Value.ref T == Value.none) = true) from by simp)]
        have fin : wpAny (model X.prog X.w) X.A (setFlight (.ref a) X.env.frame) (fun _ s4 => wpAny (model X.prog X.w) X.A (throw (.ref a) : Sem Flow) (SP X pins D) X.xe s4) X.xe { s' with heap := h3 } := by
          rw [hf]
          refine HandSPX.setFlight_upZ fl3 fun h4 hh4 up4 => wpAny_throw (tk _ _ ?_)
          exact ⟨a, B, sI, pins, σ', H', cls, d, rfl, J, nb, (up.trans up3).trans up4, .inr (.inr (by rw [hs]; exact hh4)), na, os, ag, w⟩
        first
          | exact wpAny_bind (wpAny_pure (wpAny_bind fin))
          | exact wpAny_bind fin
      | @plain x c ts b₀ suite np pos' hds2 l2 hc hsu r ih =>
        intro w
        obtain ⟨b, hb1, hyes, hno⟩ := w
        refine wpAny_handleBy_cons (codeAny_handlers_test ?_) (by intro q; cases q)
        have LT : PySem.W.Looks (model X.prog X.w) h3 (typeOf (.ref a)) cls := fun A Q E s k q => wpAny_typeOf_ref (k _ _ he3) (by rw [hz3.1]; exact q)
        have LM := PySem.W.exm_one (M := model X.prog X.w) (J3.kIn) LT hb1
        have test : ∀ {Q : Value → Shared → Prop} {E : Value → Shared → Prop}, Q c { s' with heap := h3 } → wpAny (model X.prog X.w) (X.A.mark (some (.ref a))) (eval (.Name x np) X.env) Q E { s' with heap := h3 } := fun {Q E} q => by
          obtain ⟨hg, hdbg, hm | ⟨hm, hv, hnn⟩⟩ := hc
          · exact ld_glob (X := X.suite a ((a, oe3) :: (X.pn ++ pins))) S3 hg hm q hdbg
          · exact ld_blt (X := X.suite a ((a, oe3) :: (X.pn ++ pins))) S3 hg hm hv q hnn hdbg
        refine test (LM.here ?_)
        cases b with
        | true =>
          refine codeAny_handlers_suite ?_
          refine HandSPX.lands_againZ fl3 fun h4 fl4 up4 => ?_
          have J4 : Inv X pins σ' H' { s' with heap := h4 } := J.landed nb fl4.1 ((up.trans up3).trans up4) os ag
          obtain ⟨oe4, vs4, he4, hz4, hd4⟩ := fl4.there
          have S4 := J4.suite he4 hd4 na nL nF
          refine wpAny_mono ((hsu a oe4 cls d (X.pn ++ pins) hz4 ⟨_, hd4⟩).run [] _ _ H' _ S4 (hyes rfl a na)) (fun f s6 hsp => ?_) (fun _ _ z => False.elim z)
          cases f with
          | next =>
            obtain ⟨σ6, H6, S6, q6⟩ := hsp
            exact ⟨_, _, S6.unsuite ok, q6⟩
          | brk =>
            obtain ⟨σ6, H6, S6, q6⟩ := hsp
            exact ⟨_, _, S6.unsuite ok, q6⟩
          | cont =>
            obtain ⟨σ6, H6, S6, q6⟩ := hsp
            exact ⟨_, _, S6.unsuite ok, q6⟩
          | ret u =>
            obtain ⟨v6, σ6, H6, S6, r6, q6⟩ := hsp
            exact ⟨_, _, _, S6.unsuite ok, r6, q6⟩
        | false =>
          show wpAny _ X.A (handleBy (.ref a) X.env hds2) _ _ _
          exact ih (hno rfl)
      | @as x c ts b₀ suite np pos' hds2 l2 hc hsu r ih =>
        intro w
        obtain ⟨b, hb1, hyes, hno⟩ := w
        refine wpAny_handleBy_cons (codeAny_handlers_test ?_) (by intro q; cases q)
        have LT : PySem.W.Looks (model X.prog X.w) h3 (typeOf (.ref a)) cls := fun A Q E s k q => wpAny_typeOf_ref (k _ _ he3) (by rw [hz3.1]; exact q)
        have LM := PySem.W.exm_one (M := model X.prog X.w) (J3.kIn) LT hb1
        have test : ∀ {Q : Value → Shared → Prop} {E : Value → Shared → Prop}, Q c { s' with heap := h3 } → wpAny (model X.prog X.w) (X.A.mark (some (.ref a))) (eval (.Name x np) X.env) Q E { s' with heap := h3 } := fun {Q E} q => by
          obtain ⟨hg, hdbg, hm | ⟨hm, hv, hnn⟩⟩ := hc
          · exact ld_glob (X := X.suite a ((a, oe3) :: (X.pn ++ pins))) S3 hg hm q hdbg
          · exact ld_blt (X := X.suite a ((a, oe3) :: (X.pn ++ pins))) S3 hg hm hv q hnn hdbg
        refine test (LM.here ?_)
        cases b with
        | true =>
          refine codeAny_handlers_suite_as ?_
          refine HandSPX.lands_againZ fl3 fun h4 fl4 up4 => ?_
          have J4 : Inv X pins σ' H' { s' with heap := h4 } := J.landed nb fl4.1 ((up.trans up3).trans up4) os ag
          obtain ⟨oe4, vs4, he4, hz4, hd4⟩ := fl4.there
          have S4 := J4.suite he4 hd4 na nL nF
          refine store_ok (X := X.suite a ((a, oe4) :: (X.pn ++ pins))) (v := .ref a) S4 hN hi hloc rfl (fun s5 S5 => ?_) (.inr hln)
          refine wpAny_mono ((hsu a oe4 cls d (X.pn ++ pins) hz4 ⟨_, hd4⟩).run [] s5 _ H' _ S5 (hyes rfl a na)) (fun f s6 hsp => ?_) (fun _ _ z => False.elim z)
          have end_ : ∀ {σ6 : L2.St} {H6 : Hp} {Q : Shared → Prop}, Inv (X.suite a ((a, oe4) :: (X.pn ++ pins))) [] σ6 H6 s6 → (∀ s7, Inv X pins (σ6.set i none) H6 s7 → Q s7) →
              wpAny (model X.prog X.w) X.A (do bindName X.env n .none; unbindBehindTheSuite X.env n pos') (fun _ s7 => Q s7) X.xe s6 := fun {σ6 H6 Q} S6 hq => gone_ok (S6.unsuite ok) hN hi hln hq
          cases f with
          | next =>
            obtain ⟨σ6, H6, S6, q6⟩ := hsp
            exact end_ S6 fun s7 J7 => ⟨_, _, J7, q6⟩
          | brk =>
            obtain ⟨σ6, H6, S6, q6⟩ := hsp
            exact end_ S6 fun s7 J7 => ⟨_, _, J7, q6⟩
          | cont =>
            obtain ⟨σ6, H6, S6, q6⟩ := hsp
            exact end_ S6 fun s7 J7 => ⟨_, _, J7, q6⟩
          | ret u =>
            obtain ⟨v6, σ6, H6, S6, r6, q6⟩ := hsp
            exact end_ S6 fun s7 J7 => ⟨_, _, _, J7, r6, q6⟩
        | false =>
          show wpAny _ X.A (handleBy (.ref a) X.env hds2) _ _ _
          exact ih (hno rfl)
    exact go hh w
  · cases f with
    | next =>
      obtain ⟨σ', H', J', q⟩ := hsp
      exact wpAny_execs_nil ⟨σ', H', J'.ofTry ok, q⟩
    | brk =>
      obtain ⟨σ', H', J', q⟩ := hsp
      exact ⟨σ', H', J'.ofTry ok, q⟩
    | cont =>
      obtain ⟨σ', H', J', q⟩ := hsp
      exact ⟨σ', H', J'.ofTry ok, q⟩
    | ret u =>
      obtain ⟨v, σ', H', J', r, q⟩ := hsp
      exact ⟨v, σ', H', J'.ofTry ok, r, q⟩
end
end Sps
set_option Elab.async false
set_option linter.all false
set_option maxRecDepth 100000
set_option maxHeartbeats 4000000
/-! _law_caught. -/
namespace Sps
open PySem PySem.Spec PyProof.Rows L2
/-- what may come of a call that is caught: the classes and their words -/
def EC (K : PySem.W.Frag) (Q : VK) : List (Addr × Str) → XK
  | [] => fun _ _ _ => False
  | (C, tag) :: r => fun cls d H => ∃ b, PySem.W.exmOne K cls (.ref C) = some b ∧ (b = true → cls = .ref C ∧ ∃ (dd : Addr) (v : V), d = some dd ∧ H dd = some (.xd [("value", v)]) ∧ ∀ p, H p = none → Q (.ref p) (L2.upd H p (.tup [.str tag, v]))) ∧ (b = false → EC K Q r cls d H)
def TTc (K : PySem.W.Frag) (cs : List (Addr × Str)) : (XK → Hp → VK → Prop) → Hp → VK → Prop := fun tl H Q => tl (EC K Q cs) H fun v H' => [V.str "told", v].length ≤ sizeLine ∧ ∀ p, H' p = none → Q (.ref p) (L2.upd H' p (.tup [.str "told", v]))
/-- the caught classes -/
structure CaC (K : PySem.W.Frag) (mg : Str → Option Value) (nm : Str) (C : Addr) : Prop where
  mgC : mg nm = some (.ref C)
  xf : XfC K C
  noV : PySem.W.findIn K (.ref C) "value" = some none
abbrev nCa : List Str := ["_law_call", "error"]
theorem scCaught : FnScope nCa ["_law_call"] (defScope s__law_caught) := ⟨rfl, rfl, rfl, by decide +kernel, rfl, by decide +kernel, by decide +kernel⟩
theorem set_at {σ : L2.St} {o : Option V} (h : σ.length = 2) : (σ.set 1 o)[1]? = some o := by
  match σ, h with
  | [a, b], _ => rfl
theorem caught_gives {X : Cx} {q : Str} {g C1 C2 CK : Addr} {cdg : Value} (h1 : CaC X.K X.mg "BadCopies" C1) (h2 : CaC X.K X.mg "BadPiece" C2) (h6 : X.mg "KeeperError" = some (.ref CK)) :
    LamX.GivesTo X nCa "_law_caught" (defScope s__law_caught) g cdg (defBody s__law_caught) "_law_call" q (TTc X.K [(C1, "copies"), (C2, "piece")]) := by
  intro f c' s H Q tl act hc h
  refine ⟨_, pss_one (ps_try_manyAs (X := (cxOf C8.CX0 X.prog X.w X.K X.mg X.base nCa "_law_caught" (defScope s__law_caught) g cdg X.A X.stack s H C8.E0).nox) (i := 1) (n := "error") (tb := fun W D σ H => ∃ Ech : XK, (∀ cls d (σ' : L2.St) H', σ'.length = 2 → Ech cls d H' → W cls d σ' H') ∧ σ[0]? = some (some (.ref f)) ∧ H c' = some (LamX.CodeO c' q) ∧ tl Ech H fun v H1 => ([V.str "told", v].length ≤ sizeLine ∧ ∀ p, H1 p = none → D.rt (.ref p) (L2.upd H1 p (.tup [.str "told", v]))))
      scCaught.nd rfl rfl rfl rfl takes0 (fun W pn xe tk _ => ?_)
      (.as ⟨rfl, rfl, .inl h1.mgC⟩ (fun a oe cls d pn hz hf => pss_one (ps_ret (pe_tup (pa_cons pe_str (pa_cons (pe_xf h1.xf h1.noV hz hf (pv 1)) pa_nil)))))
      (.as ⟨rfl, rfl, .inl h2.mgC⟩ (fun a oe cls d pn hz hf => pss_one (ps_ret (pe_tup (pa_cons pe_str (pa_cons (pe_xf h2.xf h2.noV hz hf (pv 1)) pa_nil)))))
      (.plain ⟨rfl, rfl, .inl h6⟩ (fun a oe cls d pn hz hf => pss_never) .nil)))), ?_⟩
  · refine ⟨fun pins s' σ H' D I h' => ?_⟩
    obtain ⟨Ech, hW, q1, q2, q3⟩ := h'
    have tk' : Takes (((cxOf C8.CX0 X.prog X.w X.K X.mg X.base nCa "_law_caught" (defScope s__law_caught) g cdg X.A X.stack s H C8.E0).nox).tr pn xe) (fun cls d σ H => σ.length = 2 → W cls d σ H) :=
      fun u s2 ⟨a, B, sI, pins, σ, H, cls, d, e, I, nb, up, sky, na, os, ag, w⟩ => tk u s2 ⟨a, B, sI, pins, σ, H, cls, d, e, I, nb, up, sky, na, os, ag, w I.len⟩
    have hp := fun (p1 p2 : Pos) => act _ pn xe Ech p1 p2 tk' (fun cls d σ' H' e l => hW cls d σ' H' l e)
    exact PSs.run (pss_one (ps_ret (pe_tup (pa_cons pe_str (pa_cons (hp _ _) pa_nil))))) pins s' σ H' D I ⟨q1, q2, q3⟩
  · refine ⟨EC X.K Q [(C1, "copies"), (C2, "piece")], fun cls d σ' H' hl e => ?_, rfl, hc, ?_⟩
    · have look : ∀ v : V, ([("value", v)] : List (Str × V)).lookup ("value" : Str) = some v := fun v => by rw [List.lookup_cons, beq_self_eq_true]
      have one : ∀ {C : Addr} {tag : Str} {a : Addr}, (cls = .ref C ∧ ∃ (dd : Addr) (v : V), d = some dd ∧ H' dd = some (.xd [("value", v)]) ∧ ∀ p, H' p = none → Q (.ref p) (L2.upd H' p (.tup [.str tag, v]))) →
          tRet (tTup (tCons (tC (.str tag)) (tCons (tXf a cls d C "value" (tVar 1)) tNil))) { nx := fun σ2 H2 => ({ nx := fun _ H' => Q .non H', rt := Q } : Ends).nx (σ2.set 1 none) H2, rt := Q, bk := fun σ2 H2 => ({ nx := fun _ H' => Q .non H', rt := Q } : Ends).bk (σ2.set 1 none) H2, ct := fun σ2 H2 => ({ nx := fun _ H' => Q .non H', rt := Q } : Ends).ct (σ2.set 1 none) H2 } (σ'.set 1 (some (.ref a))) H' := fun {C tag a} ⟨ec, dd, v, ed, hd, k⟩ => by
        exact ⟨_, set_at hl, rfl, ec, dd, _, v, ed, hd, look v, (by show 2 ≤ sizeLine; decide), fun p hp => k p hp⟩
      obtain ⟨b1, e1, y1, n1⟩ := e
      refine ⟨b1, e1, fun hb a _ => one (y1 hb), fun hb => ?_⟩
      obtain ⟨b2, e2, y2, n2⟩ := n1 hb
      exact ⟨b2, e2, fun hb a _ => one (y2 hb), fun hb => (n2 hb).elim⟩
    · exact h
end Sps
set_option Elab.async false
set_option linter.all false
set_option maxRecDepth 100000
set_option maxHeartbeats 4000000
/-! A keeper's groups; the law's own looks at names and pairs. -/
namespace Sps
open PySem PySem.Spec PyProof.Rows L2
section
variable {P : Program} {w : World} {K : PySem.W.Frag} {mg : Str → Option Value} {base : Heap}
abbrev nGr : List Str := ["self", "picture", "place", "places"]
def spGroups (CK CSt CSi CP : Addr) : Sp := fun vs H Q _ => ∃ (k a : Addr) (rs : List Cp) (pc : V) (t u : Int) (ns : List Int), vs = [.ref k] ∧ KAt CK CSt CSi CP H k rs a pc t u ns ∧ ∀ H' p, Same H H' → H p = none → H' p = some (.tup []) → Q (.ref p) H'
theorem scGr : FnScope nGr ["self"] (defScope s_Keeper_groups) := ⟨rfl, rfl, rfl, by decide +kernel, rfl, by decide +kernel, by decide +kernel⟩
theorem ok_groups {f CK CSt CSi CP : Addr} {fd : FuncData} (F : Fun K "groups" "Keeper.groups" s_Keeper_groups f fd) (T : Names mg) (D : KDefs P w K mg base CK CSt CSi CP) : FnOk P w K mg base CX0 1 f fd ["self"] (spGroups CK CSt CSi CP) := by
  refine F.ok scGr (fun vs H Q E h => ?_) (fun cdv A outer s H vs Q E hr h => ?_)
  · obtain ⟨_, _, _, _, _, _, _, rfl, _⟩ := h
    rfl
  · obtain ⟨k, a, rs, pc, t, u, ns, rfl, hK, h⟩ := h
    refine ⟨_, pss_cons (ps_set (i := 1) scGr.nd rfl (Or.inr rfl) (pe_fld (pe_fld (pv 0) rfl) rfl))
      (pss_one (ps_ret (pe_callTy call_tuple_of (by rfl) T.tuple (by decide +kernel) (pa_cons (pe_lc0 (own := [("places", 3)]) rfl scGr.nd (pi_list (pe_fld (pv 1) rfl)) (blkOk_by (own := [("places", 3)]) (N := nGr) (sc := defScope s_Keeper_groups) (by decide +kernel))) pa_nil)))), ?_⟩
    obtain ⟨dx, s0, ta, tb, fs, z, hk, hl, hh, hS, ht, hu, hn, h1, h2⟩ := hK.ex
    obtain ⟨dS, fS_, hs1, _, hh2⟩ := hS.st
    obtain ⟨p, e, ep, dp, fp, hp, he, hle⟩ := hS.pic
    refine ⟨_, rfl, k, CK, dx, fs, _, rfl, hk, D.O.cl, D.O.no _ (by decide), hh.at_ 3 rfl, ?_⟩
    refine ⟨s0, CSt, dS, fS_, _, rfl, hs1, D.OS.cl, D.OS.no _ (by decide), hh2.at_ 0 rfl, ?_⟩
    refine ⟨_, rfl, p, CP, dp, fp, _, ep, hp, D.OP.cl, D.OP.no _ (by decide), he, e, rfl, ⟨_, lstAt hle⟩, fun D1 hD1 => lc_stop ⟨_, lstAt (Same.upd hD1 _ _ hle), Nat.le_refl _⟩ ?_⟩
    refine ⟨D1, _, rfl, .inl ⟨lstAt upd_same, fun q hq => ?_⟩⟩
    have s1 := Same.upd (o := .lst []) hD1
    exact h _ q (Same.upd' s1 hq) (s1.free hq) upd_same
/-! ### names -/
abbrev nLn : List Str := ["_law_thing", "_law_letter"]
theorem scLnm : FnScope nLn ["_law_thing"] (defScope s__law_is_name) := ⟨rfl, rfl, rfl, by decide +kernel, rfl, by decide +kernel, by decide +kernel⟩
theorem ok_lawName {f : Addr} {fd : FuncData} (F : Fun K "_law_is_name" "_law_is_name" s__law_is_name f fd) (T : Names mg) : FnOk P w K mg base CX0 1 f fd ["_law_thing"] (spName K) := by
  refine F.ok scLnm (fun vs H Q E h => ?_) (fun cdv A outer s H vs Q E hr h => ?_)
  · obtain ⟨_, _, rfl, _⟩ := h
    rfl
  · obtain ⟨x, o, rfl, hx, h⟩ := h
    have eL : alphaL = alphaL := rfl
    skip
    refine ⟨_, pss_cons (ps_if (PW.pt (pw_or (pt_not (pt_val (pe_callB call_isi (by rfl) T.isinstance (by decide +kernel) (pa_cons (pv 0) (pa_cons (pe_bltn (v := .ty "str") (by rfl) T.str (by decide +kernel) rfl) pa_nil)))))
      (pw_or1 (pt_not (pt_chain op_lt op_lt pe_int (pe_callB call_len_str (by rfl) T.len PySem.boot_len (pa_cons (pv 0) pa_nil)) pe_int))))) (pss_one (ps_ret pe_bl)) pss_nil)
      (pss_one (ps_ret (pe_callB (cr_all rfl) (by rfl) T.all (by decide +kernel) (pa_cons (pe_lc (own := [("_law_letter", 1)]) (g := gName 1) (tt := tYes) rfl scLnm.nd (pi_str (pv 0)) (blkOk_by (own := [("_law_letter", 1)]) (N := nLn) (sc := defScope s__law_is_name) (by decide +kernel))
        (fun _ _ _ _ _ => pg_name (i := 1) scLnm.nd rfl (Or.inl rfl)) (fun _ _ _ _ _ => pts_nil) (fun _ _ _ _ _ => pe_cmpR op_in_sign (pv 1) pe_str rfl)) pa_nil)))), ?_⟩
    cases hx with
    | no ty k =>
      refine ⟨_, rfl, _, _, _, _, false, rfl, .ty "str", ty, k, false, rfl, ?_⟩
      exact iteT (iteT (h H (Same.refl H)))
    | yes z hz =>
      refine ⟨_, rfl, _, _, _, _, true, rfl, .ty "str", .base (.str z), kit_ss K, true, rfl, ?_⟩
      refine iteF ?_
      have len : okS alphaL (some z) = ((decide ((0 : Int) < (z.length : Int)) && decide ((z.length : Int) < 9)) && z.cps.toList.all fun c => decide (c ∈ alphaL.cps.toList)) := by
        show lettersOk alphaL z = _
        unfold lettersOk
        congr 2
        · exact decide_eq_decide.mpr (by omega)
        · exact decide_eq_decide.mpr (by omega)
      have no : (decide ((0 : Int) < (z.length : Int)) && decide ((z.length : Int) < 9)) = false → Q (.bl false) H := fun e => by
        have q := h H (Same.refl H)
        rw [len, e, Bool.false_and] at q
        exact q
      refine ⟨_, rfl, z, rfl, hz, _, _, rfl, rfl, _, rfl, ?_⟩
      refine ite2 (fun c1 => ?_) (fun c1 => ?_)
      · refine ⟨_, _, rfl, rfl, _, rfl, ?_⟩
        refine ite2 (fun c2 => ?_) (fun c2 => ?_)
        · refine no ?_
          have : decide ((z.length : Int) < 9) = false := by simpa using c2
          rw [this, Bool.and_false]
        · have c2' : decide ((z.length : Int) < 9) = true := by simpa using c2
          have h8 : z.length ≤ 8 := by have := of_decide_eq_true c2'; omega
          refine ⟨_, rfl, z, rfl, fun D hD => lc_vals walk_str (fun i => V.bl (sgn alphaL z i)) ?_ hD (fun _ _ => trivial) (fun i x H1 H2 Nx hi sH y k => ?_) (fun H1 sH hL => ?_)⟩
          · exact Nat.lt_of_le_of_lt (Nat.le_trans (show z.cps.size ≤ 8 from h8) (by decide)) (by decide : 8 < sizeLine)
          · obtain ⟨rfl, c, hc, rfl⟩ := y
            refine ⟨rfl, ?_⟩
            refine ⟨_, rfl, c, alphaL, rfl, rfl, ?_⟩
            refine k _ _ ?_ (Same.refl _)
            unfold sgn
            rw [hc]
          · have el : (List.range z.cps.size).map (fun i => V.bl (sgn alphaL z i)) = ((List.range z.cps.size).map (sgn alphaL z)).map V.bl := by rw [List.map_map]; rfl
            rw [el] at hL
            refine ⟨D, _, rfl, SqL.of hL, ?_⟩
            rw [all_range (l := z.cps.toList) (g := fun c => decide (c ∈ alphaL.cps.toList)) (by simp) (fun i c e => by rw [Array.getElem?_toList] at e; unfold sgn; rw [e])]
            have q := h H1 sH
            rw [len, c1, c2', Bool.true_and] at q
            exact q
      · refine ⟨false, rfl, iteT (no ?_)⟩
        have : decide ((0 : Int) < (z.length : Int)) = false := by simpa using c1
        rw [this, Bool.false_and]
end
end Sps
set_option Elab.async false
set_option linter.all false
set_option maxRecDepth 100000
set_option maxHeartbeats 4000000
/-! The law's own look at pairs. -/
namespace Sps
open PySem PySem.Spec PyProof.Rows L2
/-- what a value is as copies: no tuple, or a tuple of these -/
inductive CpO (K : PySem.W.Frag) (H : Hp) : V → Option (List (Option Cp)) → Prop
  | kind {x : V} (h : TupV K H x none) : CpO K H x none
  | tup {a : Addr} {xs : List V} {os : List (Option Cp)} (h : Rd H a (.tup xs)) (p : Paired (ElV K H) xs os) (z : oksB os = true → ascB (rowsOf os) = true → 1 ≤ os.length → os.length ≤ 6 → RowsAt H a (rowsOf os)) : CpO K H (.ref a) (some os)
def areO : Option (List (Option Cp)) → Bool
  | none => false
  | some os => areB os
def pairsO : Option (List (Option Cp)) → Bool
  | none => false
  | some os => (decide (1 ≤ os.length) && decide (os.length ≤ 6)) && oksB os
theorem CpO.v {K : PySem.W.Frag} {H : Hp} {v : V} {o : Option (List (Option Cp))} (h : CpO K H v o) : CpV K H v (areO o) := by
  cases h with
  | kind h => exact .kind h
  | tup h p z => exact .tup h p z
theorem paired_same {α β : Type} {F G : α → β → Prop} (k : ∀ a b, F a b → G a b) {xs : List α} {ys : List β} (h : Paired F xs ys) : Paired G xs ys := paired_imp k h
theorem CpO.same {K : PySem.W.Frag} {H H' : Hp} {v : V} {o : Option (List (Option Cp))} (h : CpO K H v o) (s : Same H H') : CpO K H' v o := by
  cases h with
  | kind h => exact .kind (h.same s)
  | tup h p z => exact .tup (rd_same h s) (paired_imp (fun _ _ e => e.same s) p) fun a b c d => (z a b c d).same s
theorem oks_false {os : List (Option Cp)} {i : Nat} (h : os[i]? = some none) : oksB os = false := by
  cases e : oksB os with
  | false => rfl
  | true =>
    have := List.all_eq_true.mp e none (List.mem_of_getElem? h)
    cases this
theorem oks_true {os : List (Option Cp)} (h : ∀ j < os.length, ∃ r, os[j]? = some (some r)) : oksB os = true := by
  refine List.all_eq_true.mpr fun o m => ?_
  obtain ⟨j, hj, e⟩ := List.mem_iff_getElem.mp m
  obtain ⟨r, q⟩ := h j hj
  rw [List.getElem?_eq_getElem hj, e] at q
  rw [Option.some.inj q]
  rfl
section
variable {P : Program} {w : World} {K : PySem.W.Frag} {mg : Str → Option Value} {base : Heap}
def spPairs (K : PySem.W.Frag) : Sp := fun vs H Q _ => ∃ (v : V) (o : Option (List (Option Cp))), vs = [v] ∧ CpO K H v o ∧ ∀ H', Same H H' → Q (.bl (pairsO o)) H'
abbrev nPa : List Str := ["_law_thing", "_law_pair"]
theorem scPa : FnScope nPa ["_law_thing"] (defScope s__law_are_pairs) := ⟨rfl, rfl, rfl, by decide +kernel, rfl, by decide +kernel, by decide +kernel⟩
theorem ok_pairs {f gN : Addr} {fd fdN : FuncData} (F : Fun K "_law_are_pairs" "_law_are_pairs" s__law_are_pairs f fd) (T : Names mg)
    (N : FnOk P w K mg base CX0 1 gN fdN ["_law_thing"] (spName K)) (mgN : mg "_law_is_name" = some (.ref gN)) (kN : PySem.W.keepIn K (.ref gN) = true) (bN : Binds K fdN ["_law_thing"] []) : FnOk P w K mg base CX0 2 f fd ["_law_thing"] (spPairs K) := by
  refine F.ok scPa (fun vs H Q E h => ?_) (fun cdv A outer s H vs Q E hr h => ?_)
  · obtain ⟨_, _, rfl, _⟩ := h
    rfl
  · obtain ⟨v, o, rfl, hv, h⟩ := h
    refine ⟨_, pss_cons (ps_if (PW.pt (pw_or (pt_not (pt_val (pe_callB call_isi (by rfl) T.isinstance (by decide +kernel) (pa_cons (pv 0) (pa_cons (pe_bltn (v := .ty "tuple") (by rfl) T.tuple (by decide +kernel) rfl) pa_nil)))))
        (pw_or1 (pt_not (pt_chain op_lt op_lt pe_int (pe_callB call_len_seq (by rfl) T.len PySem.boot_len (pa_cons (pv 0) pa_nil)) pe_int))))) (pss_one (ps_ret pe_bl)) pss_nil)
      (pss_cons (ps_for PassesOwn.never rfl (pi_tup (pv 0)) (pg_name (i := 1) scPa.nd rfl (Or.inl rfl))
        (pss_cons (ps_if (PW.pt (pw_or (pt_not (pt_val (pe_callB call_isi (by rfl) T.isinstance (by decide +kernel) (pa_cons (pv 1) (pa_cons (pe_bltn (v := .ty "tuple") (by rfl) T.tuple (by decide +kernel) rfl) pa_nil)))))
            (pw_or (pt_cmpR op_ne (pe_callB call_len_seq (by rfl) T.len PySem.boot_len (pa_cons (pv 1) pa_nil)) pe_int (nomark _))
              (pw_or1 (pt_not (pt_val (pe_call N hr rfl mgN kN bN .nil pass0 (pa_cons (pe_ix ix_tup (pv 1) pe_int (fun _ _ => rfl)) pa_nil)))))))) (pss_one (ps_ret pe_bl)) pss_nil)
          (pss_one (ps_if (PW.pt (pw_and (pt_cmpR op_notN (pe_ix ix_tup (pv 1) pe_int (fun _ _ => rfl)) pe_non (nomark _))
            (pw_and1 (pt_not (pt_val (pe_call N hr rfl mgN kN bN .nil pass0 (pa_cons (pe_ix ix_tup (pv 1) pe_int (fun _ _ => rfl)) pa_nil))))))) (pss_one (ps_ret pe_bl)) pss_nil))))
      (pss_one (ps_ret pe_bl))), ?_⟩
    cases hv with
    | kind hk =>
      cases hk with
      | no ty k => exact ⟨_, rfl, _, _, _, _, false, rfl, .ty "tuple", ty, k, false, rfl, iteT (h H (Same.refl H))⟩
    | tup hA hP hz0 =>
    rename_i a xs os
    have hl : xs.length = os.length := hP.length
    have at_ : ∀ {H' : Hp}, Same H H' → SqT K H' a xs := fun s => .inl (rd_same hA s)
    refine ⟨_, rfl, _, _, _, _, true, rfl, .ty "tuple", tyRd hA, kit_tt K, true, rfl, iteF ?_⟩
    have qF : ∀ H', Same H H' → pairsO (some os) = false → Q (.bl false) H' := fun H' s e => by
      have q := h H' s
      rw [e] at q
      exact q
    by_cases h1 : 1 ≤ os.length
    case neg =>
      refine ⟨_, rfl, a, _, rfl, .inr (at_ (Same.refl H)), _, _, rfl, rfl, _, rfl, ite_f (by rw [hl]; omega) ⟨_, rfl, iteT (qF H (Same.refl H) ?_)⟩⟩
      unfold pairsO
      dsimp only
      rw [decide_eq_false h1]
      rfl
    by_cases h6 : os.length ≤ 6
    case neg =>
      refine ⟨_, rfl, a, _, rfl, .inr (at_ (Same.refl H)), _, _, rfl, rfl, _, rfl, ite_t (by rw [hl]; omega) ⟨_, _, rfl, rfl, _, rfl, iteNS_not (by rw [hl]; omega) (qF H (Same.refl H) ?_)⟩⟩
      unfold pairsO
      dsimp only
      rw [decide_eq_false h6, Bool.and_false]
      rfl
    refine ⟨_, rfl, a, _, rfl, .inr (at_ (Same.refl H)), _, _, rfl, rfl, _, rfl, ite_t (by rw [hl]; omega) ⟨_, _, rfl, rfl, _, rfl, iteNS (by rw [hl]; omega) ?_⟩⟩
    have bad : ∀ {i : Nat} {H' : Hp}, Same H H' → os[i]? = some none → Q (.bl false) H' := fun {i H'} s e => qF H' s (by
      unfold pairsO
      dsimp only
      rw [oks_false e, Bool.and_false])
    refine ⟨_, rfl, a, rfl, ⟨_, at_ (Same.refl H)⟩, for_it (walk_tup (K := K) (a := a) (xs := xs)) (fun i σ H' => ∃ x1 : Option V, σ = [some (.ref a), x1] ∧ Same H H' ∧ ∀ j < i, ∃ r, os[j]? = some (some r)) ⟨none, rfl, Same.refl H, fun j hj => absurd hj (by omega)⟩ (fun i σ H' _ ⟨_, _, s, _⟩ => at_ s) ?_ ?_⟩
    · rintro i x σ H1 H1' hi ⟨x1, rfl, s1, ok⟩ y
      obtain ⟨rfl, hx⟩ := y
      obtain ⟨e, he0, hE⟩ := paired_at hP hx
      have hE := hE.same s1
      cases hE with
      | kind hk =>
        cases hk with
        | no ty k => exact ⟨_, rfl, _, _, _, _, false, rfl, .ty "tuple", ty, k, false, rfl, iteT (bad s1 he0)⟩
      | size ht n =>
        refine ⟨_, rfl, _, _, _, _, true, rfl, .ty "tuple", tyRd ht, kit_tt K, true, rfl, iteF ?_⟩
        refine ⟨_, rfl, _, _, rfl, .inr (.inl ht), rfl, _, rfl, ?_⟩
        refine iteNS_not (fun z => n ?_) (bad s1 he0)
        have := V.int.inj z
        omega
      | name ht hs b =>
        refine ⟨_, rfl, _, _, _, _, true, rfl, .ty "tuple", tyRd ht, kit_tt K, true, rfl, iteF ?_⟩
        refine ⟨_, rfl, _, _, rfl, .inr (.inl ht), rfl, _, rfl, iteF ?_⟩
        refine ⟨_, rfl, _, _, 0, _, rfl, rfl, .inl ht, atI_nat (j := 0) rfl, _, _, rfl, hs, fun H2 s2 => ⟨_, rfl, ?_⟩⟩
        rw [b]
        exact iteT (bad (s1.trans s2) he0)
      | foll ht ok1 nn hs b =>
        rename_i t z y o
        refine ⟨_, rfl, _, _, _, _, true, rfl, .ty "tuple", tyRd ht, kit_tt K, true, rfl, iteF ?_⟩
        refine ⟨_, rfl, _, _, rfl, .inr (.inl ht), rfl, _, rfl, iteF ?_⟩
        refine ⟨_, rfl, _, _, 0, _, rfl, rfl, .inl ht, atI_nat (j := 0) rfl, _, _, rfl, .yes z (short ok1), fun H2 s2 => ⟨_, rfl, ?_⟩⟩
        rw [show okS alphaL (some z) = true from ok1]
        refine iteF ?_
        have ht2 := rd_same ht s2
        refine ⟨_, rfl, _, _, 1, _, rfl, rfl, .inl ht2, atI_nat (j := 1) rfl, rfl, _, rfl, ?_⟩
        rw [show decide (y = V.non) = false from decide_eq_false nn]
        refine iteT ?_
        refine ⟨_, rfl, _, _, 1, _, rfl, rfl, .inl ht2, atI_nat (j := 1) rfl, _, _, rfl, hs.same s2, fun H3 s3 => ⟨_, rfl, ?_⟩⟩
        rw [b]
        exact iteT (bad ((s1.trans s2).trans s3) he0)
      | copy ht ok' =>
        rename_i t r
        obtain ⟨ok1, ok2⟩ := ok'
        have hT := ht
        have nxt : ∀ j < i + 1, ∃ r, os[j]? = some (some r) := fun j hj => by
          by_cases e : j = i
          · rw [e]
            exact ⟨r, he0⟩
          · exact ok j (by omega)
        refine ⟨_, rfl, _, _, _, _, true, rfl, .ty "tuple", tyRd hT, kit_tt K, true, rfl, iteF ?_⟩
        refine ⟨_, rfl, _, _, rfl, .inr (.inl hT), rfl, _, rfl, iteF ?_⟩
        refine ⟨_, rfl, _, _, 0, _, rfl, rfl, .inl hT, atI_nat (j := 0) rfl, _, _, rfl, .yes r.1 (short ok1), fun H2 s2 => ⟨_, rfl, ?_⟩⟩
        rw [show okS alphaL (some r.1) = true from ok1]
        refine iteF ?_
        have hT2 := rd_same hT s2
        refine ⟨_, rfl, _, _, 1, _, rfl, rfl, .inl hT2, atI_nat (j := 1) rfl, rfl, _, rfl, ?_⟩
        cases e : r.2 with
        | none => exact iteF ⟨_, rfl, s1.trans s2, nxt⟩
        | some z =>
          rw [e] at hT2
          refine iteT ?_
          refine ⟨_, rfl, _, _, 1, _, rfl, rfl, .inl hT2, atI_nat (j := 1) rfl, _, _, rfl, .yes z (short (ok2 z e)), fun H3 s3 => ⟨_, rfl, ?_⟩⟩
          rw [show okS alphaL (some z) = true from ok2 z e]
          exact iteF ⟨_, rfl, (s1.trans s2).trans s3, nxt⟩
    · rintro σ H' ⟨x1, rfl, s1, ok⟩
      have q := h H' s1
      have e : pairsO (some os) = true := by
        unfold pairsO
        dsimp only
        rw [decide_eq_true h1, decide_eq_true h6, oks_true (fun j hj => ok j (by omega))]
        rfl
      rw [e] at q
      exact q
end
end Sps
set_option Elab.async false
set_option linter.all false
set_option maxRecDepth 100000
set_option maxHeartbeats 4000000
/-! Rows by the law's own look. -/
namespace Sps
open PySem PySem.Spec PyProof.Rows L2
/-- no greater one ahead of a less one -/
abbrev Lw (x y : Str) : Prop := ltS y x = false
theorem lw_tr {x y z : Str} (h : Lw x y) (k : Lw y z) : Lw x z := by
  cases e : ltS z x with
  | false => exact e
  | true =>
    rcases ltS_tot k with q | q
    · rw [q] at e
      exact absurd e (by rw [h]; exact Bool.false_ne_true)
    · have := ltS_tr q e
      rw [h] at this
      cases this
theorem lw_anti {x y : Str} (h : Lw x y) (k : Lw y x) : x = y := by
  rcases ltS_tot k with q | q
  · exact q
  · rw [h] at q
    cases q
theorem lw_of {x y : Str} (h : ltS x y = true) : Lw x y := by
  cases e : ltS y x with
  | false => exact e
  | true =>
    have := ltS_tr h e
    rw [ltS_irr] at this
    cases this
theorem rising_lw : ∀ {p : Str} {ys : List Str}, risingS p ys = true → (p :: ys).Pairwise Lw
  | p, [], _ => List.pairwise_singleton _ _
  | p, x :: r, h => by
    obtain ⟨h1, h2⟩ := Bool.and_eq_true_iff.mp (show (!ltCps x.cps.toList p.cps.toList && risingS x r) = true from h)
    have q := rising_lw h2
    have px : Lw p x := by
      rw [← lt_meets] at h1
      have e : decide (x.cps.toList < p.cps.toList) = false := by
        cases k : decide (x.cps.toList < p.cps.toList) with
        | false => rfl
        | true => rw [k] at h1; cases h1
      exact e
    refine List.pairwise_cons.mpr ⟨fun y hy => ?_, q⟩
    rcases List.mem_cons.mp hy with e | hy
    · rw [e]; exact px
    · exact lw_tr px ((List.pairwise_cons.mp q).1 y hy)
theorem sorted_lw {ys : List Str} (h : sortedS ys = true) : ys.Pairwise Lw := by
  cases ys with
  | nil => exact .nil
  | cons x r => exact rising_lw h
theorem lw_uniq {xs ys : List Str} (p : xs.Perm ys) (h : xs.Pairwise Lw) (k : ys.Pairwise Lw) : xs = ys := p.eq_of_pairwise (fun a b _ _ h1 h2 => lw_anti h1 h2) h k
theorem asc_lw {ws : List Str} (h : ws.Pairwise fun a b => ltS a b = true) : ws.Pairwise Lw := h.imp fun q => lw_of q
theorem pair_asc : ∀ {rs : List Cp}, (rs.Pairwise fun a b => ltS a.1 b.1 = true) → ascB rs = true
  | rs, h => by
    refine List.all_eq_true.mpr fun i hi => ?_
    have hl := List.mem_range.mp hi
    have h1 : i < rs.length := by omega
    have h2 : i + 1 < rs.length := by omega
    rw [nm_at (List.getElem?_eq_getElem h1), nm_at (List.getElem?_eq_getElem h2)]
    exact List.pairwise_iff_getElem.mp h i (i + 1) h1 h2 (Nat.lt_succ_self i)
/-- the words in their order: just where the rows ascend -/
theorem asc_ss {rs : List Cp} {ss : List Str} (hp : ss.Pairwise fun a b => ltS a b = true) (hm : ∀ z, z ∈ ss ↔ z ∈ rs.map (·.1)) : decide (ss = rs.map (·.1)) = ascB rs := by
  have nds : ss.Nodup := hp.imp fun {a b} q e => by
    rw [e, ltS_irr] at q
    cases q
  cases h : ascB rs with
  | true =>
    have pw := asc_pair h
    have nd := pair_nodup pw
    have pm : ss.Perm (rs.map (·.1)) := (List.perm_ext_iff_of_nodup nds nd).mpr fun a => hm a
    exact decide_eq_true (lw_uniq pm (asc_lw hp) (asc_lw (List.pairwise_map.mpr pw)))
  | false =>
    refine decide_eq_false fun e => ?_
    rw [e] at hp
    rw [pair_asc (List.pairwise_map.mp hp)] at h
    cases h
/-! ### who is known -/
def follIn (kn : List Str) (r : Cp) : Bool := match r.2 with
  | none => true
  | some f => decide (f ∈ kn)
def stepK (rs : List Cp) (kn : List Str) : List Str := (rs.filter (follIn kn)).map (·.1)
def known (rs : List Cp) : Nat → List Str
  | 0 => []
  | k + 1 => stepK rs (known rs k)
theorem row_uniq {rs : List Cp} (nd : (rs.map (·.1)).Nodup) {r q : Cp} (hr : r ∈ rs) (hq : q ∈ rs) (e : r.1 = q.1) : r = q := by
  induction rs with
  | nil => cases hr
  | cons x rs ih =>
    rw [List.map_cons, List.nodup_cons] at nd
    rcases List.mem_cons.mp hr with e1 | hr <;> rcases List.mem_cons.mp hq with e2 | hq
    · rw [e1, e2]
    · exact absurd (List.mem_map.mpr ⟨q, hq, by rw [← e, e1]⟩) nd.1
    · exact absurd (List.mem_map.mpr ⟨r, hr, by rw [e, e2]⟩) nd.1
    · exact ih nd.2 hr hq
theorem mem_step {rs : List Cp} (nd : (rs.map (·.1)).Nodup) {kn : List Str} {r : Cp} (hr : r ∈ rs) : r.1 ∈ stepK rs kn ↔ follIn kn r = true := by
  unfold stepK
  constructor
  · intro h
    obtain ⟨q, hq, e⟩ := List.mem_map.mp h
    obtain ⟨q1, q2⟩ := List.mem_filter.mp hq
    rw [← row_uniq nd q1 hr e]
    exact q2
  · intro h
    exact List.mem_map.mpr ⟨r, List.mem_filter.mpr ⟨hr, h⟩, rfl⟩
theorem look_row {rs : List Cp} (nd : (rs.map (·.1)).Nodup) {r : Cp} (hr : r ∈ rs) : look rs r.1 = some r.2 := by
  unfold look
  cases e : rs.find? fun q => decide (q.1 = r.1) with
  | none =>
    have := List.find?_eq_none.mp e r hr
    exact absurd (decide_eq_true rfl) this
  | some q =>
    have h1 := List.find?_some e
    rw [row_uniq nd (List.mem_of_find?_eq_some e) hr (of_decide_eq_true h1)]
    rfl
theorem row_of {rs : List Cp} {f : Str} (h : (look rs f).isSome = true) : ∃ q ∈ rs, q.1 = f := by
  unfold look at h
  rw [Option.isSome_map] at h
  obtain ⟨q, hq, e⟩ := List.find?_isSome.mp h
  exact ⟨q, hq, of_decide_eq_true e⟩
theorem known_lead {rs : List Cp} (nd : (rs.map (·.1)).Nodup) (hc : closedB rs = true) : ∀ (k : Nat) {r : Cp}, r ∈ rs → (r.1 ∈ known rs k ↔ lead rs k r.1 = true)
  | 0, r, _ => ⟨fun h => absurd h (List.not_mem_nil), fun h => by cases h⟩
  | k + 1, r, hr => by
    show r.1 ∈ stepK rs (known rs k) ↔ _
    rw [mem_step nd hr]
    unfold lead
    rw [look_row nd hr]
    cases e : r.2 with
    | none =>
      unfold follIn
      rw [e]
    | some f =>
      unfold follIn
      rw [e]
      have h1 := List.all_eq_true.mp hc r hr
      unfold follB at h1
      rw [e] at h1
      obtain ⟨q, hq, e2⟩ := row_of h1
      dsimp only
      rw [← e2, ← known_lead nd hc k hq]
      exact decide_eq_true_iff
theorem known_sub (rs : List Cp) (k : Nat) : ∃ f : Cp → Bool, known rs k = (rs.filter f).map (·.1) := by
  cases k with
  | zero => exact ⟨fun _ => false, by rw [List.filter_eq_nil_iff.mpr (fun _ _ => by simp)]; rfl⟩
  | succ k => exact ⟨_, rfl⟩
/-- the law's last look: who is known, in order, are all -/
theorem lead_ys {rs : List Cp} {ys : List Str} (ha : ascB rs = true) (hc : closedB rs = true) (hp : ys.Perm (known rs rs.length)) (hs : sortedS ys = true) : decide (ys = rs.map (·.1)) = leadsB rs := by
  have pw := asc_pair ha
  have nd := pair_nodup pw
  cases h : leadsB rs with
  | true =>
    refine decide_eq_true ?_
    have all : ∀ r ∈ rs, r.1 ∈ known rs rs.length := fun r hr => (known_lead nd hc _ hr).mpr (List.all_eq_true.mp h r hr)
    have ek : known rs rs.length = rs.map (·.1) := by
      obtain ⟨f, e⟩ := known_sub rs rs.length
      rw [e]
      rw [e] at all
      rw [List.filter_eq_self.mpr fun r hr => ?_]
      obtain ⟨q, hq, e2⟩ := List.mem_map.mp (all r hr)
      obtain ⟨q1, q2⟩ := List.mem_filter.mp hq
      rw [← row_uniq nd q1 hr e2]
      exact q2
    rw [ek] at hp
    exact lw_uniq hp (sorted_lw hs) (asc_lw (List.pairwise_map.mpr pw))
  | false =>
    refine decide_eq_false fun e => ?_
    have : leadsB rs = true := List.all_eq_true.mpr fun r hr => (known_lead nd hc _ hr).mp (hp.mem_iff.mp (by rw [e]; exact List.mem_map.mpr ⟨r, hr, rfl⟩))
    rw [this] at h
    cases h
theorem foll_words {rs : List Cp} (r : Cp) : follIn (rs.map (·.1)) r = follB rs r := by
  unfold follIn follB
  cases e : r.2 with
  | none => rfl
  | some f =>
    dsimp only
    cases h : (look rs f).isSome with
    | true =>
      obtain ⟨q, hq, e2⟩ := row_of h
      exact decide_eq_true (List.mem_map.mpr ⟨q, hq, e2⟩)
    | false =>
      refine decide_eq_false fun m => ?_
      obtain ⟨q, hq, e2⟩ := List.mem_map.mp m
      rw [← e2, look_mem hq] at h
      cases h
end Sps
set_option Elab.async false
set_option linter.all false
set_option maxRecDepth 100000
set_option maxHeartbeats 4000000
/-! Sets of texts: how they grow. -/
namespace Sps
open PySem PySem.Spec PyProof.Rows L2
/-- the payload may be walked -/
def TxW (w : World) (D : PySem.Froz.SD) : Prop := Ris D.2.2.place.toList ∧ (w.params.followText "set-order" = true ∨ D.2.2.led = true)
/-- at a: a set of just these texts -/
def SetS (P : Program) (w : World) (h : Heap) (a : Addr) (ds : List Str) : Prop := ∃ D : PySem.Froz.SD, h.get? a = some (PySem.Froz.sObj "set" D) ∧ PySem.Froz.TxOk P w D ds ∧ TxW w D ∧ ds.Nodup
theorem SetS.at {P : Program} {w : World} {h h' : Heap} {a : Addr} {ds : List Str} (R : SetS P w h a ds) (k : ∀ o, h.get? a = some o → h'.get? a = some o) : SetS P w h' a ds := let ⟨D, e, r⟩ := R; ⟨D, k _ e, r⟩
theorem tx_walk {w : World} {D : PySem.Froz.SD} {h : Int} {v : Value} (k : TxW w D) : TxW w (PySem.Froz.addTx h v D) := by
  obtain ⟨es, ep, t⟩ := D
  have r1 := layNew_ris t es h v k.1
  have l1 := layNew_led t es h v
  unfold PySem.Froz.addTx
  generalize (layNew t es h v).1 = es1 at *
  generalize (layNew t es h v).2.2.1 = wd at *
  have two : Ris (if (layNew t es h v).2.1.plain = true then { (layNew t es h v).2.1 with plain := false } else (layNew t es h v).2.1).place.toList ∧ (if (layNew t es h v).2.1.plain = true then { (layNew t es h v).2.1 with plain := false } else (layNew t es h v).2.1).led = t.led := by
    split <;> exact ⟨r1, l1⟩
  generalize (if (layNew t es h v).2.1.plain = true then { (layNew t es h v).2.1 with plain := false } else (layNew t es h v).2.1) = t2 at two
  have l2 : w.params.followText "set-order" = true ∨ t2.led = true := k.2.imp id fun z => by rw [two.2]; exact z
  show TxW w (PySem.Froz.tailTx ep es1 t2 wd)
  unfold PySem.Froz.tailTx
  split
  · exact ⟨relayAll_ris t2 es1 _, l2.imp id fun z => by show (relayAll t2 es1 _).2.1.led = true; rw [relayAll_led]; exact z⟩
  · exact ⟨two.1, l2⟩
def addD (ds : List Str) (k : Str) : List Str := if k ∈ ds then ds else k :: ds
theorem addD_mem {ds : List Str} {k z : Str} : z ∈ addD ds k ↔ z ∈ ds ∨ z = k := by
  unfold addD
  by_cases h : k ∈ ds
  · rw [if_pos h]
    exact ⟨.inl, fun q => q.elim id fun e => by rw [e]; exact h⟩
  · rw [if_neg h, List.mem_cons]
    exact Or.comm
theorem addD_len (ds : List Str) (k : Str) : (addD ds k).length ≤ ds.length + 1 := by
  unfold addD
  split
  · exact Nat.le_succ _
  · exact Nat.le_refl _
theorem adds_mem {ws : List Str} : ∀ {ds : List Str} {z : Str}, z ∈ ws.foldl addD ds ↔ z ∈ ds ∨ z ∈ ws := by
  induction ws with
  | nil => intro ds z; simp
  | cons k ws ih =>
    intro ds z
    rw [List.foldl_cons, ih, addD_mem, List.mem_cons, or_assoc]
theorem adds_len {ws : List Str} : ∀ {ds : List Str}, (ws.foldl addD ds).length ≤ ds.length + ws.length := by
  induction ws with
  | nil => intro ds; exact Nat.le_refl _
  | cons k ws ih =>
    intro ds
    rw [List.foldl_cons, List.length_cons]
    have := ih (ds := addD ds k)
    have := addD_len ds k
    omega
section
variable {P : Program} {w : World} {A : Around} {E : Value → Shared → Prop} {s : Shared} {a : Addr} {ds : List Str} {k : Str} {u : Tok}
/-- a text that is there -/
theorem old_x {T : String} {D : PySem.Froz.SD} {Q : Bool → Shared → Prop} (ho : s.heap.get? a = some (PySem.Froz.sObj T D)) (F : PySem.Froz.TxOk P w D ds) (hk : k ∈ ds) (hb : ds.length < scanBound) (h : Q false s) :
    wpAny (model P w) A (setAddHashed a (.str k u) (hashStr w k)) Q E s := by
  obtain ⟨es, ep, t⟩ := D
  obtain ⟨el, mem, sz, fit⟩ := F
  have is_ : (strKind P w).is k (.str k u) = true := PySem.Froz.is_str k u
  have low : es.size < scanBound := by rw [show es.size = ds.length from sz]; exact hb
  unfold setAddHashed setAddHashedIn
  refine wpAny_holding (wpAny_bind (wpAny_setState_of ho rfl fit ?_))
  dsimp only
  rw [byScan_of (show (Value.str k u).scannable = true from rfl) low el]
  simp only [↓reduceIte]
  unfold setAddByScan
  refine wpAny_bind (wpAny_bind (wpAny_rule (wpAny_bind (wpAny_setScan_of is_ ho rfl fit el ?_))))
  cases e : List.findIdx? (fun q => (strKind P w).is k q.2) es.toList with
  | some j => exact wpAny_pure (wpAny_pure h)
  | none =>
    obtain ⟨q, hq, y⟩ := (mem k).mp hk
    have := List.findIdx?_eq_none_iff.mp e q hq
    rw [y] at this
    cases this
theorem addS {Q : Bool → Shared → Prop} (R : SetS P w s.heap a ds) (room : ds.length + 1 < scanBound) (hQ : ∀ h' b, Heap.SameBut a s.heap h' → SetS P w h' a (addD ds k) → Q b { s with heap := h' }) :
    wpAny (model P w) A (setAddHashed a (.str k u) (hashStr w k)) Q E s := by
  have R0 := R
  obtain ⟨D, ho, F, W, nd⟩ := R
  by_cases hk : k ∈ ds
  · refine old_x ho F hk (by omega) (hQ s.heap false (Heap.SameBut.refl a s.heap) ?_)
    unfold addD
    rw [if_pos hk]
    exact R0
  · refine PySem.Froz.add_x ho F hk room (hQ _ true (Heap.SameBut.update s.heap a _) ⟨_, Heap.get?_update_self _ ho rfl, ?_⟩)
    unfold addD
    rw [if_neg hk]
    exact ⟨PySem.Froz.add_ok u F, tx_walk W, List.nodup_cons.mpr ⟨hk, nd⟩⟩
end
section
variable {P : Program} {w : World} {A : Around} {I : Addr} {fp wr : List Addr} {G : Array GenState → Array GenState → Prop} {n : Nat} {Pv : Nat → Value → Prop} {St : Nat → Shared → Prop} {R : Result → Shared → Prop}
theorem loopT (W : WalksS P w A.in1 I fp wr G n Pv St) (S : Addr) (hSf : S ∉ fp) (ws : List Str) (hn : ws.length = n) (hb : n + 1 < scanBound) (hval : ∀ i v, Pv i v → ∃ z t, ws[i]? = some z ∧ v = .str z t) :
    ∀ (m i : Nat) (s : Shared), n - i = m → i ≤ n → St i s → SetS P w s.heap S ((ws.take i).foldl addD []) →
      (∀ s', Moved (S :: wr) G s s' → SetS P w s'.heap S (ws.foldl addD []) → R (.ok (.ret .none)) s') → codeAny (model P w) A (.builtin "set.update.loop" ⟨[.ref S, .ref I], []⟩) R s := by
  have out : S ∉ wr := fun z => hSf (W.sub _ z)
  have more : ∀ b ∈ wr, b ∈ S :: wr := fun b hb => List.mem_cons_of_mem _ hb
  intro m
  induction m with
  | zero =>
    intro i s hm hi hst hS hR
    have e : i = n := by omega
    rw [e, ← hn, List.take_length] at hS
    rw [e] at hst
    refine codeAny_builtin F.entry_set_update_loop ?_
    rw [Around.under_plainId F.plain_set_update_loop _]
    exact wpAny_bind (W.done s _ _ hst fun s' mv => wpAny_pure (hR s' (mv.mono more) (hS.at fun o q => mv.heap S o out q)))
  | succ m ih =>
    intro i s hm hi hst hS hR
    have lt : i < n := by omega
    refine codeAny_builtin F.entry_set_update_loop ?_
    rw [Around.under_plainId F.plain_set_update_loop _]
    refine wpAny_bind (W.item i s _ _ lt hst fun v s' hP hst' mv => ?_)
    obtain ⟨z, t, hz, rfl⟩ := hval i v hP
    have hS' := hS.at fun o q => mv.heap S o out q
    have tk : ws.take (i + 1) = ws.take i ++ [z] := by rw [List.take_succ, hz]; rfl
    have lg : ((ws.take i).foldl addD []).length + 1 < scanBound := by
      have := adds_len (ws := ws.take i) (ds := [])
      have := List.length_take_le' i ws
      have h0 : ([] : List Str).length = 0 := rfl
      have := List.length_take_le i ws
      omega
    show wpAny _ A.in1 (holding [Value.str z t] (setAdd S (.str z t)) >>= _) _ _ s'
    unfold setAdd
    refine wpAny_bind (wpAny_holding (wpAny_holding (wpAny_bind ((strKind P w).pyHash (k := z) (strKind_is _ _ _ _) ?_))))
    refine addS (s := { s' with toks := s'.toks + 1 }) hS' lg fun h' b sb hS2 => ?_
    have hS3 : SetS P w h' S ((ws.take (i + 1)).foldl addD []) := by
      rw [tk, List.foldl_append]
      exact hS2
    refine wpAny_pure ⟨plainId_quiet F.plain_set_update_loop _, ih (i + 1) _ (by omega) lt (W.frame _ s' _ _ hst' (Nat.le_succ _) fun b hb o e => ?_) hS3 fun s2 mv2 hS4 => ?_⟩
    · exact (sb.2 b fun q => hSf (by rw [← q]; exact hb)).trans e
    · refine hR s2 (Moved.trans W.gtrans ((mv.mono more).then_heap (Nat.le_succ _) fun b o hb e => ?_) mv2) hS4
      exact (sb.2 b fun q => hb (by rw [q]; exact List.mem_cons_self)).trans e
end
end Sps
set_option Elab.async false
set_option linter.all false
set_option maxRecDepth 100000
set_option maxHeartbeats 4000000
/-! Sets of texts: made of a list, put in order. -/
namespace Sps
open PySem PySem.Spec PyProof.Rows L2
section
variable {P : Program} {w : World} {A : Around} {E : Value → Shared → Prop} {s : Shared}
/-- a new set's object -/
abbrev set0 (w : World) : Obj := { cls := .type "set", dict := none, data := .set #[] 0 (.fresh 0 0 (!w.params.followText "set-order")) }
theorem setS_new {h : Heap} {a : Addr} (ho : h.get? a = some (set0 w)) : SetS P w h a [] := by
  refine ⟨(#[], 0, .fresh 0 0 (!w.params.followText "set-order")), ho, PySem.Froz.TxOk.nil rfl, ⟨.nil, ?_⟩, .nil⟩
  cases e : w.params.followText "set-order" with
  | true => exact .inl rfl
  | false => exact .inr rfl
theorem code_new1 (v : Value) {R : Value → Shared → Prop} (k : R (.ref s.heap.objs.size) { s with heap := s.heap.push (set0 w) }) : codeAny (model P w) A (.call (.builtin "set.__new__") ⟨[.type "set", v], []⟩) (wants R E) s := by
  have self_ := sub_set_self
  refine codeAny_of_tree (show wpAny _ A.in1 (do checkBuiltinCall "set.__new__" ⟨[.type "set", v], []⟩; again (.builtin "set.__new__" ⟨[.type "set", v], []⟩)) _ _ s from wpAny_bind (wpAny_of_eq (PySem.F.newCall_set_1 v) (wpAny_pure ⟨plainId_quiet F.plain_set_new _, codeAny_builtin F.entry_set_new ?_⟩)))
  rw [Around.under_plainId F.plain_set_new _]
  unfold Builtin.«set.__new__» Builtin.Frozenset.newClass
  cases s
  (dsimp only; wp_walk)
  refine wpAny_askSetting (wpAny_pure ?_)
  (dsimp only; simp only [newObj])
  exact wpAny_bind (wpAny_alloc (wpAny_pure (wpAny_pure k)))
/-- set(l), l a list of texts -/
theorem call_setL {l : Addr} {us : Array Value} {ws : List Str} {Q : Value → Shared → Prop} (hh : A.handled = none) (hl : s.heap.IsList l us) (hi : StrsAre us.toList ws) (hb : ws.length + 1 < scanBound)
    (hQ : ∀ h' tk, SetS P w h' s.heap.objs.size (ws.foldl addD []) → (∀ b o, s.heap.get? b = some o → h'.get? b = some o) → Q (.ref s.heap.objs.size) { s with heap := h', toks := tk }) :
    wpAny (model P w) A (call (.type "set") [.ref l]) Q E s := by
  have ln : ws.length = us.size := by rw [← StrsAre.len_eq hi, Array.length_toList]
  obtain ⟨c, tl, m1⟩ := PySem.F.called_set.mro
  have m2 := PySem.F.called_set.made
  have m3 := PySem.F.called_set.sub
  have m4 := PySem.F.called_set.notType
  have m5 := PySem.F.called_set.canCreate
  have m6 := PySem.F.typeCall_set_1 (.ref l)
  refine wpAny_call (codeAny_of_tree (show wpAny _ _ (callAny (.type "set") _) _ _ _ from wpAny_pure ⟨Code.quiet_builtin _ (by decide +kernel), codeAny_builtin PySem.F.entry_type_call ?_⟩))
  rw [Around.under_plain (weight_type_call_type "set" [.ref l] []) rfl]
  repeat (any_goals (first | assumption | wp_step))
  refine codeAny_mono (code_new1 (P := P) (w := w) (A := A.in1) (E := E) (.ref l) (R := fun v s1 => v = .ref s.heap.objs.size ∧ s1 = { s with heap := s.heap.push (set0 w) }) ⟨rfl, rfl⟩) fun r s1 hr => ?_
  match r, hr with
  | .error e, hr => exact hr
  | .ok .next, hr => exact hr.elim
  | .ok .brk, hr => exact hr.elim
  | .ok .cont, hr => exact hr.elim
  | .ok (.ret obj), hr =>
    obtain ⟨rfl, rfl⟩ := hr
    have hS : (s.heap.push (set0 w)).get? s.heap.objs.size = some (set0 w) := Heap.get?_push_size _ rfl
    have hT : Shared.TypeIs { s with heap := s.heap.push (set0 w) } (.ref s.heap.objs.size) "set" := ⟨_, hS, rfl⟩
    have n1 := PySem.F.called_set.init.lookup
    have n2 := PySem.F.called_set.init.bind (.ref s.heap.objs.size)
    repeat (any_goals (first | assumption | wp_step))
    refine codeAny_mono (codeAny_call_builtin (R := wants (fun r s2 => r = .none ∧ ∃ h' tk, s2 = { s with heap := h', toks := tk } ∧ SetS P w h' s.heap.objs.size (ws.foldl addD []) ∧ ∀ b o, s.heap.get? b = some o → h'.get? b = some o) E)
      PySem.F.called_set.init.plain PySem.F.entry_set_init (check_set_init_1 hT ?_)) fun r2 s2 hr2 => ?_
    · obtain ⟨⟨cl, di, da, sl⟩, hol, hcl, nl, hdl⟩ := hl
      simp only at hcl hdl
      subst hcl hdl
      have old : ∀ {b : Addr} {o : Obj}, s.heap.get? b = some o → (s.heap.push (set0 w)).get? b = some o := fun e => Heap.get?_push_of_some _ e
      have hol' := old hol
      have hl1 : (s.heap.push (set0 w)).IsList l us := ⟨_, hol', rfl, nl, rfl⟩
      have k1 := PySem.F.sub_list_set
      have k2 := PySem.F.sub_list_frozenset
      have k3 : (Value.type "list" == Value.type "dict") = false := by decide
      have sz : (s.heap.push (set0 w)).objs.size = s.heap.objs.size + 1 := Heap.size_push _ _
      have ll : l < s.heap.objs.size := Heap.lt_size hol
      unfold Builtin.«set.__init__» noKeywords Builtin.Frozenset.updateFrom
      generalize hPI : pyIter = PI
      wp_walk
      subst hPI
      refine wpAny_pyIter_list hl1 (wpAny_bind (wpAny_runValue ?_))
      have noI : l ≠ (s.heap.push (set0 w)).objs.size := fun e => by
        rw [Heap.size_push] at e
        exact absurd ll (by rw [e]; exact Nat.not_lt_of_le (Nat.le_succ _))
      have noS : s.heap.objs.size ∉ [(s.heap.push (set0 w)).objs.size, l] := by
        rw [Heap.size_push]
        intro z
        rcases List.mem_cons.mp z with e | z
        · exact absurd e (Nat.ne_of_lt (Nat.lt_succ_self _))
        · exact absurd (List.mem_singleton.mp z) (Nat.ne_of_gt ll)
      have val : ∀ (i : Nat) (v : Value), us[i]? = some v → ∃ z t, ws[i]? = some z ∧ v = .str z t := fun i v hv => by
        obtain ⟨t, e⟩ := SS.strs_at hi i v (by rw [Array.getElem?_toList]; exact hv)
        have hlt : i < ws.length := by rw [ln]; exact (Array.getElem?_eq_some_iff.mp hv).1
        exact ⟨_, t, List.getElem?_eq_getElem hlt, by rw [e, List.getD_eq_getElem?_getD, List.getElem?_eq_getElem hlt]; rfl⟩
      refine loopT ((Walks.list (by simp [hh]) _ l noI us).toS) s.heap.objs.size noS ws ln (by omega) val us.size 0 _ rfl (Nat.zero_le _) ⟨⟨_, Heap.get?_push_size _ rfl, rfl, rfl⟩, hl1.push _⟩ (setS_new (Heap.get?_push_of_some _ hS)) fun s' mv hR => ?_
      obtain ⟨h', g', d', tk', os'⟩ := s'
      obtain rfl : g' = s.gens := mv.gens
      obtain rfl : d' = s.drawn := mv.drawn
      obtain rfl : os' = s.os := mv.os
      refine wpAny_pure (wpAny_pure ⟨rfl, h', tk', rfl, hR, fun b o e => mv.heap b o ?_ (Heap.get?_push_of_some _ (old e))⟩)
      have lb := Heap.lt_size e
      rw [Heap.size_push]
      intro z
      rcases List.mem_cons.mp z with q | z
      · exact absurd q (Nat.ne_of_lt lb)
      · exact absurd (List.mem_singleton.mp z) (Nat.ne_of_lt (Nat.lt_succ_of_lt lb))
    · match r2, hr2 with
      | .error e, hr2 => exact hr2
      | .ok .next, hr2 => exact hr2.elim
      | .ok .brk, hr2 => exact hr2.elim
      | .ok .cont, hr2 => exact hr2.elim
      | .ok (.ret u), hr2 =>
        obtain ⟨rfl, h', tk, rfl, hR, hk⟩ := hr2
        repeat (any_goals (first | assumption | wp_step))
        exact hQ _ _ hR hk
end
end Sps
set_option Elab.async false
set_option linter.all false
set_option maxRecDepth 100000
set_option maxHeartbeats 4000000
/-! Sets of texts: the rules. -/
namespace Sps
open PySem PySem.Spec PyProof.Rows L2
theorem perm_sub : ∀ {ds ss : List Str}, ds.Nodup → (∀ z ∈ ds, z ∈ ss) → ss.length ≤ ds.length → ss.Perm ds
  | [], ss, _, _, l => by
    have : ss = [] := List.eq_nil_of_length_eq_zero (Nat.le_zero.mp l)
    rw [this]
  | d :: ds, ss, nd, h, l => by
    obtain ⟨n1, n2⟩ := List.nodup_cons.mp nd
    have md := h d List.mem_cons_self
    have p1 := List.perm_cons_erase md
    have l1 := List.length_erase_of_mem md
    have p2 := perm_sub (ss := ss.erase d) n2 (fun z hz => (List.mem_erase_of_ne (fun e => n1 (by rw [← e]; exact hz))).mpr (h z (List.mem_cons_of_mem _ hz))) (by rw [List.length_cons] at l; omega)
    exact p1.trans (p2.cons d)
section
variable {P : Program} {w : World} {A : Around} {E : Value → Shared → Prop} {s : Shared}
/-- the texts of the payload's entries -/
theorem tx_strs {D : PySem.Froz.SD} {ds : List Str} (F : PySem.Froz.TxOk P w D ds) (nd : ds.Nodup) {vs : List Value} (pm : vs.Perm (D.1.toList.map (·.2))) : ∃ ss : List Str, StrsAre vs ss ∧ ss.Perm ds := by
  have one : ∀ e ∈ D.1.toList, ∃ z t, e.2 = Value.str z t := fun e he => by
    obtain ⟨⟨z, y, _⟩, _⟩ := F.el e he
    have y2 : Value.isStrOf z e.2 = true := y
    cases q : e.2 with
    | str x t => exact ⟨x, t, rfl⟩
    | _ =>
      rw [q] at y2
      cases y2
  have allS : ∀ vs : List Value, (∀ v ∈ vs, ∃ z t, v = Value.str z t) → ∃ ss : List Str, StrsAre vs ss := fun vs => by
    induction vs with
    | nil => exact fun _ => ⟨[], .nil⟩
    | cons v vs ih =>
      intro h
      obtain ⟨z, t, rfl⟩ := h v List.mem_cons_self
      obtain ⟨ss, k⟩ := ih fun u hu => h u (List.mem_cons_of_mem _ hu)
      exact ⟨z :: ss, .cons z t k⟩
  obtain ⟨ss, hs⟩ := allS vs fun v hv => by
    obtain ⟨e, he, rfl⟩ := List.mem_map.mp (pm.mem_iff.mp hv)
    exact one e he
  refine ⟨ss, hs, ?_⟩
  have mem1 : ∀ {vs : List Value} {ss : List Str}, StrsAre vs ss → ∀ z, z ∈ ss ↔ ∃ v ∈ vs, Value.isStrOf z v = true := fun {vs ss} h => by
    induction h with
    | nil => intro z; simp
    | cons x t r ih =>
      intro z
      rw [List.mem_cons, ih z]
      constructor
      · rintro (e | ⟨v, hv, k⟩)
        · exact ⟨_, List.mem_cons_self, by rw [e]; exact PySem.Froz.is_str (P := P) (w := w) x t⟩
        · exact ⟨v, List.mem_cons_of_mem _ hv, k⟩
      · rintro ⟨v, hv, k⟩
        rcases List.mem_cons.mp hv with e | hv
        · rw [e] at k
          left
          simp [Value.isStrOf] at k
          exact k.symm
        · exact .inr ⟨v, hv, k⟩
  have mem : ∀ z, z ∈ ds ↔ z ∈ ss := fun z => by
    rw [mem1 hs z, F.mem z]
    constructor
    · rintro ⟨e, he, k⟩
      exact ⟨e.2, pm.mem_iff.mpr (List.mem_map.mpr ⟨e, he, rfl⟩), k⟩
    · rintro ⟨v, hv, k⟩
      obtain ⟨e, he, rfl⟩ := List.mem_map.mp (pm.mem_iff.mp hv)
      exact ⟨e, he, k⟩
  have ln : ss.length = ds.length := by
    have h1 : D.1.size = ds.length := F.sz
    rw [← StrsAre.len_eq hs, pm.length_eq, List.length_map, Array.length_toList, h1]
  -- as many as there are, each there: the same
  exact perm_sub nd (fun z hz => (mem z).mp hz) (by omega)
theorem run_sortS {a : Addr} {ds : List Str} {Q : Value → Shared → Prop} (R : SetS P w s.heap a ds) (hh : A.handled = none) (h64 : ds.length < 64)
    (hQ : ∀ s' p (out : Array Value) (c : Nat) (ss : List Str), (∀ b o, s.heap.get? b = some o → s'.heap.get? b = some o) → s'.gens = s.gens → s'.os = s.os → s.heap.objs.size ≤ p → s'.heap.get? p = some (seqObj "list" out c) → StrsAre out.toList ss → ss.Perm ds → sortedS ss = true → Q (.ref p) s') :
    wpAny (model P w) A (call (.builtin "sorted") [.ref a]) Q E s := by
  obtain ⟨⟨es, ep, t⟩, ho, F, W, nd⟩ := R
  have sz : es.size = ds.length := F.sz
  have low : es.size < scanBound := by rw [sz]; exact Nat.lt_trans h64 (by decide)
  refine Calls.call_function_entry kind_sorted plain_sorted entry_sorted (args_sorted1 _) ?_
  unfold Builtin.«sorted»
  refine wpAny_bind (m := checkCount "sorted" 1 1 _) (wpAny_pure (wpAny_bind (collect_set (A := A.in1) hh ⟨_, ho, rfl, rfl⟩ F.fit low W.1 W.2 fun s1 vs k1 z1 g1 o1 pm => ?_)))
  obtain ⟨ss0, hs0, p0⟩ := tx_strs F nd pm
  have vl : vs.length < 64 := by rw [StrsAre.len_eq hs0, p0.length_eq]; exact h64
  have hoL : (s1.heap.push (seqObj "list" vs.toArray 0)).get? s1.heap.objs.size = some (seqObj "list" vs.toArray 0) := Heap.get?_push_size _ rfl
  refine wpAny_bind (wpAny_newList (wpAny_bind (wpAny_holding (wpAny_call_entry slot_list_sort ⟨_, hoL, rfl⟩ entry_list_sort (list_sort_treeK strKind_oneLt hoL hs0.keysOf (fun v₁ v₂ rest e => keyKind_strs (by rw [← e]; exact hs0)) vl fun st hp hs => ⟨_, rfl, ?_⟩) (args_list_sort _)))) (by rw [sizeLine_eq]; omega))
  obtain ⟨ss, h1, h2, h3⟩ := sorted_out_str hs0 hp hs
  obtain ⟨c, hc⟩ := sortedHeap_at (vs := vs) (out := (arrOf st).map (·.2)) hoL
  refine wpAny_pure ⟨_, rfl, hQ _ s1.heap.objs.size _ c ss (fun b u e => ?_) g1 o1 z1 hc h1 (h2.trans p0) h3⟩
  have q := k1 b u e
  have lt := Heap.lt_size q
  show (sortedHeap (s1.heap.push (seqObj "list" vs.toArray 0)) s1.heap.objs.size vs _).get? b = some u
  rw [sortedHeap_old (Nat.ne_of_lt lt) (by rw [Heap.size_push]; exact Nat.lt_succ_of_lt lt)]
  exact Heap.get?_push_of_some _ q
end
/-! ### the rules -/
def SetSO (P : Program) (w : World) (a : Addr) (ds : List Str) : HO := .ext fun h => SetS P w h a ds
theorem setSO_ok {P : Program} {w : World} {H : Hp} {h : Heap} {a : Addr} {ds : List Str} (R : SetS P w h a ds) : ObjOk P w H h a (SetSO P w a ds) := by
  have ⟨D, e, _⟩ := R
  exact ⟨R, ⟨_, e⟩, fun h1 h2 p k => SetS.at p k⟩
def rSetS (P : Program) (w : World) (K : PySem.W.Frag) : List V → Hp → VK → Prop := fun xs H Q => ∃ (l : Addr) (ws : List Str), xs = [.ref l] ∧ SqL K H l (ws.map V.str) ∧ ws.length ≤ 60 ∧
  ∀ (p : Addr) (ds : List Str), H p = none → ds.length ≤ ws.length → (∀ z, z ∈ ds ↔ z ∈ ws) → Q (.ref p) (L2.upd H p (SetSO P w p ds))
def rSortS (P : Program) (w : World) : List V → Hp → VK → Prop := fun xs H Q => ∃ (a : Addr) (ds : List Str), xs = [.ref a] ∧ H a = some (SetSO P w a ds) ∧ ds.length ≤ 60 ∧
  ∀ (q : Addr) (ss : List Str), H q = none → ss.Perm ds → (ss.Pairwise fun a b => ltS a b = true) → Q (.ref q) (L2.upd H q (.lst (ss.map V.str)))
theorem cr_setS {X : Cx} (hc : X.calm = true) : CallR X (.type "set") (rSetS X.prog X.w X.K) := by
  intro pins s σ H xs us Q I r h
  obtain ⟨l, ws, rfl, hl, h60, q⟩ := h
  obtain ⟨its, rv, pl, _⟩ := I.list hl
  rw [Vals.ref1 r]
  refine call_setL (I.ok.hd hc) pl.isList rv.strs (Nat.lt_of_le_of_lt (Nat.succ_le_succ h60) (by decide)) fun h' tk R k => ?_
  have sz : s.heap.objs.size < h'.objs.size := let ⟨D, e, _⟩ := R; Heap.lt_size e
  have ln := adds_len (ws := ws) (ds := [])
  exact ⟨.ref s.heap.objs.size, L2.upd H s.heap.objs.size (SetSO X.prog X.w s.heap.objs.size (ws.foldl addD [])), I.laid (t' := tk) k (Nat.le_refl _) (setSO_ok R), rfl,
    q _ _ (I.hok.fresh (Nat.le_refl _)) (by have h0 : ([] : List Str).length = 0 := rfl; omega) fun z => by rw [adds_mem]; simp⟩
theorem cr_sortSetS {X : Cx} (hc : X.calm = true) : CallR X (.builtin "sorted") (rSortS X.prog X.w) := by
  intro pins s σ H xs us Q I r h
  obtain ⟨a, ds, rfl, ha, h60, q⟩ := h
  have R : SetS X.prog X.w s.heap a ds := (I.hok a _ ha).1
  have nd : ds.Nodup := let ⟨_, _, _, _, n⟩ := R; n
  rw [Vals.ref1 r]
  refine run_sortS R (I.ok.hd hc) (Nat.lt_of_le_of_lt h60 (by decide)) fun s' p out c ss k g o hp hg hi pm hs => ?_
  have hlen : (ss.map V.str).length ≤ sizeLine := by rw [List.length_map, pm.length_eq, sizeLine_eq]; omega
  have hn : H p = none := I.hok.fresh hp
  have J : Inv X pins σ (L2.upd H p (.lst (ss.map V.str))) { s with heap := s'.heap, gens := s'.gens, drawn := s'.drawn, toks := s'.toks } :=
    I.call (ch := []) (Un.laid k hp hn) (I.hok.laid k hp ⟨hlen, out.toList, c, vals_of_strs hi, hg⟩) (by rw [g]; exact I.bare) (fun _ z => nomatch z)
  have e : s' = { s with heap := s'.heap, gens := s'.gens, drawn := s'.drawn, toks := s'.toks } := by
    cases s'
    cases s
    cases o
    rfl
  have lt : ss.Pairwise fun a b => ltS a b = true := by
    refine List.Pairwise.imp (fun {x y} k => ?_) ((sorted_lw hs).and (pm.nodup_iff.mpr nd))
    obtain ⟨k1, k2⟩ := k
    cases e : ltS x y with
    | true => rfl
    | false =>
      rcases ltS_tot e with z | z
      · exact absurd z k2
      · rw [show ltS y x = false from k1] at z
        cases z
  rw [e]
  exact ⟨.ref p, _, J, rfl, q p ss hn pm lt⟩
end Sps
set_option Elab.async false
set_option linter.all false
set_option maxRecDepth 100000
set_option maxHeartbeats 4000000
/-! The law's own look at copies. -/
namespace Sps
open PySem PySem.Spec PyProof.Rows L2
def dStrs (ws : List Str) : List PyData := ws.map PyData.str
theorem lay_strs : ∀ ws : List Str, (∀ z ∈ ws, PyData.strOk z = true) → PyData.canLayAll0 (dStrs ws) = true
  | [], _ => rfl
  | z :: ws, h => by
    have ih := lay_strs ws fun y m => h y (List.mem_cons_of_mem _ m)
    have h0 := h z List.mem_cons_self
    unfold dStrs at ih ⊢
    rw [List.map_cons]
    simp [PyData.canLayAll0, PyData.canLay0, ih, h0]
theorem deep_strs : ∀ ws : List Str, PyData.depthAll (dStrs ws) ≤ 1
  | [] => by decide
  | z :: ws => by
    have ih := deep_strs ws
    unfold dStrs at ih ⊢
    rw [List.map_cons]
    simp only [PyData.depthAll, PyData.depth]
    omega
theorem dp_strs {K : PySem.W.Frag} {H : Hp} : ∀ ws : List Str, DpAll K H (ws.map V.str) (dStrs ws)
  | [] => .nil
  | z :: ws => .cons (.str z) (dp_strs ws)
theorem shaped_strs {ws : List Str} (h : ∀ z ∈ ws, PyData.strOk z = true) : SeqAt.shaped (.list (dStrs ws)) = true := by
  have h1 := lay_strs ws h
  have h2 := deep_strs ws
  unfold SeqAt.shaped
  have h3 : (PyData.list (dStrs ws)).canLay0 = true := by simp [PyData.canLay0, h1]
  rw [h3, Bool.true_and]
  refine decide_eq_true ?_
  simp only [PyData.depth]
  omega
theorem eqv_strs (xs ys : List Str) : PyData.eqv (.list (dStrs xs)) (.list (dStrs ys)) = decide (xs = ys) := by
  have aux : ∀ xs ys : List Str, PyData.eqvAll (dStrs xs) (dStrs ys) = decide (xs = ys) := fun xs => by
    induction xs with
    | nil =>
      intro ys
      cases ys with
      | nil => simp [dStrs, PyData.eqvAll]
      | cons y ys => simp [dStrs, PyData.eqvAll]
    | cons x xs ih =>
      intro ys
      cases ys with
      | nil => simp [dStrs, PyData.eqvAll]
      | cons y ys =>
        have := ih ys
        unfold dStrs at this ⊢
        rw [List.map_cons, List.map_cons]
        have e : (x == y) = decide (x = y) := by
          by_cases h : x = y
          · rw [decide_eq_true h, h, beq_self_eq_true]
          · rw [decide_eq_false h, beq_eq_false_iff_ne.mpr h]
        simp [PyData.eqvAll, PyData.eqv, this, e]
  simp only [PyData.eqv]
  exact aux xs ys
theorem nm_range (rs : List Cp) : ((List.range rs.length).map fun i => V.str (nm rs i)) = (rs.map (·.1)).map V.str := by
  refine List.ext_getElem (by simp) fun i h1 h2 => ?_
  have hl : i < rs.length := by simpa using h1
  simp [nm_at (List.getElem?_eq_getElem hl)]
theorem inV_strs {z : Str} : ∀ {ws : List Str}, inV (.str z) (ws.map V.str) = decide (z ∈ ws)
  | [] => rfl
  | y :: ws => by
    have ih := inV_strs (z := z) (ws := ws)
    unfold inV at ih ⊢
    rw [List.map_cons, List.any_cons, ih]
    by_cases e : y = z
    · subst e
      simp [eqV]
    · have e2 : z ≠ y := fun q => e q.symm
      simp [eqV, e, e2]
theorem pairs_false {o : Option (List (Option Cp))} (h : pairsO o = false) : areO o = false := by
  cases o with
  | none => rfl
  | some os =>
    have h2 : ((decide (1 ≤ os.length) && decide (os.length ≤ 6)) && oksB os) = false := h
    show areB os = false
    unfold areB
    rw [← Bool.and_assoc, h2, Bool.false_and]
theorem alpha_ok {z : Str} (h : lettersOk alphaL z = true) : PyData.strOk z = true := by
  have h2 := (Bool.and_eq_true_iff.mp h).2
  have low : ∀ c ∈ alphaL.cps.toList, c < 0x110000 := by decide +kernel
  unfold PyData.strOk
  rw [← Array.all_toList]
  exact List.all_eq_true.mpr fun c hc => decide_eq_true (low c (of_decide_eq_true (List.all_eq_true.mp h2 c hc)))
section
variable {P : Program} {w : World} {K : PySem.W.Frag} {mg : Str → Option Value} {base : Heap}
def spAreL (K : PySem.W.Frag) : Sp := fun vs H Q _ => ∃ (v : V) (o : Option (List (Option Cp))), vs = [v] ∧ CpO K H v o ∧ ∀ H', Same H H' → Q (.bl (areO o)) H'
abbrev nAl : List Str := ["_law_thing", "_law_words_here", "_law_pair", "_law_known", "_law_turn"]
theorem scAl : FnScope nAl ["_law_thing"] (defScope s__law_are_copies) := ⟨rfl, rfl, rfl, by decide +kernel, rfl, by decide +kernel, by decide +kernel⟩
theorem ok_areL {f gP : Addr} {fd fdP : FuncData} (F : Fun K "_law_are_copies" "_law_are_copies" s__law_are_copies f fd) (T : Names mg)
    (G : FnOk P w K mg base CX0 2 gP fdP ["_law_thing"] (spPairs K)) (mgP : mg "_law_are_pairs" = some (.ref gP)) (kP : PySem.W.keepIn K (.ref gP) = true) (bP : Binds K fdP ["_law_thing"] []) : FnOk P w K mg base CX0 3 f fd ["_law_thing"] (spAreL K) := by
  refine F.ok scAl (fun vs H Q E h => ?_) (fun cdv A outer s H vs Q E hr h => ?_)
  · obtain ⟨_, _, rfl, _⟩ := h
    rfl
  · obtain ⟨v, o, rfl, hv, h⟩ := h
    have hu : _ := hr.units
    refine ⟨_, pss_cons (ps_if (pt_not (pt_val (pe_call G hr rfl mgP kP bP .nil pass0 (pa_cons (pv 0) pa_nil)))) (pss_one (ps_ret pe_bl)) pss_nil)
      (pss_cons (ps_set (i := 1) scAl.nd rfl (Or.inr rfl) (pe_lc (own := [("_law_pair", 2)]) (g := gName 2) (tt := tYes) (te := tOp (rIxT K) (tVar 2) (tC (.int 0))) rfl scAl.nd (pi_tup (pv 0)) (blkOk_by (own := [("_law_pair", 2)]) (N := nAl) (sc := defScope s__law_are_copies) (by decide +kernel))
          (fun _ _ _ _ _ => pg_name (i := 2) scAl.nd rfl (Or.inl rfl)) (fun _ _ _ _ _ => pts_nil) (fun _ _ _ _ _ => pe_ix (r := rIxT K) ix_tup (pv 2) pe_int (fun _ _ => rfl))))
      (pss_cons (ps_if (PW.pt (pw_or (pt_cmpR (op_neD hu) (pe_callB (cr_sortSetS rfl) (by rfl) T.sorted (by decide +kernel) (pa_cons (pe_callTy (cr_setS rfl) (by rfl) T.set (by decide +kernel) (pa_cons (pv 1) pa_nil)) pa_nil)) (pv 1) (nomark _))
          (pw_or1 (pt_not (pt_val (pe_callB (cr_all rfl) (by rfl) T.all (by decide +kernel) (pa_cons (pe_lc (own := [("_law_pair", 2)]) (g := gName 2) (tt := tYes) rfl scAl.nd (pi_tup (pv 0)) (blkOk_by (own := [("_law_pair", 2)]) (N := nAl) (sc := defScope s__law_are_copies) (by decide +kernel))
            (fun _ _ _ _ _ => pg_name (i := 2) scAl.nd rfl (Or.inl rfl)) (fun _ _ _ _ _ => pts_nil)
            (fun _ _ _ _ _ => pe_or (pe_cmpR op_isN (pe_ix (r := rIxT K) ix_tup (pv 2) pe_int (fun _ _ => rfl)) pe_non (nomark _)) (pe_one (pe_cmpR (r := rIn K false) op_in_seq (pe_ix (r := rIxT K) ix_tup (pv 2) pe_int (fun _ _ => rfl)) (pv 1) (by with_unfolding_all rfl))))) pa_nil))))))) (pss_one (ps_ret pe_bl)) pss_nil)
      (pss_cons (ps_set (i := 3) scAl.nd rfl (Or.inr rfl) (pe_lst pa_nil))
      (pss_cons (ps_for PassesOwn.never rfl (pi_list (pv 1)) (pg_name (i := 4) scAl.nd rfl (Or.inl rfl))
        (pss_one (ps_set (i := 3) scAl.nd rfl (Or.inr rfl) (pe_lc (own := [("_law_pair", 2)]) (g := gName 2) (te := tOp (rIxT K) (tVar 2) (tC (.int 0))) rfl scAl.nd (pi_tup (pv 0)) (blkOk_by (own := [("_law_pair", 2)]) (N := nAl) (sc := defScope s__law_are_copies) (by decide +kernel))
          (fun _ _ _ _ _ => pg_name (i := 2) scAl.nd rfl (Or.inl rfl))
          (fun _ _ _ _ _ => pts_one (PW.pt (pw_or (pt_cmpR op_isN (pe_ix (r := rIxT K) ix_tup (pv 2) pe_int (fun _ _ => rfl)) pe_non (nomark _)) (pw_or1 (pt_cmpR (r := rIn K false) op_in_seq (pe_ix (r := rIxT K) ix_tup (pv 2) pe_int (fun _ _ => rfl)) (pv 3) (by with_unfolding_all rfl))))))
          (fun _ _ _ _ _ => pe_ix (r := rIxT K) ix_tup (pv 2) pe_int (fun _ _ => rfl))))))
      (pss_one (ps_ret (pe_cmpR (op_eqD hu) (pe_callB cr_sortedS (by rfl) T.sorted (by decide +kernel) (pa_cons (pv 3) pa_nil)) (pv 1) (nomark _)))))))), ?_⟩
    cases hpo : pairsO o with
    | false =>
      refine ⟨_, rfl, v, o, rfl, hv, fun H1 s1 => ⟨_, rfl, ?_⟩⟩
      rw [hpo]
      refine iteT ?_
      have q := h H1 s1
      rw [pairs_false hpo] at q
      exact q
    | true =>
    have hv0 := hv
    cases hv with
    | kind hk => cases hpo
    | tup hA hP hz0 =>
    rename_i a xs os
    have hl : xs.length = os.length := hP.length
    obtain ⟨hle, ho⟩ := Bool.and_eq_true_iff.mp (show ((decide (1 ≤ os.length) && decide (os.length ≤ 6)) && oksB os) = true from hpo)
    obtain ⟨h1, h6⟩ := Bool.and_eq_true_iff.mp hle
    have h1 := of_decide_eq_true h1
    have h6 := of_decide_eq_true h6
    have at_ : ∀ {H' : Hp}, Same H H' → SqT K H' a xs := fun s => .inl (rd_same hA s)
    have eos := oks_some ho
    have eB : areO (some os) = goodB (rowsOf os) := by
      show areB os = _
      unfold areB
      rw [ho, decide_eq_true h1, decide_eq_true h6]
      rfl
    rw [eB] at h
    generalize ers : rowsOf os = rs at eos h
    have len_ : xs.length = rs.length := by rw [hl, eos, List.length_map]
    have lrs : os.length = rs.length := by rw [eos, List.length_map]
    rw [lrs] at h1 h6
    have hz : rs.length < sizeLine := small_n h6
    have row : ∀ {i : Nat} {x : V}, xs[i]? = some x → ∃ (t : Addr) (r : Cp), x = .ref t ∧ rs[i]? = some r ∧ r ∈ rs ∧ Rd H t (.tup [.str r.1, optV r.2]) ∧ okRow r := fun {i x} e => by
      obtain ⟨o, hr2, ht⟩ := paired_at hP e
      rw [eos, List.getElem?_map] at hr2
      cases q : rs[i]? with
      | none => rw [q] at hr2; cases hr2
      | some r =>
        rw [q] at hr2
        have e2 : o = some r := (Option.some.inj hr2).symm
        subst e2
        obtain ⟨t, e3, e4, e5⟩ := ht.row
        exact ⟨t, r, e3, rfl, List.mem_of_getElem? q, e4, e5⟩
    have okr : ∀ r ∈ rs, okRow r := fun r m => by
      obtain ⟨i, hi, e⟩ := List.mem_iff_getElem.mp m
      have hx : i < xs.length := by rw [len_]; exact hi
      obtain ⟨t, q, _, hq, _, _, k⟩ := row (List.getElem?_eq_getElem hx)
      rw [List.getElem?_eq_getElem hi, e] at hq
      rw [Option.some.inj hq]
      exact k
    have okw : ∀ z ∈ rs.map (·.1), PyData.strOk z = true := fun z m => by
      obtain ⟨r, mr, rfl⟩ := List.mem_map.mp m
      exact alpha_ok (okr r mr).1
    refine ⟨_, rfl, _, _, rfl, hv0, fun H1 s1 => ⟨_, rfl, ?_⟩⟩
    rw [hpo]
    refine iteF ?_
    -- the words
    refine ⟨_, rfl, a, rfl, ⟨_, at_ s1⟩, fun D1 hD1 => lc_vals (walk_tup (K := K) (a := a) (xs := xs)) (fun i => V.str (nm rs i)) (by rw [len_]; exact hz) hD1 (fun H' s => at_ (s1.trans s)) (fun i x H2 H3 Nx hi s2 y k => ?_) (fun H2 s2 hL => ?_)⟩
    · obtain ⟨rfl, hx⟩ := y
      obtain ⟨t, r, rfl, hr', m, ht, _⟩ := row hx
      refine ⟨rfl, ?_⟩
      exact ⟨_, rfl, t, _, 0, _, rfl, rfl, .inl (rd_same ht (s1.trans s2)), atI_nat (j := 0) rfl, k _ _ (by rw [nm_at hr']) (Same.refl _)⟩
    rw [len_, nm_range] at hL
    have s12 := s1.trans s2
    generalize ews : rs.map (·.1) = ws at hL okw
    have lws : ws.length = rs.length := by rw [← ews, List.length_map]
    have qF : ∀ H', Same H H' → goodB rs = false → Q (.bl false) H' := fun H' s e => by
      have q := h H' s
      rw [e] at q
      exact q
    -- in order, each once
    refine ⟨_, rfl, D1, ws, rfl, SqL.of hL, by omega, fun p ds hp0 dl dm => ⟨p, ds, rfl, upd_same, by omega, fun q ss hq pm pw => ?_⟩⟩
    have s3 : Same H2 (L2.upd H2 p (SetSO (cxOf CX0 P w K mg base nAl "_law_are_copies" (defScope s__law_are_copies) f cdv A outer s H E).nox.prog (cxOf CX0 P w K mg base nAl "_law_are_copies" (defScope s__law_are_copies) f cdv A outer s H E).nox.w p ds)) := Same.upd hp0
    generalize L2.upd H2 p _ = H3 at s3 hq ⊢
    have s4 := s3.trans (Same.upd (o := .lst (ss.map V.str)) hq)
    have eS : (L2.upd H3 q (.lst (ss.map V.str))) q = some (.lst (ss.map V.str)) := upd_same
    generalize L2.upd H3 q (.lst (ss.map V.str)) = H4 at s4 eS ⊢
    have hL4 := s4 _ _ hL
    have s14 := s12.trans s4
    have oks : ∀ z ∈ ss, PyData.strOk z = true := fun z m => okw z ((dm z).mp (pm.mem_iff.mp m))
    refine ⟨_, rfl, .list (dStrs ss), .list (dStrs ws), .lst (SqL.of eS) (dp_strs ss), .lst (SqL.of hL4) (dp_strs ws), shaped_strs oks, shaped_strs okw, _, rfl, ?_⟩
    have eA : decide (ss = ws) = ascB rs := by
      rw [← ews]
      exact asc_ss pw fun z => by rw [ews, pm.mem_iff, dm z]
    rw [eqv_strs, eA]
    cases ha : ascB rs with
    | false =>
      refine iteT (qF H4 s14 ?_)
      unfold goodB
      rw [ha, Bool.false_and]
    | true =>
    refine iteF ?_
    have flat : (ws.map V.str).all flatV = true := List.all_eq_true.mpr fun x m => by
      obtain ⟨z, _, rfl⟩ := List.mem_map.mp m
      rfl
    -- each one followed is there
    refine ⟨_, rfl, a, rfl, ⟨_, at_ s14⟩, fun D2 hD2 => lc_bools (walk_tup (K := K) (a := a) (xs := xs)) (fun i => ixB (follIn ws) rs[i]?) (by rw [len_]; exact hz) hD2 (fun H' s => at_ (s14.trans s)) (fun i x H5 H6 Nx hi s5 y k => ?_) (fun H5 s5 hL5 => ?_)⟩
    · obtain ⟨rfl, hx⟩ := y
      obtain ⟨t, r, rfl, hr', m, ht, _⟩ := row hx
      rw [hr'] at k
      have ht5 := rd_same ht (s14.trans s5)
      refine ⟨rfl, ?_⟩
      refine ⟨_, rfl, t, _, 1, _, rfl, rfl, .inl ht5, atI_nat (j := 1) rfl, rfl, ?_⟩
      cases e : r.2 with
      | none =>
        refine ⟨_, rfl, iteT (k _ _ ?_ (Same.refl _))⟩
        show _ = V.bl (follIn ws r)
        unfold follIn
        rw [e]
        try rfl
      | some z =>
        refine ⟨_, rfl, iteF ?_⟩
        rw [e] at ht5
        refine ⟨_, rfl, t, _, 1, _, rfl, rfl, .inl ht5, atI_nat (j := 1) rfl, _, rfl, D1, _, rfl, .inl (SqL.of (s5 _ _ hL4)), rfl, flat, k _ _ ?_ (Same.refl _)⟩
        show _ = V.bl (follIn ws r)
        unfold follIn
        rw [e]
        show V.bl (inV (.str z) (ws.map V.str)) = _
        rw [inV_strs]
    refine ⟨D2, _, rfl, SqL.of hL5, _, rfl, ?_⟩
    have eC : ((List.range xs.length).map fun i => ixB (follIn ws) rs[i]?).all id = closedB rs := by
      rw [all_rng, len_, all_ix]
      unfold closedB
      exact List.all_congr rfl (fun r => by rw [← ews]; exact foll_words r)
    rw [eC]
    have s15 := s14.trans s5
    cases hc : closedB rs with
    | false =>
      refine iteT (qF H5 s15 ?_)
      unfold goodB
      rw [hc, Bool.false_and, Bool.and_false]
    | true =>
    refine iteF ?_
    have hL5' := s5 _ _ hL4
    -- who is known
    have s05 : Same H H5 := s15
    refine ⟨(by show 0 ≤ sizeLine; decide), fun k0 hk0 => ?_⟩
    have hk1 : (L2.upd H5 k0 (.lst [])) k0 = some (.lst []) := upd_same
    have s6 := Same.upd' s05 (o := .lst []) hk0
    have hL6 := Same.upd (o := .lst []) hk0 _ _ hL5'
    generalize L2.upd H5 k0 (.lst []) = H6 at hk1 s6 hL6 ⊢
    refine ⟨_, rfl, D1, rfl, ⟨_, SqL.of hL6⟩, for_it (walk_list (K := K) (a := D1) (xs := ws.map V.str)) (fun i σ H' => ∃ (x4 : Option V) (kn : Addr), σ = [some (.ref a), some (.ref D1), none, some (.ref kn), x4] ∧ Same H H' ∧ H' D1 = some (.lst (ws.map V.str)) ∧ H' kn = some (.lst ((known rs i).map V.str)))
      ⟨none, k0, rfl, s6, hL6, hk1⟩ (fun i σ H' _ ⟨_, _, _, _, e, _⟩ => SqL.of e) ?_ ?_⟩
    · rintro i x σ H7o H7 hi ⟨x4, kn, rfl, s7, hL7, hkn⟩ y
      obtain ⟨rfl, hx⟩ := y
      refine ⟨_, rfl, a, rfl, ⟨_, at_ s7⟩, fun D3 hD3 => lc_it (walk_tup (K := K) (a := a) (xs := xs)) (fun j H' => Same H7 H' ∧ H' D3 = some (.lst ((((rs.take j).filter (follIn (known rs i))).map (·.1)).map V.str))) ⟨Same.upd hD3, upd_same⟩ (fun j H' _ pv => at_ (s7.trans pv.1)) (fun j x H8o H8 hj pv y => ?_) (fun H8 pv => ?_)⟩
      · obtain ⟨s8, e8⟩ := pv
        obtain ⟨rfl, hx⟩ := y
        obtain ⟨t, r, rfl, hr', m, ht, _⟩ := row hx
        have ht8 := rd_same ht (s7.trans s8)
        have tk : rs.take (j + 1) = rs.take j ++ [r] := by rw [List.take_succ, hr']; rfl
        have no : follIn (known rs i) r = false → Same H7 H8 ∧ H8 D3 = some (.lst ((((rs.take (j + 1)).filter (follIn (known rs i))).map (·.1)).map V.str)) := fun e => by
          refine ⟨s8, ?_⟩
          rw [tk, List.filter_append, List.filter_cons_of_neg (by rw [e]; exact Bool.false_ne_true), List.filter_nil, List.append_nil]
          exact e8
        have len8 : ((((rs.take j).filter (follIn (known rs i))).map (·.1)).map V.str).length < sizeLine := by
          rw [List.length_map, List.length_map]
          exact Nat.lt_of_le_of_lt (Nat.le_trans (List.length_filter_le _ _) (List.length_take_le' j rs)) hz
        have yes : follIn (known rs i) r = true → Same H7 (L2.upd H8 D3 (.lst ((((rs.take j).filter (follIn (known rs i))).map (·.1)).map V.str ++ [V.str r.1]))) ∧
            (L2.upd H8 D3 (.lst ((((rs.take j).filter (follIn (known rs i))).map (·.1)).map V.str ++ [V.str r.1]))) D3 = some (.lst ((((rs.take (j + 1)).filter (follIn (known rs i))).map (·.1)).map V.str)) := fun e => by
          refine ⟨fun b o eb => ?_, ?_⟩
          · rw [upd_ne (ne_of_none eb hD3)]
            exact s8 b o eb
          · rw [upd_same, tk, List.filter_append, List.filter_cons_of_pos e, List.filter_nil, List.map_append, List.map_append]
            rfl
        refine ⟨rfl, _, rfl, t, _, 1, _, rfl, rfl, .inl ht8, atI_nat (j := 1) rfl, rfl, _, rfl, ?_⟩
        cases e : r.2 with
        | none =>
          refine iteT (iteT ?_)
          have f : follIn (known rs i) r = true := by unfold follIn; rw [e]
          exact ⟨_, rfl, t, _, 0, _, rfl, rfl, .inl ht8, atI_nat (j := 0) rfl, _, e8, len8, yes f⟩
        | some z =>
          refine iteF ?_
          rw [e] at ht8
          refine ⟨_, rfl, t, _, 1, _, rfl, rfl, .inl ht8, atI_nat (j := 1) rfl, _, rfl, kn, _, rfl, .inl (SqL.of (s8 _ _ hkn)), rfl, List.all_eq_true.mpr (fun x m => by obtain ⟨z, _, rfl⟩ := List.mem_map.mp m; rfl), _, rfl, ?_⟩
          show if inV (.str z) ((known rs i).map V.str) = true then _ else _
          rw [inV_strs]
          have ef : follIn (known rs i) r = decide (z ∈ known rs i) := by unfold follIn; rw [e]
          cases f : decide (z ∈ known rs i) with
          | true =>
            rw [f] at ef
            exact iteT ⟨_, rfl, t, _, 0, _, rfl, rfl, .inl ht8, atI_nat (j := 0) rfl, _, e8, len8, yes ef⟩
          | false =>
            rw [f] at ef
            exact iteF (no ef)
      · obtain ⟨s8, e8⟩ := pv
        rw [len_, List.take_length] at e8
        exact ⟨_, D3, rfl, s7.trans s8, s8 _ _ hL7, e8⟩
    · rintro σ H7 ⟨x4, kn, rfl, s7, hL7, hkn⟩
      rw [List.length_map, lws] at hkn
      have lk : (known rs rs.length).length ≤ rs.length := by
        obtain ⟨f, e⟩ := known_sub rs rs.length
        rw [e, List.length_map]
        exact List.length_filter_le _ _
      refine ⟨_, rfl, kn, _, rfl, SqL.of hkn, by omega, fun ys p pm hs hp => ?_⟩
      have sp := Same.upd (o := .lst (ys.map V.str)) hp
      have okk : ∀ z ∈ ys, PyData.strOk z = true := fun z m => by
        obtain ⟨f, e⟩ := known_sub rs rs.length
        have q := pm.mem_iff.mp m
        rw [e] at q
        obtain ⟨r, mr, rfl⟩ := List.mem_map.mp q
        exact alpha_ok (okr r (List.mem_filter.mp mr).1).1
      refine ⟨_, rfl, .list (dStrs ys), .list (dStrs ws), .lst (SqL.of upd_same) (dp_strs ys), .lst (SqL.of (sp _ _ hL7)) (dp_strs ws), shaped_strs okk, shaped_strs okw, ?_⟩
      rw [eqv_strs, ← ews, lead_ys ha hc pm hs]
      have q := h _ (s7.trans sp)
      unfold goodB at q
      rw [ha, hc, Bool.true_and, Bool.true_and] at q
      exact q
end
end Sps
set_option Elab.async false
set_option linter.all false
set_option maxRecDepth 100000
set_option maxHeartbeats 4000000
/-! Tuples that are made: their objects are known. -/
namespace Sps
open PySem PySem.Spec PyProof.Rows L2
section
variable {X : Cx}
def tTupF (t : TA) : TE := fun σ H Q => t σ H fun xs H1 => xs.length ≤ sizeLine ∧ ∀ (p : Addr) (o : Obj), H1 p = none → o.dict = none → Q (.ref p) (L2.upd H1 p (.frz o (.tup xs)))
/-- a new tuple, its object told -/
theorem new_frz {pins : List (Addr × Obj)} {σ : L2.St} {H : Hp} {s : Shared} {xs : List V} {us : List Value} {Q : VK} (I : Inv X pins σ H s) (r : Vals xs us) (z : xs.length ≤ sizeLine)
    (q : ∀ (p : Addr) (o : Obj), H p = none → o.dict = none → Q (.ref p) (L2.upd H p (.frz o (.tup xs)))) :
    EP X pins σ Q (.ref s.heap.objs.size) { s with heap := s.heap.push { cls := .type "tuple", data := .seq us.toArray } } := by
  have ok : ObjOk X.prog X.w (L2.upd H s.heap.objs.size (.frz { cls := .type "tuple", data := .seq us.toArray } (.tup xs))) (s.heap.push { cls := .type "tuple", data := .seq us.toArray }) s.heap.objs.size (.frz { cls := .type "tuple", data := .seq us.toArray } (.tup xs)) := ⟨Heap.get?_push_size _ rfl, z, us, r, IsTup.new _ _⟩
  exact ⟨.ref s.heap.objs.size, _, I.laid (t' := s.toks) (fun b u e => Heap.get?_push_of_some _ e) (Nat.le_refl _) ok, rfl, q _ _ (I.hok.fresh (Nat.le_refl _)) rfl⟩
theorem pe_tupF {es : List Expr} {t : TA} {x1 : Nat} {pos : Pos} (h : PA X es t) : PE X (.Tuple es x1 pos) (tTupF t) :=
  ⟨fun pins s σ H Q I hq => wpAny_Tuple_spliced (thn (h.run pos pins s σ H _ I hq) fun us s1 ⟨xs, H1, I1, r, z, q⟩ => ⟨by rw [← r.length]; exact z, new_frz I1 r z q⟩)⟩
/-- t + u -/
def rCatF (K : PySem.W.Frag) : R2 := fun x y H Q => ∃ a b xs ys, x = .ref a ∧ y = .ref b ∧ SqT K H a xs ∧ SqT K H b ys ∧ xs.length + ys.length ≤ sizeLine ∧ (xs = [] → Q (.ref b) H) ∧ (xs ≠ [] → ys = [] → Q (.ref a) H) ∧
  (xs ≠ [] → ys ≠ [] → ∀ (p : Addr) (o : Obj), H p = none → o.dict = none → Q (.ref p) (L2.upd H p (.frz o (.tup (xs ++ ys)))))
theorem op_catF : OpR X (binaryOp .Add) (rCatF X.K) := by
  intro pins s σ H x y v u Q I rx ry h
  obtain ⟨a, b, xs, ys, rfl, rfl, ha, hb, hz, q0, q1, q2⟩ := h
  obtain rfl : v = Value.ref a := rx
  obtain rfl : u = Value.ref b := ry
  obtain ⟨us, r1, p1, _⟩ := I.tuple ha
  obtain ⟨ws, r2, p2, _⟩ := I.tuple hb
  by_cases hx : xs = []
  · obtain rfl := r1.nil_iff.mpr hx
    exact cat_tup0 p1 p2 ⟨.ref b, H, I, rfl, q0 hx⟩
  · have zz : us.length + ws.length ≤ sizeLine := by rw [← r1.length, ← r2.length]; exact hz
    exact HT.cat_tup p1 p2 (fun z => hx (r1.nil_iff.mp z)) (fun z => ⟨.ref a, H, I, rfl, q1 hx (r2.nil_iff.mp z)⟩) (fun z => new_frz I (r1.append r2) (by rw [List.length_append]; exact hz) (q2 hx fun e => z (r2.nil_iff.mpr e))) zz
/-! ### t[::-1] -/
theorem back_places (n : Nat) : Builtin.Slice.slicePlaces ((n : Int) - 1) (-1) (-1) = n := by
  unfold Builtin.Slice.slicePlaces
  have h1 : ¬ ((-1 : Int) > 0) := by decide
  rw [if_neg h1]
  by_cases h : (n : Int) - 1 > -1
  · rw [if_pos h]
    have e : (-(-1 : Int)) = 1 := by decide
    rw [e, Int.ediv_one]
    omega
  · rw [if_neg h]
    omega
theorem back_pick (xs : Array Value) : ((List.range xs.size).filterMap fun (k : Nat) => xs[(((xs.size : Int) - 1) + (k : Int) * (-1)).toNat]?).toArray = xs.toList.reverse.toArray := by
  have h : ∀ n ≤ xs.size, (List.range n).filterMap (fun (k : Nat) => xs[(((xs.size : Int) - 1) + (k : Int) * (-1)).toNat]?) = (xs.toList.reverse).take n := fun n => by
    induction n with
    | zero => intro _; rfl
    | succ n ih =>
      intro hn
      have hl : xs.size - 1 - n < xs.toList.length := by rw [Array.length_toList]; omega
      have e : (((xs.size : Int) - 1) + (n : Int) * (-1)).toNat = xs.size - 1 - n := by omega
      rw [List.range_succ, List.filterMap_append, ih (by omega), List.take_succ, List.getElem?_reverse (by rw [Array.length_toList]; omega), Array.length_toList]
      congr 1
      rw [List.filterMap_cons, e, List.filterMap_nil]
      have q : xs[xs.size - 1 - n]? = xs.toList[xs.size - 1 - n]? := by rw [Array.getElem?_toList]
      rw [q, List.getElem?_eq_getElem hl]
      rfl
  have q := h xs.size (Nat.le_refl _)
  rw [List.take_of_length_le (by rw [List.length_reverse, Array.length_toList]; exact Nat.le_refl _)] at q
  rw [q]
end
section
variable {prog : Program} {w : World} {A : Around} {E : Value → Shared → Prop} {s : Shared}
theorem applied_back {sl : Addr} {vl vu vs : Value} {n : Nat} {Q : Int × Int × Nat → Shared → Prop} (hs : s.heap.IsSliceOf sl vl vu vs) (pl : IsPart vl none) (pu : IsPart vu none) (ps : IsPart vs (some (-1))) (h : Q ((n : Int) - 1, -1, n) s) :
    wpAny (model prog w) A (Builtin.Slice.sliceApplied (.ref sl) (pure (n : Int))) Q E s := by
  obtain ⟨o, e1, e2, e3⟩ := hs
  have fields : ∀ (R : Value × Value × Value → Shared → Prop), R (vl, vu, vs) s → wpAny (model prog w) A (Builtin.Slice.sliceFields (.ref sl)) R E s := fun R k =>
    wpAny_bind (wpAny_field e1 e3 (x := vl) rfl (wpAny_bind (wpAny_field e1 e3 (x := vu) rfl (wpAny_bind (wpAny_field e1 e3 (x := vs) rfl (wpAny_pure k))))))
  have adj : Builtin.Slice.sliceAdjust none none (-1) (n : Int) = ((n : Int) - 1, -1) := by
    unfold Builtin.Slice.sliceAdjust
    simp
  refine wpAny_bind (fields _ (wpAny_bind (HT.slicePart_ ps ?_)))
  show wpAny _ _ (if ((-1 : Int) == 0) = true then _ else _) _ _ s
  rw [if_neg (by decide)]
  refine wpAny_bind (HT.slicePart_ pl (wpAny_bind (HT.slicePart_ pu (wpAny_bind (wpAny_pure ?_)))))
  show wpAny _ _ (match Builtin.Slice.sliceAdjust none none (-1) (n : Int) with | (lo, hi) => pure (lo, (-1 : Int), Builtin.Slice.slicePlaces lo hi (-1))) _ _ s
  rw [adj]
  show wpAny _ _ (pure ((n : Int) - 1, (-1 : Int), Builtin.Slice.slicePlaces ((n : Int) - 1) (-1) (-1))) _ _ s
  rw [back_places]
  exact wpAny_pure h
theorem item_back {t sl : Addr} {xs : Array Value} {vl vu vs : Value} {Q : Value → Shared → Prop} (ht : IsTup s.heap t xs) (hs : s.heap.IsSliceOf sl vl vu vs) (pl : IsPart vl none) (pu : IsPart vu none) (ps : IsPart vs (some (-1)))
    (h : Q (.ref s.heap.objs.size) { s with heap := s.heap.push { cls := .type "tuple", data := .seq xs.toList.reverse.toArray } }) (hz : xs.size ≤ sizeLine) : wpAny (model prog w) A (getItem (.ref t) (.ref sl)) Q E s := by
  have hT : s.TypeIs (.ref sl) "slice" := let ⟨o, e1, e2, _⟩ := hs; ⟨o, e1, e2⟩
  have fit : sizeOk (.seq xs.toList.reverse.toArray) := by
    show xs.toList.reverse.toArray.size ≤ sizeLine
    simpa using hz
  have same : ¬ ((((xs.size : Int) - 1 == 0) && (-1 : Int) == 1 && xs.size == xs.size) = true) := by simp
  unfold getItem
  (try with_reducible refine wpAny_holding ?_) <;> (first | refine wpAny_bind (wpAny_pure ?_) | skip)
  refine wpAny_bind (wpAny_sequenceKey ht.typeIs (by decide) (wpAny_bind (wpAny_callSpecial?_slot (name := Str.ofString "__getitem__") ht.typeIs PyProof.Rows.slot_tuple_getitem (wpAny_call_entry PyProof.Rows.slot_tuple_getitem ht.typeIs entry_tuple_getitem ?_ (args_tuple_getitem _ _)))))
  show wpAny _ _ (Builtin.Tuple.tupleItemsOf (.ref t) >>= _) _ _ s
  refine wpAny_bind (tupleItemsOf_ ht (wpAny_bind (wpAny_typeOf hT ?_)))
  rw [if_pos (by decide)]
  refine wpAny_bind (applied_back hs pl pu ps ?_)
  show wpAny _ _ (if ((((xs.size : Int) - 1 == 0) && (-1 : Int) == 1 && xs.size == xs.size) = true) then _ else _) _ _ s
  rw [if_neg same, back_pick]
  first
    | exact wpAny_bind (m := Builtin.Tuple.tupleExact _) (wpAny_newObj_type (wpAny_pure ⟨_, rfl, wpAny_pure h⟩) fit) <;> done
    | exact wpAny_bind (m := Builtin.Tuple.tupleExact _) (wpAny_newObj_type (wpAny_bind (wpAny_pure (wpAny_pure ⟨_, rfl, wpAny_pure h⟩))) fit) <;> done
    | exact wpAny_bind (wpAny_bind (m := Builtin.Tuple.tupleExact _) (wpAny_newObj_type (wpAny_pure (wpAny_pure ⟨_, rfl, wpAny_pure h⟩)) fit)) <;> done
end
section
variable {X : Cx}
def tRevF (K : PySem.W.Frag) (te : TE) : TE := fun σ H Q => te σ H fun x H1 => ∃ a xs, x = .ref a ∧ SqT K H1 a xs ∧ ∀ (p : Addr) (o : Obj), H1 p = none → o.dict = none → Q (.ref p) (L2.upd H1 p (.frz o (.tup xs.reverse)))
theorem pe_revF {e : Expr} {te : TE} {k : Nat} {p1 p2 p3 pos : Pos} (he : PE X e te) : PE X (.Subscript e (.Slice none none (some (.UnaryOp .USub (.Constant (.int 1) k p1) p2)) p3) pos) (tRevF X.K te) := by
  have part : PO X (some (.UnaryOp .USub (.Constant (.int 1) k p1) p2)) (tPart (tUn (rU fun i => .int (-i)) (tC (.int 1)))) := po_some (pe_un un_neg pe_int)
  refine ⟨fun pins s σ H Q I h => Subscript_ (thn (he.run pins s σ H _ I h) fun v s1 ⟨x, H1, I1, r1, a, xs, ex, hx, q⟩ => ?_)⟩
  subst ex
  obtain rfl : v = Value.ref a := r1
  refine wpAny_Slice (thn (po_none.run pins s1 σ H1 (fun o H2 => o = none ∧ H2 = H1) I1 ⟨rfl, rfl⟩) fun vl s2 ⟨l, H2, I2, pl, el, e2⟩ => thn (po_none.run pins s2 σ H2 (fun o H3 => o = none ∧ H3 = H1) I2 ⟨rfl, e2⟩) fun vu s3 ⟨u, H3, I3, pu, eu, e3⟩ =>
    thn (part.run pins s3 σ H3 (fun o H4 => o = some (-1) ∧ H4 = H1) I3 ⟨1, rfl, -1, rfl, rfl, e3⟩) fun vs s4 ⟨o, H4, I4, ps, eo, e4⟩ => ?_)
  rw [el] at pl
  rw [eu] at pu
  rw [eo] at ps
  rw [e4] at I4
  have I5 : Inv X pins σ H1 { s4 with heap := s4.heap.push { cls := .type "slice", data := .fields #[vl, vu, vs] } } := I4.kept (t' := s4.toks) fun b ob q => Heap.get?_push_of_some _ q
  obtain ⟨its, r, ht, hz⟩ := I5.tuple hx
  refine tail_any (ops := [.ref a, .ref s4.heap.objs.size]) ht.typeIs PyProof.Rows.slot_tuple_getitem.lookup ?_ (by with_unfolding_all rfl)
  refine item_back ht (Heap.IsSliceOf.new _ vl vu vs) pl pu ps ?_ (by rw [List.size_toArray, ← r.length]; exact hz)
  exact new_frz I5 r.reverse (by rw [List.length_reverse]; exact hz) q
end
end Sps
set_option Elab.async false
set_option linter.all false
set_option maxRecDepth 100000
set_option maxHeartbeats 4000000
/-! Values of any kind as data, their texts. -/
namespace Sps
open PySem PySem.Spec PyProof.Rows L2
def optD : Option Str → PyData
  | none => .none
  | some z => .str z
def entD (r : Cp) : PyData × PyData := (.str r.1, optD r.2)
mutual
/-- the data of a value, no part of it at a place of B -/
inductive Dr (B : Addr → Prop) (H : Hp) : V → PyData → Prop
  | non : Dr B H .non .none
  | bl (b : Bool) : Dr B H (.bl b) (.bool b)
  | int (i : Int) : Dr B H (.int i) (.int i)
  | str (x : Str) : Dr B H (.str x) (.str x)
  | lst {a : Addr} {xs : List V} {ds : List PyData} (h : H a = some (.lst xs)) (n : ¬ B a) (q : DrAll B H xs ds) : Dr B H (.ref a) (.list ds)
  | tup {a : Addr} {xs : List V} {ds : List PyData} (h : Rd H a (.tup xs)) (n : ¬ B a) (q : DrAll B H xs ds) : Dr B H (.ref a) (.tuple ds)
  | emp {a : Addr} (h : H a = some (.dK [])) (n : ¬ B a) : Dr B H (.ref a) (.dict [])
  | dct {a : Addr} {rs : List Cp} (h : H a = some (.dK (rs.map cpEnt))) (n : ¬ B a) : Dr B H (.ref a) (.dict (rs.map entD))
inductive DrAll (B : Addr → Prop) (H : Hp) : List V → List PyData → Prop
  | nil : DrAll B H [] []
  | cons {v : V} {vs : List V} {d : PyData} {ds : List PyData} (q : Dr B H v d) (r : DrAll B H vs ds) : DrAll B H (v :: vs) (d :: ds)
end
/-- all but what stands at B and the tables stays -/
def KeepB (B : Addr → Prop) (H H' : Hp) : Prop := ∀ b o, ¬ B b → (∀ ps, o ≠ .tbl ps) → H b = some o → H' b = some o
theorem Same.kb {B : Addr → Prop} {H H' : Hp} (s : Same H H') : KeepB B H H' := fun b o _ _ e => s b o e
theorem KeepB.trans {B : Addr → Prop} {H H1 H2 : Hp} (a : KeepB B H H1) (b : KeepB B H1 H2) : KeepB B H H2 := fun c o n t e => b c o n t (a c o n t e)
theorem KeepB.refl (B : Addr → Prop) (H : Hp) : KeepB B H H := fun _ _ _ _ e => e
theorem SameX.kb {B : Addr → Prop} {l : Addr} {H H' : Hp} (s : SameX l H H') (h : B l) : KeepB B H H' := fun b o n _ e => s b o (fun z => n (by rw [z]; exact h)) e
mutual
theorem Dr.go {B : Addr → Prop} {H H' : Hp} (s : KeepB B H H') : ∀ {v : V} {d : PyData}, Dr B H v d → Dr B H' v d
  | _, _, .non => .non
  | _, _, .bl b => .bl b
  | _, _, .int i => .int i
  | _, _, .str x => .str x
  | _, _, .lst h n q => .lst (s _ _ n (fun _ z => by cases z) h) n (DrAll.go s q)
  | _, _, .tup h n q => .tup (h.elim (fun h => .inl (s _ _ n (fun _ z => by cases z) h)) fun ⟨o, h⟩ => .inr ⟨o, s _ _ n (fun _ z => by cases z) h⟩) n (DrAll.go s q)
  | _, _, .emp h n => .emp (s _ _ n (fun _ z => by cases z) h) n
  | _, _, .dct h n => .dct (s _ _ n (fun _ z => by cases z) h) n
theorem DrAll.go {B : Addr → Prop} {H H' : Hp} (s : KeepB B H H') : ∀ {vs : List V} {ds : List PyData}, DrAll B H vs ds → DrAll B H' vs ds
  | _, _, .nil => .nil
  | _, _, .cons q r => .cons (Dr.go s q) (DrAll.go s r)
end
/-! ### room -/
theorem tupText_len (ts : List Str) : (tupleText ts).length ≤ piled ts + 3 := by
  have e : (tupleText ts).length ≤ 1 + (Str.join ", " ts).length + 2 := by
    unfold tupleText
    rw [strLen_append, strLen_append]
    have : ((if ts.length == 1 then ",)" else ")" : String) : Str).length ≤ 2 := by split <;> decide
    have e1 : (("(" : String) : Str).length = 1 := rfl
    omega
  by_cases h : ts = []
  · subst h
    decide +kernel
  · have := join_length_add ts h
    omega
theorem lstText_len (ts : List Str) : (listText ts).length ≤ piled ts + 2 := by
  cases ts with
  | nil => decide +kernel
  | cons t r =>
    have hX : (listText (t :: r)).length = (textFrom 0 "[" (t :: r)).length + 1 := by
      unfold listText
      rw [strLen_append]
      rfl
    have h := textFrom_length_pos r 1 (("[" : Str) ++ (if (0 : Nat) > 0 then ", " else "" : String) ++ t) (Nat.succ_pos 0)
    have e2 : (("[" : Str) ++ (if (0 : Nat) > 0 then ", " else "" : String) ++ t).length = 1 + t.length := by
      rw [strLen_append, strLen_append]
      rfl
    have h2 : (textFrom 0 "[" (t :: r)).length = 1 + t.length + piled r := by
      show (textFrom 1 _ r).length = _
      rw [h, e2]
    rw [hX, h2, piled_cons]
    omega
def strOf : PyData → Option Str
  | .str z => some z
  | _ => none
structure Rm (d : PyData) : Prop where
  show_ : d.showable = true
  deep : d.depth ≤ 6
  len : d.shown.length ≤ 4000
  txt : ∀ z, strOf d = some z → z.length ≤ 20
def rm0 (d : PyData) : Bool := d.showable && decide (d.depth ≤ 6) && decide (d.shown.length ≤ 4000) && (match strOf d with | some z => decide (z.length ≤ 20) | none => true)
theorem Rm.of {d : PyData} (h : rm0 d = true) : Rm d := by
  unfold rm0 at h
  simp only [Bool.and_eq_true, decide_eq_true_eq] at h
  refine ⟨h.1.1.1, h.1.1.2, h.1.2, fun z e => ?_⟩
  have h2 := h.2
  rw [e] at h2
  exact of_decide_eq_true h2
theorem Rm.str {z : Str} (h : z.length ≤ 20) (hc : ∀ c ∈ z.cps.toList, c < 16 ^ 8) : Rm (.str z) := by
  refine ⟨by simp [PyData.showable], by simp [PyData.depth], ?_, fun y e => by have := Option.some.inj e; rw [← this]; exact h⟩
  have := StrLaws.reprText_len z hc
  simp only [PyData.shown]
  omega
theorem Rm.tup1 {z : Str} (h : z.length ≤ 20) (hc : ∀ c ∈ z.cps.toList, c < 16 ^ 8) : Rm (.tuple [.str z]) := by
  refine ⟨by simp [PyData.showable, PyData.showableAll], by simp [PyData.depth, PyData.depthAll], ?_, fun y e => by cases e⟩
  have := StrLaws.reprText_len z hc
  have l := tupText_len [(PyData.str z).shown]
  rw [piled_cons, piled_nil] at l
  simp only [PyData.shown, PyData.shownAll] at l ⊢
  omega
theorem Rm.lst1 {z : Str} (h : z.length ≤ 20) (hc : ∀ c ∈ z.cps.toList, c < 16 ^ 8) : Rm (.list [.str z]) := by
  refine ⟨by simp [PyData.showable, PyData.showableAll], by simp [PyData.depth, PyData.depthAll], ?_, fun y e => by cases e⟩
  have := StrLaws.reprText_len z hc
  have l := lstText_len [(PyData.str z).shown]
  rw [piled_cons, piled_nil] at l
  simp only [PyData.shown, PyData.shownAll] at l ⊢
  omega
theorem Rm.int {i : Int} (h : i.natAbs < 10 ^ 40) : Rm (.int i) := by
  refine ⟨?_, by simp [PyData.depth], ?_, fun y e => by cases e⟩
  · simp only [PyData.showable]
    refine decide_eq_true ?_
    by_cases z : i.natAbs = 0
    · rw [z]; decide
    · have : i.natAbs < 2 ^ 1920 := Nat.lt_of_lt_of_le h (Nat.le_trans (by decide : 10 ^ 40 ≤ 2 ^ 140) (Nat.pow_le_pow_right (by decide) (by decide)))
      exact (Nat.log2_lt z).mpr this
  · have := int_text_length_le10 (a := i) (k := 40) (by decide) h
    show (Str.ofString (toString i)).length ≤ 4000
    rw [PySem.ofString_length]
    omega
/-- the told pair may be shown -/
structure Shw (d : PyData) : Prop where
  show_ : d.showable = true
  deep : d.depth ≤ 60
  len : d.shown.length ≤ sizeLine
theorem Rm.pair {d : PyData} (h : Rm d) {tag : Str} (ht : tag.length ≤ 20) (hc : ∀ c ∈ tag.cps.toList, c < 16 ^ 8) : Shw (.tuple [.str tag, d]) := by
  refine ⟨by simp [PyData.showable, PyData.showableAll, h.show_], ?_, ?_⟩
  · have := h.deep
    simp only [PyData.depth, PyData.depthAll]
    omega
  · have := StrLaws.reprText_len tag hc
    have l := tupText_len [(PyData.str tag).shown, d.shown]
    rw [piled_cons, piled_cons, piled_nil] at l
    have h3 := h.len
    simp only [PyData.shown, PyData.shownAll] at l ⊢
    rw [sizeLine_eq]
    omega
/-! ### repr -/
section
variable {X : Cx} {pins : List (Addr × Obj)} {σ : L2.St} {H : Hp} {s : Shared} {B : Addr → Prop}
theorem ents_keys {P : Program} {w : World} {h : Heap} : ∀ {rs : List Cp} {es : List DictEntry} {vs : List (Key × Value)}, Pairs (mixKind P w) es vs → KV (rs.map cpEnt) vs → ReadsAll h (es.map (·.key)) ((rs.map entD).map (·.1)) []
  | [], _, _, pr, kv => by
    cases kv
    cases pr
    exact .nil
  | r :: rs, _, _, pr, kv => by
    cases kv with
    | cons hk ht =>
      cases pr with
      | @cons e0 kv0 es0 kvs0 hi hv pr =>
        rw [← hk.1] at hi
        have hi2 : keyIs (cpEnt r).1 e0.key = true := hi
        rcases keyIs_shape hi2 with ⟨i, t, e, _⟩ | ⟨x, t, e, e2⟩
        · cases e
        · have e3 : r.1 = x := Sum.inr.inj e
          have q := ReadsAll.cons (h := h) (Reads.str x t) (ents_keys (rs := rs) pr ht)
          show ReadsAll h (e0.key :: es0.map (·.key)) (PyData.str r.1 :: (rs.map entD).map (·.1)) []
          rw [e2, e3]
          exact q
theorem ents_vals {P : Program} {w : World} {h : Heap} : ∀ {rs : List Cp} {es : List DictEntry} {vs : List (Key × Value)}, Pairs (mixKind P w) es vs → KV (rs.map cpEnt) vs → ReadsAll h (es.map (·.val)) ((rs.map entD).map (·.2)) []
  | [], _, _, pr, kv => by
    cases kv
    cases pr
    exact .nil
  | r :: rs, _, _, pr, kv => by
    cases kv with
    | cons hk ht =>
      cases pr with
      | @cons e kv es kvs hi hv pr =>
        have rv : RelV (optV r.2) e.val := by
          rw [hv]
          exact hk.2
        have one : Reads h e.val (optD r.2) [] := by
          cases e2 : r.2 with
          | none =>
            rw [e2] at rv
            rw [show e.val = Value.none from rv]
            exact .none
          | some z =>
            rw [e2] at rv
            obtain ⟨t, e3⟩ := (show ∃ t, e.val = Value.str z t from rv)
            rw [e3]
            exact .str z t
        exact ReadsAll.cons one (ents_vals (rs := rs) pr ht)
mutual
theorem Dr.reads (I : Inv X pins σ H s) (hm : H sysModules = none) : ∀ {v : V} {d : PyData} {u : Value}, Dr B H v d → RelV v u → ∃ as, Reads s.heap u d as ∧ sysModules ∉ as
  | _, _, _, .non, r => by cases r; exact ⟨_, Reads.none, by simp⟩
  | _, _, _, .bl b, r => by cases r; exact ⟨_, Reads.bool b, by simp⟩
  | _, _, _, .int i, r => by obtain ⟨t, rfl⟩ := r; exact ⟨_, Reads.int i t, by simp⟩
  | _, _, _, .str x, r => by obtain ⟨t, rfl⟩ := r; exact ⟨_, Reads.str x t, by simp⟩
  | _, _, _, .lst h n q, r => by
    cases r
    obtain ⟨its, rv, ⟨o, k, ho, hc, _, hd⟩, _⟩ := I.list (SqL.of h)
    obtain ⟨as, hr, na⟩ := DrAll.reads I hm q rv
    refine ⟨_, Reads.list ho hc hd hr, fun z => ?_⟩
    rcases List.mem_cons.mp z with e | z
    · rw [← e, hm] at h
      cases h
    · exact na z
  | _, _, _, .tup h n q, r => by
    cases r
    obtain ⟨its, rv, ⟨o, ho, hc, k, hd⟩, _⟩ := I.tuple (show SqT X.K H _ _ from .inl h)
    obtain ⟨as, hr, na⟩ := DrAll.reads I hm q rv
    exact ⟨_, Reads.tuple ho hc hd hr, na⟩
  | _, _, _, .emp h n, r => by
    cases r
    obtain ⟨_, hs, vs, kv, o, es, ep, ho, hx, hd, _, pr, _⟩ := dk_of I.hok h
    cases kv
    generalize he : es.toList = el at pr
    cases pr
    refine ⟨_, Reads.dict ho hx.1 hd (by rw [he]; exact .nil) (by rw [he]; exact .nil), fun z => ?_⟩
    rcases List.mem_cons.mp z with e | z
    · rw [← e, hm] at h
      cases h
    · simp at z
  | _, _, _, .dct h n, r => by
    cases r
    obtain ⟨_, hs, vs, kv, o, es, ep, ho, hx, hd, _, pr, _⟩ := dk_of I.hok h
    refine ⟨_, Reads.dict ho hx.1 hd (ents_keys pr kv) (ents_vals pr kv), fun z => ?_⟩
    rcases List.mem_cons.mp z with e | z
    · rw [← e, hm] at h
      cases h
    · simp at z
theorem DrAll.reads (I : Inv X pins σ H s) (hm : H sysModules = none) : ∀ {vs : List V} {ds : List PyData} {us : List Value}, DrAll B H vs ds → Vals vs us → ∃ as, ReadsAll s.heap us ds as ∧ sysModules ∉ as
  | _, _, _, .nil, r => by cases r; exact ⟨_, ReadsAll.nil, by simp⟩
  | _, _, _, .cons q qs, r => by
    cases r with
    | cons r1 r2 =>
      obtain ⟨as, h1, n1⟩ := Dr.reads I hm q r1
      obtain ⟨bs, h2, n2⟩ := DrAll.reads I hm qs r2
      exact ⟨_, ReadsAll.cons h1 h2, fun z => (List.mem_append.mp z).elim n1 n2⟩
end
end
def rRepr (B : Addr → Prop) : List V → Hp → VK → Prop := fun xs H Q => ∃ a d, xs = [.ref a] ∧ Dr B H (.ref a) d ∧ Shw d ∧ Q (.str d.shown) H
theorem call_reprD {X : Cx} {B : Addr → Prop} (hg : X.A.guards = some []) (hu : X.A.units + 64 < cLine) (hb : ∃ o, X.base.get? sysModules = some o) : CallR X (.builtin "repr") (rRepr B) := by
  intro pins s σ H xs us Q I r h
  obtain ⟨a, d, rfl, hd, S, q⟩ := h
  obtain ⟨u, rfl, ru⟩ := vals1 r
  obtain rfl : u = Value.ref a := ru
  obtain ⟨o, ho⟩ := hb
  have hm : H sysModules = none := (I.bs _ _ ho).2
  obtain ⟨as, hr, na⟩ := hd.reads I hm (show RelV (.ref a) (.ref a) from rfl)
  exact repr_of_reads' hr S.show_ (fun _ => na) hg (by have := S.deep; omega) (fun _ _ e => e) (fun h' u tk hk => ⟨.str _, H, I.kept (t' := tk) hk, ⟨_, rfl⟩, q⟩) S.len
/-! ### what a value is -/
theorem Dr.noInt {K : PySem.W.Frag} {B : Addr → Prop} {H : Hp} {x : V} {d : PyData} (h : Dr B H x d) (n : ∀ i, x ≠ .int i) : NoInt K H x := by
  cases h with
  | non => exact ⟨_, .base .non, .inl (kit_ty (by decide +kernel))⟩
  | bl b => exact ⟨_, .base (.bl b), .inr ⟨kit_ty (by decide +kernel), kit_ty (by decide +kernel)⟩⟩
  | int i => exact absurd rfl (n i)
  | str x => exact ⟨_, .base (.str x), .inl (kit_ty (by decide +kernel))⟩
  | lst h _ _ => exact ⟨_, .base (.lst h), .inl (kit_ty (by decide +kernel))⟩
  | tup h _ _ => exact ⟨_, tyRd h, .inl (kit_ty (by decide +kernel))⟩
  | emp h _ => exact ⟨_, .base (.dK h), .inl (kit_ty (by decide +kernel))⟩
  | dct h _ => exact ⟨_, .base (.dK h), .inl (kit_ty (by decide +kernel))⟩
end Sps
set_option Elab.async false
set_option linter.all false
set_option maxRecDepth 100000
set_option maxHeartbeats 4000000
/-! The law's own tests of words and numbers; data that is written. -/
namespace Sps
open PySem PySem.Spec PyProof.Rows L2
/-! ### data that is written -/
section
variable {B : Addr → Prop} {C : Hp → Prop} {σ : L2.St} {te : TE} {t : TA} {d : PyData} {ds : List PyData}
/-- what the reading knows of the heap -/
structure Cnd (B : Addr → Prop) (C : Hp → Prop) : Prop where
  mono : ∀ {H H'}, C H → Same H H' → C H'
  out : ∀ {H}, C H → ∀ b, B b → H b ≠ none
theorem Cnd.fresh {H : Hp} (k : Cnd B C) (h : C H) {p : Addr} (hp : H p = none) : ¬ B p := fun b => k.out h p b hp
def LitS (B : Addr → Prop) (C : Hp → Prop) (σ : L2.St) (te : TE) (d : PyData) : Prop := ∀ (H : Hp) (Q : VK), C H → (∀ (H' : Hp) (v : V), Same H H' → Dr B H' v d → Q v H') → te σ H Q
def LitSA (B : Addr → Prop) (C : Hp → Prop) (σ : L2.St) (t : TA) (ds : List PyData) : Prop := ∀ (H : Hp) (R : List V → Hp → Prop), C H → (∀ (H' : Hp) (vs : List V), Same H H' → DrAll B H' vs ds → R vs H') → t σ H R
theorem LitS.non : LitS B C σ (tC .non) .none := fun H Q _ k => k H _ (Same.refl H) .non
theorem LitS.bl {b : Bool} : LitS B C σ (tC (.bl b)) (.bool b) := fun H Q _ k => k H _ (Same.refl H) (.bl b)
theorem LitS.int {i : Int} : LitS B C σ (tC (.int i)) (.int i) := fun H Q _ k => k H _ (Same.refl H) (.int i)
theorem LitS.str {x : Str} : LitS B C σ (tC (.str x)) (.str x) := fun H Q _ k => k H _ (Same.refl H) (.str x)
theorem LitS.neg {i : Int} : LitS B C σ (tUn (rU fun i => .int (-i)) (tC (.int i))) (.int (-i)) := fun H Q _ k => ⟨i, rfl, k H _ (Same.refl H) (.int (-i))⟩
theorem LitS.emp (c : Cnd B C) : LitS B C σ tDNewK (.dict []) := fun H Q h k p hp => k _ _ (Same.upd hp) (.emp upd_same (c.fresh h hp))
theorem LitSA.nil : LitSA B C σ tNil [] := fun H R _ k => k H _ (Same.refl H) .nil
theorem LitSA.cons (c : Cnd B C) (h : LitS B C σ te d) (r : LitSA B C σ t ds) : LitSA B C σ (tCons te t) (d :: ds) := fun H R hc k =>
  h H _ hc fun H1 v s1 q1 => r H1 _ (c.mono hc s1) fun H2 vs s2 q2 => k H2 _ (s1.trans s2) (.cons (q1.go (Same.kb s2)) q2)
theorem DrAll.length {H : Hp} : ∀ {vs : List V} {ds : List PyData}, DrAll B H vs ds → vs.length = ds.length
  | _, _, .nil => rfl
  | _, _, .cons _ r => congrArg (· + 1) r.length
theorem LitS.tup (c : Cnd B C) (h : LitSA B C σ t ds) (z : ds.length ≤ 1000) : LitS B C σ (tTup t) (.tuple ds) := fun H Q hc k =>
  h H _ hc fun H1 vs s1 q1 => ⟨by rw [q1.length, sizeLine_eq]; omega, fun p hp => k _ _ (Same.upd' s1 hp) (.tup (.inl upd_same) (c.fresh (c.mono hc s1) hp) (q1.go (Same.kb (Same.upd hp))))⟩
theorem LitS.lst (c : Cnd B C) (h : LitSA B C σ t ds) (z : ds.length ≤ 1000) : LitS B C σ (tLst t) (.list ds) := fun H Q hc k =>
  h H _ hc fun H1 vs s1 q1 => ⟨by rw [q1.length, sizeLine_eq]; omega, fun p hp => k _ _ (Same.upd' s1 hp) (.lst upd_same (c.fresh (c.mono hc s1) hp) (q1.go (Same.kb (Same.upd hp))))⟩
/-! ### lists of values of which something is known -/
def ItemS (C : Hp → Prop) (σ : L2.St) (P : Hp → V → Prop) (te : TE) : Prop := ∀ (H : Hp) (Q : VK), C H → (∀ (H' : Hp) (v : V), Same H H' → P H' v → Q v H') → te σ H Q
def ItemsS (C : Hp → Prop) (σ : L2.St) (P : Hp → V → Prop) (t : TA) (n : Nat) : Prop := ∀ (H : Hp) (R : List V → Hp → Prop), C H → (∀ (H' : Hp) (vs : List V), Same H H' → vs.length = n → (∀ v ∈ vs, P H' v) → R vs H') → t σ H R
variable {P : Hp → V → Prop}
theorem ItemsS.nil : ItemsS C σ P tNil 0 := fun H R _ k => k H [] (Same.refl H) rfl (fun _ m => (List.not_mem_nil m).elim)
theorem ItemsS.cons {n : Nat} (c : Cnd B C) (pm : ∀ {H H' v}, P H v → Same H H' → P H' v) (h : ItemS C σ P te) (r : ItemsS C σ P t n) : ItemsS C σ P (tCons te t) (n + 1) := fun H R hc k =>
  h H _ hc fun H1 v s1 q1 => r H1 _ (c.mono hc s1) fun H2 vs s2 hl q2 => k H2 _ (s1.trans s2) (by rw [List.length_cons, hl]) fun x m => by
    rcases List.mem_cons.mp m with e | m
    · rw [e]; exact pm q1 s2
    · exact q2 x m
theorem ItemsS.lst {n : Nat} (pm : ∀ {H H' v}, P H v → Same H H' → P H' v) (h : ItemsS C σ P t n) (z : n ≤ 1000) (H : Hp) (Q : VK) (hc : C H) (k : ∀ (H' : Hp) (p : Addr) (vs : List V), Same H H' → H p = none → H' p = some (.lst vs) → vs.length = n → (∀ v ∈ vs, P H' v) → Q (.ref p) H') : tLst t σ H Q :=
  h H _ hc fun H1 vs s1 hl q1 => ⟨by rw [hl, sizeLine_eq]; omega, fun p hp => k _ p vs (Same.upd' s1 hp) (s1.free hp) upd_same hl fun v m => pm (q1 v m) (Same.upd hp)⟩
/-- data with room -/
def I0 (B : Addr → Prop) (H : Hp) (v : V) : Prop := ∃ d, Dr B H v d ∧ Rm d
theorem I0.kb {H H' : Hp} {v : V} (h : I0 B H v) (s : KeepB B H H') : I0 B H' v := let ⟨d, q, r⟩ := h; ⟨d, q.go s, r⟩
theorem LitS.item (h : LitS B C σ te d) (r : Rm d) : ItemS C σ (I0 B) te := fun H Q hc k => h H Q hc fun H' v s q => k H' v s ⟨d, q, r⟩
theorem ItemS.imp {P' : Hp → V → Prop} (h : ItemS C σ P te) (k : ∀ {H v}, P H v → P' H v) : ItemS C σ P' te := fun H Q hc q => h H Q hc fun H' v s p => q H' v s (k p)
end
end Sps
set_option Elab.async false
set_option linter.all false
set_option maxRecDepth 100000
set_option maxHeartbeats 4000000
/-! Drawn values as copies. -/
namespace Sps
open PySem PySem.Spec PyProof.Rows L2
def elD : PyData → Option Cp
  | .tuple [.str z, .none] => if lettersOk alphaL z then some (z, none) else none
  | .tuple [.str z, .str y] => if lettersOk alphaL z && lettersOk alphaL y then some (z, some y) else none
  | _ => none
def cpD : PyData → Option (List (Option Cp))
  | .tuple ds => some (ds.map elD)
  | _ => none
def szS : PyData → Bool
  | .str z => decide (z.length ≤ 20)
  | _ => true
def szE : PyData → Bool
  | .tuple es => es.all szS
  | x => szS x
def szD : PyData → Bool
  | .tuple ds => ds.all szE
  | x => szS x
theorem sz20 {z : Str} (h : szS (.str z) = true) : z.length ≤ sizeLine := Nat.le_trans (of_decide_eq_true h) (by decide)
section
variable {K : PySem.W.Frag} {B : Addr → Prop} {H : Hp}
theorem Dr.noTup {x : V} {d : PyData} (h : Dr B H x d) (n : ∀ ds, d ≠ .tuple ds) : TupV K H x none := by
  cases h with
  | non => exact .no (.base .non) (kit_ty (by decide +kernel))
  | bl b => exact .no (.base (.bl b)) (kit_ty (by decide +kernel))
  | int i => exact .no (.base (.int i)) (kit_ty (by decide +kernel))
  | str x => exact .no (.base (.str x)) (kit_ty (by decide +kernel))
  | lst h _ _ => exact .no (.base (.lst h)) (kit_ty (by decide +kernel))
  | tup h _ _ => exact absurd rfl (n _)
  | emp h _ => exact .no (.base (.dK h)) (kit_ty (by decide +kernel))
  | dct h _ => exact .no (.base (.dK h)) (kit_ty (by decide +kernel))
theorem Dr.noStr {x : V} {d : PyData} (h : Dr B H x d) (n : ∀ z, d ≠ .str z) : StrV K H x none := by
  cases h with
  | non => exact .no (.base .non) (kit_ty (by decide +kernel))
  | bl b => exact .no (.base (.bl b)) (kit_ty (by decide +kernel))
  | int i => exact .no (.base (.int i)) (kit_ty (by decide +kernel))
  | str x => exact absurd rfl (n _)
  | lst h _ _ => exact .no (.base (.lst h)) (kit_ty (by decide +kernel))
  | tup h _ _ => exact .no (tyRd h) (kit_ty (by decide +kernel))
  | emp h _ => exact .no (.base (.dK h)) (kit_ty (by decide +kernel))
  | dct h _ => exact .no (.base (.dK h)) (kit_ty (by decide +kernel))
theorem Dr.strVal {x : V} {z : Str} (h : Dr B H x (.str z)) : x = .str z := by
  cases h
  rfl
theorem Dr.nonVal {x : V} (h : Dr B H x .none) : x = .non := by
  cases h
  rfl
theorem el_none1 {d1 d2 : PyData} (n : ∀ z, d1 ≠ .str z) : elD (.tuple [d1, d2]) = none := by
  unfold elD
  split
  · rename_i q; injection q with q; injection q with q _; exact absurd q (n _)
  · rename_i q; injection q with q; injection q with q _; exact absurd q (n _)
  · rfl
theorem el_none2 {z : Str} {d2 : PyData} (n1 : d2 ≠ .none) (n2 : ∀ y, d2 ≠ .str y) : elD (.tuple [.str z, d2]) = none := by
  unfold elD
  split
  · rename_i q; injection q with q; injection q with _ q; injection q with q _; exact absurd q n1
  · rename_i q; injection q with q; injection q with _ q; injection q with q _; exact absurd q (n2 _)
  · rfl
theorem el_of {x : V} {d : PyData} (h : Dr B H x d) (sz : szE d = true) : ElV K H x (elD d) := by
  by_cases tp : ∃ ds, d = .tuple ds
  case neg =>
    have e : elD d = none := by
      unfold elD
      split
      · exact absurd ⟨_, rfl⟩ tp
      · exact absurd ⟨_, rfl⟩ tp
      · rfl
    rw [e]
    exact .kind (h.noTup fun ds q => tp ⟨ds, q⟩)
  obtain ⟨ds, rfl⟩ := tp
  cases h with
  | tup hr n q =>
    rename_i a xs
    have ln := q.length
    match ds, xs, q, sz, ln, hr with
    | [], [], _, _, _, hr => exact .size hr (by decide)
    | [d1], [_], _, _, _, hr =>
      have e : elD (.tuple [d1]) = none := by
        unfold elD
        split
        · rename_i q; simp at q
        · rename_i q; simp at q
        · rfl
      rw [e]
      exact .size hr (by simp)
    | d1 :: d2 :: d3 :: dr, _ :: _ :: _ :: _, _, _, _, hr =>
      have e : elD (.tuple (d1 :: d2 :: d3 :: dr)) = none := by
        unfold elD
        split
        · rename_i q; simp at q
        · rename_i q; simp at q
        · rfl
      rw [e]
      exact .size hr (by simp)
    | [d1, d2], [x, y], .cons q1 (.cons q2 .nil), sz, _, hr =>
      have sz2 : (szS d1 && (szS d2 && true)) = true := sz
      obtain ⟨z1, z2⟩ := Bool.and_eq_true_iff.mp sz2
      rw [Bool.and_true] at z2
      by_cases s1 : ∃ z, d1 = .str z
      case neg =>
        rw [el_none1 fun z e => s1 ⟨z, e⟩]
        exact .name hr (q1.noStr fun z e => s1 ⟨z, e⟩) rfl
      obtain ⟨z, rfl⟩ := s1
      obtain rfl := q1.strVal
      cases hz : lettersOk alphaL z with
      | false =>
        have e : elD (.tuple [.str z, d2]) = none := by
          unfold elD
          split
          · rename_i z0 q; injection q with q; injection q with q _; injection q with q; subst q; rw [hz]; rfl
          · rename_i z0 y0 q; injection q with q; injection q with q _; injection q with q; subst q; rw [hz]; rfl
          · rfl
        rw [e]
        exact .name hr (.yes z (sz20 z1)) hz
      | true =>
        by_cases s2 : d2 = .none
        · subst s2
          obtain rfl := q2.nonVal
          have e : elD (.tuple [.str z, .none]) = some (z, none) := by
            show (if lettersOk alphaL z then some (z, none) else none) = _
            rw [hz]
            rfl
          rw [e]
          exact .copy (r := (z, none)) hr ⟨hz, fun f q => nomatch q⟩
        have nn : y ≠ .non := fun q => by
          rw [q] at q2
          cases q2
          exact s2 rfl
        by_cases s3 : ∃ f, d2 = .str f
        case neg =>
          rw [el_none2 s2 fun f e => s3 ⟨f, e⟩]
          exact .foll hr hz nn (q2.noStr fun f e => s3 ⟨f, e⟩) rfl
        obtain ⟨f, rfl⟩ := s3
        obtain rfl := q2.strVal
        have e : elD (.tuple [.str z, .str f]) = if lettersOk alphaL z && lettersOk alphaL f then some (z, some f) else none := rfl
        rw [e, hz, Bool.true_and]
        cases hf : lettersOk alphaL f with
        | true => exact .copy (r := (z, some f)) hr ⟨hz, fun f' q => by rw [← Option.some.inj q]; exact hf⟩
        | false => exact .foll hr hz nn (.yes f (sz20 z2)) hf
theorem els_of : ∀ {xs : List V} {ds : List PyData}, DrAll B H xs ds → ds.all szE = true → Paired (ElV K H) xs (ds.map elD)
  | _, _, .nil, _ => .nil
  | _, _, .cons q r, h => by
    obtain ⟨h1, h2⟩ := Bool.and_eq_true_iff.mp (show (szE _ && List.all _ szE) = true from h)
    exact .cons (el_of q h1) (els_of r h2)
/-- a drawn value, known as far as the law looks at it -/
structure VOk (B : Addr → Prop) (H : Hp) (v : V) (d : PyData) : Prop where
  dr : Dr B H v d
  rm : Rm d
  sz : szD d = true
  rows : ∀ a os, v = .ref a → cpD d = some os → oksB os = true → ascB (rowsOf os) = true → 1 ≤ os.length → RowsAt H a (rowsOf os)
theorem VOk.cp {v : V} {d : PyData} (h : VOk B H v d) : CpO K H v (cpD d) := by
  by_cases tp : ∃ ds, d = .tuple ds
  case neg =>
    have e : cpD d = none := by
      unfold cpD
      split
      · exact absurd ⟨_, rfl⟩ tp
      · rfl
    rw [e]
    exact .kind (h.dr.noTup fun ds q => tp ⟨ds, q⟩)
  obtain ⟨ds, rfl⟩ := tp
  have hr := h.rows
  have sz : ds.all szE = true := h.sz
  cases h.dr with
  | tup hh n q => exact .tup hh (els_of q sz) fun k1 k2 k3 _ => hr _ _ rfl rfl k1 k2 k3
theorem VOk.go {H' : Hp} {v : V} {d : PyData} (h : VOk B H v d) (s : KeepB B H H') (hl : ∀ b, B b → ∃ xs, H b = some (.lst xs)) : VOk B H' v d := by
  refine ⟨h.dr.go s, h.rm, h.sz, fun a os e1 e2 k1 k2 k3 => ?_⟩
  obtain ⟨o, ts, q1, q2, q3⟩ := h.rows a os e1 e2 k1 k2 k3
  have off : ∀ {b : Addr} {u : HO}, H b = some u → (∀ xs, u ≠ .lst xs) → ¬ B b := fun {b u} e n q => by
    obtain ⟨xs, z⟩ := hl b q
    rw [e] at z
    exact n xs (Option.some.inj z)
  exact ⟨o, ts, s _ _ (off q1 fun _ z => by cases z) (fun _ z => by cases z) q1, q2, paired_imp (fun t r e => s _ _ (off e fun _ z => by cases z) (fun _ z => by cases z) e) q3⟩
end
end Sps
set_option Elab.async false
set_option linter.all false
set_option maxRecDepth 100000
set_option maxHeartbeats 4000000
/-! Small data, and tuples of it. -/
namespace Sps
open PySem PySem.Spec PyProof.Rows L2
structure Sm (d : PyData) : Prop where
  show_ : d.showable = true
  deep : d.depth ≤ 4
  len : d.shown.length ≤ 400
  sz : szE d = true
def sm0 (d : PyData) : Bool := d.showable && (decide (d.depth ≤ 4) && (decide (d.shown.length ≤ 400) && szE d))
theorem Sm.of {d : PyData} (h : sm0 d = true) : Sm d := by
  obtain ⟨h1, h⟩ := Bool.and_eq_true_iff.mp h
  obtain ⟨h2, h⟩ := Bool.and_eq_true_iff.mp h
  obtain ⟨h3, h4⟩ := Bool.and_eq_true_iff.mp h
  exact ⟨h1, of_decide_eq_true h2, of_decide_eq_true h3, h4⟩
theorem sm_all : ∀ {ds : List PyData}, (∀ d ∈ ds, Sm d) → PyData.showableAll ds = true ∧ PyData.depthAll ds ≤ 4 ∧ piled (PyData.shownAll ds) ≤ ds.length * 402 ∧ ds.all szE = true
  | [], _ => ⟨rfl, by simp [PyData.depthAll], by simp [PyData.shownAll, piled_nil], rfl⟩
  | d :: ds, h => by
    have k := h d List.mem_cons_self
    obtain ⟨h1, h2, h3, h4⟩ := sm_all fun x m => h x (List.mem_cons_of_mem _ m)
    refine ⟨by simp [PyData.showableAll, k.show_, h1], ?_, ?_, by rw [List.all_cons, k.sz, h4]; rfl⟩
    · have := k.deep
      simp only [PyData.depthAll]
      omega
    · have := k.len
      simp only [PyData.shownAll]
      rw [piled_cons, List.length_cons]
      omega
theorem Rm.tupS {ds : List PyData} (h : ∀ d ∈ ds, Sm d) (l : ds.length ≤ 9) : Rm (.tuple ds) := by
  obtain ⟨h1, h2, h3, h4⟩ := sm_all h
  refine ⟨by simp [PyData.showable, h1], ?_, ?_, fun z e => by cases e⟩
  · simp only [PyData.depth]
    omega
  · have q := tupText_len (PyData.shownAll ds)
    simp only [PyData.shown]
    omega
theorem Rm.lstS {ds : List PyData} (h : ∀ d ∈ ds, Sm d) (l : ds.length ≤ 9) : Rm (.list ds) := by
  obtain ⟨h1, h2, h3, h4⟩ := sm_all h
  refine ⟨by simp [PyData.showable, h1], ?_, ?_, fun z e => by cases e⟩
  · simp only [PyData.depth]
    omega
  · have q := lstText_len (PyData.shownAll ds)
    simp only [PyData.shown]
    omega
/-- a short text -/
structure Wo (z : Str) : Prop where
  len : z.length ≤ 9
  low : ∀ c ∈ z.cps.toList, c < 16 ^ 8
theorem wo_of {z : Str} (h : lettersOk alphaL z = true) : Wo z := by
  have h1 := of_decide_eq_true (Bool.and_eq_true_iff.mp (Bool.and_eq_true_iff.mp h).1).2
  have low : ∀ c ∈ alphaL.cps.toList, c < 16 ^ 8 := by decide +kernel
  exact ⟨by omega, fun c hc => low c (of_decide_eq_true (List.all_eq_true.mp (Bool.and_eq_true_iff.mp h).2 c hc))⟩
def WoO : Option Str → Prop
  | none => True
  | some z => Wo z
theorem shown_str {z : Str} (h : Wo z) : (PyData.str z).shown.length ≤ 100 := by
  have := StrLaws.reprText_len z h.low
  have := h.len
  simp only [PyData.shown]
  omega
theorem shown_opt {o : Option Str} (h : WoO o) : (optD o).shown.length ≤ 100 ∧ (optD o).showable = true ∧ (optD o).depth ≤ 1 ∧ szS (optD o) = true := by
  cases o with
  | none => exact ⟨by decide +kernel, rfl, by decide, rfl⟩
  | some z =>
    refine ⟨shown_str h, by simp [optD, PyData.showable], by simp [optD, PyData.depth], ?_⟩
    have := h.len
    exact decide_eq_true (by omega)
/-- a pair of a short text and small data -/
theorem sm_pair {a b : PyData} (a1 : a.showable = true) (a2 : a.depth ≤ 2) (a3 : a.shown.length ≤ 110) (a4 : szS a = true) (b1 : b.showable = true) (b2 : b.depth ≤ 2) (b3 : b.shown.length ≤ 110) (b4 : szS b = true) : Sm (.tuple [a, b]) := by
  refine ⟨by simp [PyData.showable, PyData.showableAll, a1, b1], ?_, ?_, ?_⟩
  · simp only [PyData.depth, PyData.depthAll]
    omega
  · have l := tupText_len [a.shown, b.shown]
    rw [piled_cons, piled_cons, piled_nil] at l
    simp only [PyData.shown, PyData.shownAll] at l ⊢
    omega
  · show (szS a && (szS b && true)) = true
    rw [a4, b4]
    rfl
def rowD (r : Cp) : PyData := .tuple [.str r.1, optD r.2]
theorem sm_row {r : Cp} (h : okRow r) : Sm (rowD r) := by
  have w1 := wo_of h.1
  have w2 : WoO r.2 := by
    cases e : r.2 with
    | none => trivial
    | some z => exact wo_of (h.2 z e)
  obtain ⟨o1, o2, o3, o4⟩ := shown_opt w2
  have s1 := shown_str w1
  have l1 := w1.len
  exact sm_pair (by simp [PyData.showable]) (by simp [PyData.depth]) (by omega) (decide_eq_true (by omega)) o2 (by omega) (by omega) o4
section
variable {B : Addr → Prop} {H : Hp}
theorem dr_opt (o : Option Str) : Dr B H (optV o) (optD o) := by
  cases o with
  | none => exact .non
  | some z => exact .str z
theorem dr_row {t : Addr} {r : Cp} (h : H t = some (.tup [.str r.1, optV r.2])) (n : ¬ B t) : Dr B H (.ref t) (rowD r) := .tup (.inl h) n (.cons (.str _) (.cons (dr_opt _) .nil))
theorem dr_rows : ∀ {ts : List Addr} {rs : List Cp}, Paired (fun (t : Addr) (r : Cp) => H t = some (.tup [.str r.1, optV r.2])) ts rs → (∀ b, B b → ∃ xs, H b = some (.lst xs)) → DrAll B H (ts.map V.ref) (rs.map rowD)
  | _, _, .nil, _ => .nil
  | _, _, .cons h t, hl => .cons (dr_row h fun b => by
      obtain ⟨xs, e⟩ := hl _ b
      rw [h] at e
      cases e) (dr_rows t hl)
theorem el_row {r : Cp} (h : okRow r) : elD (rowD r) = some r := by
  obtain ⟨z, o⟩ := r
  cases o with
  | none =>
    show (if lettersOk alphaL z then some (z, none) else none) = _
    rw [show lettersOk alphaL z = true from h.1]
    rfl
  | some f =>
    show (if lettersOk alphaL z && lettersOk alphaL f then some (z, some f) else none) = _
    rw [show lettersOk alphaL z = true from h.1, show lettersOk alphaL f = true from h.2 f rfl]
    rfl
theorem rows_map {rs : List Cp} (h : ∀ r ∈ rs, okRow r) : (rs.map rowD).map elD = rs.map some := by
  rw [List.map_map]
  exact List.map_congr_left fun r m => el_row (h r m)
theorem rowsOf_some (rs : List Cp) : rowsOf (rs.map some) = rs := by
  induction rs with
  | nil => rfl
  | cons r rs ih =>
    show r :: rowsOf (rs.map some) = _
    rw [ih]
theorem rowsOf_app (xs ys : List (Option Cp)) : rowsOf (xs ++ ys) = rowsOf xs ++ rowsOf ys := List.filterMap_append
theorem oks_app (xs ys : List (Option Cp)) : oksB (xs ++ ys) = (oksB xs && oksB ys) := List.all_append
end
end Sps
set_option Elab.async false
set_option linter.all false
set_option maxRecDepth 100000
set_option maxHeartbeats 4000000
/-! Copies, perhaps with something wrong. -/
namespace Sps
open PySem PySem.Spec PyProof.Rows L2
theorem cut_to {α : Type} (xs : List α) {i : Nat} (h : i ≤ xs.length) : HT.sIx xs.length 0 none = 0 ∧ HT.sIx xs.length xs.length (some (i : Int)) = i := by
  refine ⟨rfl, ?_⟩
  rw [HT.sIx_nat]
  omega
theorem cutV_to {xs : List V} {i : Nat} (h : i ≤ xs.length) : cutV xs none (some (i : Int)) = xs.take i := by
  unfold cutV
  rw [(cut_to xs h).1, (cut_to xs h).2]
  rfl
theorem cut_from {α : Type} (xs : List α) {i : Nat} (h : i ≤ xs.length) : HT.sIx xs.length 0 (some (i : Int)) = i ∧ HT.sIx xs.length xs.length none = xs.length := by
  refine ⟨?_, rfl⟩
  rw [HT.sIx_nat]
  omega
theorem cutV_from {xs : List V} {i : Nat} (h : i ≤ xs.length) : cutV xs (some (i : Int)) none = xs.drop i := by
  unfold cutV
  rw [(cut_from xs h).1, (cut_from xs h).2, List.take_of_length_le]
  rw [List.length_drop]
  exact Nat.le_refl _
section
variable {K : PySem.W.Frag}
theorem cat3 {σ : L2.St} {H : Hp} {Q : VK} {a : Addr} {xs : List V} {i : Nat} {ty : TE} {P : Hp → V → Prop} (h1 : σ[1]? = some (some (.ref a))) (h3 : σ[3]? = some (some (.int (i : Nat)))) (hA : Rd H a (.tup xs)) (hi : i < xs.length) (hn : xs.length ≤ 7)
    (hy : ∀ (H0 : Hp) (R : List V → Hp → Prop), Same H H0 → (∀ H' y, Same H0 H' → P H' y → R [y] H') → tCons ty tNil σ H0 R) (pm : ∀ {H1 H2 y}, P H1 y → Same H1 H2 → P H2 y)
    (k : ∀ (H' : Hp) (p : Addr) (o : Obj) (y : V), Same H H' → H p = none → o.dict = none → P H' y → H' p = some (.frz o (.tup ((xs.take i ++ [y]) ++ xs.drop (i + 1)))) → Q (.ref p) H') :
    tOp (rCatF K) (tOp (rCatF K) (tSl (rSlT K) (tVar 1) tNoPart (tPart (tVar 3))) (tTupF (tCons ty tNil))) (tSl (rSlT K) (tVar 1) (tPart (tOp (rI0 fun i j => .int (i + j)) (tVar 3) (tC (.int 1)))) tNoPart) σ H Q := by
  have z7 : (9 : Nat) ≤ sizeLine := by decide
  have nw1 : ¬ (HT.sIx xs.length 0 none = 0 ∧ HT.sIx xs.length xs.length (some (i : Int)) = xs.length) := fun z => by
    rw [(cut_to xs (Nat.le_of_lt hi)).2] at z
    omega
  refine ⟨_, h1, _, h3, (i : Int), rfl, a, _, rfl, .inl hA, nw1, fun p1 hp1 => ?_⟩
  rw [cutV_to (Nat.le_of_lt hi)]
  have s1 := Same.upd (o := .tup (xs.take i)) hp1
  have e1 : (L2.upd H p1 (.tup (xs.take i))) p1 = some (.tup (xs.take i)) := upd_same
  generalize L2.upd H p1 (.tup (xs.take i)) = H1 at s1 e1 ⊢
  refine hy H1 _ s1 fun H2 y s2 hP => ⟨(by show 1 ≤ sizeLine; decide), fun p2 o2 hp2 hd2 => ?_⟩
  have s3 := Same.upd (o := .frz o2 (.tup [y])) hp2
  have e2 : (L2.upd H2 p2 (.frz o2 (.tup [y]))) p2 = some (.frz o2 (.tup [y])) := upd_same
  have s03 := (s1.trans s2).trans s3
  have hP3 := pm hP s3
  have e13 := (s2.trans s3) _ _ e1
  have f2 : H p2 = none := (s1.trans s2).free hp2
  generalize L2.upd H2 p2 (.frz o2 (.tup [y])) = H3 at s3 e2 s03 hP3 e13 ⊢
  have rest : ∀ (H4 : Hp) (r : Addr) (o4 : Obj), Same H3 H4 → o4.dict = none → H r = none → H4 r = some (.frz o4 (.tup (xs.take i ++ [y]))) →
      tSl (rSlT K) (tVar 1) (tPart (tOp (rI0 fun i j => .int (i + j)) (tVar 3) (tC (.int 1)))) tNoPart σ H4 fun v H5 => rCatF K (.ref r) v H5 Q := fun H4 r o4 s4 d4 fr e4 => by
    have s04 := s03.trans s4
    have nw2 : ¬ (HT.sIx xs.length 0 (some ((i : Int) + 1)) = 0 ∧ HT.sIx xs.length xs.length none = xs.length) := fun z => by
      have q := (cut_from xs (i := i + 1) hi).1
      rw [show ((i + 1 : Nat) : Int) = (i : Int) + 1 by push_cast; rfl] at q
      rw [q] at z
      omega
    refine ⟨_, h1, _, h3, _, _, rfl, rfl, (i : Int) + 1, rfl, a, _, rfl, .inl (rd_same hA s04), nw2, fun p5 hp5 => ?_⟩
    have ec : cutV xs (some ((i : Int) + 1)) none = xs.drop (i + 1) := by
      have q := cutV_from (xs := xs) (i := i + 1) hi
      rw [show ((i + 1 : Nat) : Int) = (i : Int) + 1 by push_cast; rfl] at q
      exact q
    rw [ec]
    have s5 := Same.upd (o := .tup (xs.drop (i + 1))) hp5
    have e5 : (L2.upd H4 p5 (.tup (xs.drop (i + 1)))) p5 = some (.tup (xs.drop (i + 1))) := upd_same
    generalize L2.upd H4 p5 (.tup (xs.drop (i + 1))) = H5 at s5 e5 ⊢
    have e45 := s5 _ _ e4
    have s05 := s04.trans s5
    have hP5 := pm hP3 (s4.trans s5)
    have ne : xs.take i ++ [y] ≠ [] := by simp
    have ln : (xs.take i ++ [y]).length + (xs.drop (i + 1)).length ≤ sizeLine := by
      rw [List.length_append, List.length_take, List.length_drop]
      simp only [List.length_cons, List.length_nil]
      omega
    refine ⟨r, p5, _, _, rfl, rfl, .inl (.inr ⟨_, e45⟩), tupAt e5, ln, fun z => absurd z ne, fun _ z => ?_, fun _ z p6 o6 hp6 hd6 => ?_⟩
    · refine k H5 r o4 y s05 fr d4 hP5 ?_
      rw [z, List.append_nil]
      exact e45
    · exact k _ p6 o6 y (Same.upd' s05 hp6) (s05.free hp6) hd6 (pm hP5 (Same.upd hp6)) upd_same
  have ln : (xs.take i).length + [y].length ≤ sizeLine := by
    rw [List.length_take]
    simp only [List.length_cons, List.length_nil]
    omega
  refine ⟨p1, p2, _, _, rfl, rfl, tupAt e13, .inl (.inr ⟨_, e2⟩), ln, fun z => ?_, fun _ z => ?_, fun _ _ p3 o3 hp3 hd3 => ?_⟩
  · refine rest H3 p2 o2 (Same.refl _) hd2 f2 ?_
    rw [z, List.nil_append]
    exact e2
  · cases z
  · exact rest _ p3 o3 (Same.upd hp3) hd3 (s03.free hp3) upd_same
end
end Sps
set_option Elab.async false
set_option linter.all false
set_option maxRecDepth 100000
set_option maxHeartbeats 4000000
/-! What the drawn values are. -/
namespace Sps
open PySem PySem.Spec PyProof.Rows L2
section
variable {K : PySem.W.Frag} {B : Addr → Prop} {H : Hp}
/-- an element of a tuple of copies -/
structure PyD (B : Addr → Prop) (H : Hp) (x : V) (d : PyData) : Prop where
  dr : Dr B H x d
  sm : Sm d
  row : ∀ r, elD d = some r → okRow r ∧ ∃ t, x = .ref t ∧ H t = some (.tup [.str r.1, optV r.2])
theorem PyD.kb {H' : Hp} {x : V} {d : PyData} (h : PyD B H x d) (s : Same H H') : PyD B H' x d := ⟨h.dr.go (Same.kb s), h.sm, fun r e => let ⟨k, t, e1, e2⟩ := h.row r e; ⟨k, t, e1, s _ _ e2⟩⟩
theorem pyd_row {t : Addr} {r : Cp} (k : okRow r) (h : H t = some (.tup [.str r.1, optV r.2])) (n : ¬ B t) : PyD B H (.ref t) (rowD r) := ⟨dr_row h n, sm_row k, fun q e => by
  rw [el_row k] at e
  rw [← Option.some.inj e]
  exact ⟨k, t, rfl, h⟩⟩
theorem pyd_rows (hl : ∀ b, B b → ∃ xs, H b = some (.lst xs)) : ∀ {ts : List Addr} {rs : List Cp}, Paired (fun (t : Addr) (r : Cp) => H t = some (.tup [.str r.1, optV r.2])) ts rs → (∀ r ∈ rs, okRow r) → Paired (PyD B H) (ts.map V.ref) (rs.map rowD)
  | _, _, .nil, _ => .nil
  | _, _, .cons h t, k => .cons (pyd_row (k _ List.mem_cons_self) h fun b => by
      obtain ⟨xs, e⟩ := hl _ b
      rw [h] at e
      cases e) (pyd_rows hl t fun r m => k r (List.mem_cons_of_mem _ m))
theorem pyd_dr : ∀ {xs : List V} {ds : List PyData}, Paired (PyD B H) xs ds → DrAll B H xs ds
  | _, _, .nil => .nil
  | _, _, .cons h t => .cons h.dr (pyd_dr t)
theorem pyd_sm : ∀ {xs : List V} {ds : List PyData}, Paired (PyD B H) xs ds → ∀ d ∈ ds, Sm d
  | _, _, .nil, _, m => nomatch m
  | _, _, .cons h t, d, m => (List.mem_cons.mp m).elim (fun e => by rw [e]; exact h.sm) fun m => pyd_sm t d m
theorem pyd_at : ∀ {xs : List V} {ds : List PyData}, Paired (PyD B H) xs ds → oksB (ds.map elD) = true → ∃ ts : List Addr, xs = ts.map V.ref ∧ Paired (fun (t : Addr) (r : Cp) => H t = some (.tup [.str r.1, optV r.2])) ts (rowsOf (ds.map elD))
  | _, _, .nil, _ => ⟨[], rfl, .nil⟩
  | _, _, @Paired.cons _ _ _ x d xs ds h t, k => by
    have k2 : ((elD d).isSome && oksB (ds.map elD)) = true := k
    obtain ⟨k3, k4⟩ := Bool.and_eq_true_iff.mp k2
    obtain ⟨r, er⟩ := Option.isSome_iff_exists.mp k3
    obtain ⟨_, a, e1, e2⟩ := h.row r er
    obtain ⟨ts, e3, e4⟩ := pyd_at t k4
    refine ⟨a :: ts, by rw [e1, e3]; rfl, ?_⟩
    rw [List.map_cons, er]
    exact .cons e2 e4
/-- a new tuple of such elements -/
theorem vok_all {p : Addr} {o : Obj} {xs : List V} {ds : List PyData} (h : H p = some (.frz o (.tup xs))) (hd : o.dict = none) (n : ¬ B p) (q : Paired (PyD B H) xs ds) (l : ds.length ≤ 9) : VOk B H (.ref p) (.tuple ds) := by
  refine ⟨.tup (.inr ⟨o, h⟩) n (pyd_dr q), Rm.tupS (pyd_sm q) l, (sm_all (pyd_sm q)).2.2.2, fun a os e1 e2 k1 k2 _ => ?_⟩
  cases e1
  have e3 : ds.map elD = os := Option.some.inj e2
  subst e3
  obtain ⟨ts, e4, e5⟩ := pyd_at q k1
  rw [e4] at h
  exact ⟨o, ts, h, hd, e5⟩
/-- a value that is no tuple of copies -/
theorem vok_no {v : V} {d : PyData} (h : Dr B H v d) (r : Rm d) (s : szD d = true) (n : ∀ os, cpD d = some os → oksB os = false ∨ os = []) : VOk B H v d := ⟨h, r, s, fun a os _ e2 k1 _ k3 => by
  rcases n os e2 with z | z
  · rw [z] at k1; cases k1
  · rw [z] at k3; exact absurd k3 (by decide)⟩
end
theorem paired_append {α β : Type} {F : α → β → Prop} {xs xs' : List α} {ys ys' : List β} (h : Paired F xs ys) (k : Paired F xs' ys') : Paired F (xs ++ xs') (ys ++ ys') := by
  induction h with
  | nil => exact k
  | cons h t ih => exact .cons h ih
theorem paired_rev {α β : Type} {F : α → β → Prop} {xs : List α} {ys : List β} (h : Paired F xs ys) : Paired F xs.reverse ys.reverse := by
  induction h with
  | nil => exact .nil
  | cons h t ih =>
    rw [List.reverse_cons, List.reverse_cons]
    exact paired_append ih (.cons h .nil)
theorem paired_take {α β : Type} {F : α → β → Prop} : ∀ {xs : List α} {ys : List β} (n : Nat), Paired F xs ys → Paired F (xs.take n) (ys.take n)
  | _, _, 0, _ => .nil
  | _, _, _ + 1, .nil => .nil
  | _, _, n + 1, .cons h t => .cons h (paired_take n t)
theorem paired_drop {α β : Type} {F : α → β → Prop} : ∀ {xs : List α} {ys : List β} (n : Nat), Paired F xs ys → Paired F (xs.drop n) (ys.drop n)
  | _, _, 0, h => h
  | _, _, _ + 1, .nil => .nil
  | _, _, n + 1, .cons h t => paired_drop n t
/-- a dict of rows has room -/
theorem ents_sm : ∀ {rs : List Cp}, (∀ r ∈ rs, okRow r) → PyData.showableKv (rs.map entD) = true ∧ PyData.depthKv (rs.map entD) ≤ 2 ∧ ((PyData.shownKv (rs.map entD)).map (·.length)).sum ≤ rs.length * 210 ∧ (PyData.shownKv (rs.map entD)).length = rs.length
  | [], _ => ⟨rfl, by simp [PyData.depthKv], by simp [PyData.shownKv], rfl⟩
  | r :: rs, h => by
    have k := h r List.mem_cons_self
    have w1 := wo_of k.1
    have w2 : WoO r.2 := by
      cases e : r.2 with
      | none => trivial
      | some z => exact wo_of (k.2 z e)
    obtain ⟨o1, o2, o3, o4⟩ := shown_opt w2
    have s1 := shown_str w1
    obtain ⟨h1, h2, h3, h4⟩ := ents_sm fun x m => h x (List.mem_cons_of_mem _ m)
    refine ⟨by simp [PyData.showableKv, entD, PyData.showable, o2, h1], ?_, ?_, by simp [PyData.shownKv, entD, h4]⟩
    · simp only [List.map_cons, entD, PyData.depthKv, PyData.depth]
      omega
    · simp only [List.map_cons, entD, PyData.shownKv, List.sum_cons, List.length_cons]
      rw [strLen_append, strLen_append]
      have e2 : ((": " : String) : Str).length = 2 := rfl
      omega
theorem rm_dict {rs : List Cp} (h : ∀ r ∈ rs, okRow r) (l : rs.length ≤ 9) : Rm (.dict (rs.map entD)) := by
  obtain ⟨h1, h2, h3, h4⟩ := ents_sm h
  refine ⟨by simp [PyData.showable, h1], ?_, ?_, fun z e => by cases e⟩
  · simp only [PyData.depth]
    omega
  · have q := dictText_len_le (PyData.shownKv (rs.map entD))
    simp only [PyData.shown]
    omega
end Sps
set_option Elab.async false
set_option linter.all false
set_option maxRecDepth 100000
set_option maxHeartbeats 4000000
/-! _law_spoilt. -/
namespace Sps
open PySem PySem.Spec PyProof.Rows L2
section
variable {P : Program} {w : World} {K : PySem.W.Frag} {mg : Str → Option Value} {base : Heap}
abbrev nSp : List Str := ["_law_pot_here", "_law_rows", "_law_way", "_law_spot", "_law_word", "_law_other", "_law_bad", "_law_pair"]
def spSpoilt : Sp := fun vs H Q _ => ∃ (l a : Addr) (n : Int) (rs : List Cp), vs = [.ref l, .ref a] ∧ PotOk n H l ∧ n ≤ 80000 ∧ RowsAt H a rs ∧ 1 ≤ rs.length ∧ rs.length ≤ 7 ∧ (∀ r ∈ rs, okRow r) ∧ goodB rs = true ∧
  ∀ (H' : Hp) (v : V) (d : PyData), SameX l H H' → PotOk (n + 20) H' l → VOk (fun b => b = l) H' v d → Q v H'
theorem scSp : FnScope nSp ["_law_pot_here", "_law_rows"] (defScope s__law_spoilt) := ⟨rfl, rfl, rfl, by decide +kernel, rfl, by decide +kernel, by decide +kernel⟩
/-- the bad names -/
def badL : List PyData := [.str "", .str "abcdefghi", .str "a1", .str "A", .str "a b", .none, .int 0, .tuple [.str "a"], .bool true, .str "a\n"]
theorem el_bad {z : Str} {x : PyData} (h : lettersOk alphaL z = false) : elD (.tuple [.str z, x]) = none := by
  unfold elD
  split
  · rename_i z0 q; injection q with q; injection q with q _; injection q with q; subst q; rw [h]; rfl
  · rename_i z0 y0 q; injection q with q; injection q with q _; injection q with q; subst q; rw [h]; rfl
  · rfl
theorem el_badF {z y : Str} (h : lettersOk alphaL y = false) : elD (.tuple [.str z, .str y]) = none := by
  show (if lettersOk alphaL z && lettersOk alphaL y then some (z, some y) else none) = none
  rw [h, Bool.and_false]
  rfl
structure BadF (d : PyData) : Prop where
  show_ : d.showable = true
  deep : d.depth ≤ 2
  len : d.shown.length ≤ 110
  sz : szS d = true
  fst : ∀ x, elD (.tuple [d, x]) = none
  snd : ∀ z r, elD (.tuple [.str z, d]) = some r → lettersOk alphaL z = true ∧ d = .none ∧ r = (z, none)
theorem badF_str {y : Str} (h : lettersOk alphaL y = false) (h1 : (PyData.str y).shown.length ≤ 110) (h2 : szS (.str y) = true) : BadF (.str y) :=
  ⟨by simp [PyData.showable], by simp [PyData.depth], h1, h2, fun x => el_bad h, fun z r e => by rw [el_badF h] at e; cases e⟩
theorem badF_no {d : PyData} (n1 : ∀ z, d ≠ .str z) (n2 : d ≠ .none) (a : d.showable = true) (b : d.depth ≤ 2) (c : d.shown.length ≤ 110) (e : szS d = true) : BadF d :=
  ⟨a, b, c, e, fun x => el_none1 n1, fun z r q => by rw [el_none2 n2 n1] at q; cases q⟩
theorem badF_non : BadF .none := by
  refine ⟨rfl, by decide, by decide +kernel, rfl, (fun x => el_none1 fun _ q => by cases q), fun z r q => ?_⟩
  have e : elD (.tuple [.str z, .none]) = if lettersOk alphaL z then some (z, none) else none := rfl
  rw [e] at q
  cases hz : lettersOk alphaL z with
  | true =>
    rw [hz] at q
    exact ⟨rfl, rfl, (Option.some.inj q).symm⟩
  | false =>
    rw [hz] at q
    cases q
theorem bad_all : ∀ d ∈ badL, BadF d := fun d m => by
  simp only [badL, List.mem_cons, List.not_mem_nil, or_false] at m
  rcases m with rfl | rfl | rfl | rfl | rfl | rfl | rfl | rfl | rfl | rfl
  · exact badF_str (by decide +kernel) (by decide +kernel) (by decide +kernel)
  · exact badF_str (by decide +kernel) (by decide +kernel) (by decide +kernel)
  · exact badF_str (by decide +kernel) (by decide +kernel) (by decide +kernel)
  · exact badF_str (by decide +kernel) (by decide +kernel) (by decide +kernel)
  · exact badF_str (by decide +kernel) (by decide +kernel) (by decide +kernel)
  · exact badF_non
  · exact badF_no (fun _ q => by cases q) (fun q => by cases q) (by decide +kernel) (by decide +kernel) (by decide +kernel) rfl
  · exact badF_no (fun _ q => by cases q) (fun q => by cases q) (by decide +kernel) (by decide +kernel) (by decide +kernel) rfl
  · exact badF_no (fun _ q => by cases q) (fun q => by cases q) rfl (by decide +kernel) (by decide +kernel) rfl
  · exact badF_str (by decide +kernel) (by decide +kernel) (by decide +kernel)
theorem optD_facts {r : Cp} (k : okRow r) : (optD r.2).showable = true ∧ (optD r.2).depth ≤ 1 ∧ (optD r.2).shown.length ≤ 100 ∧ szS (optD r.2) = true := by
  have w2 : WoO r.2 := by
    cases e : r.2 with
    | none => trivial
    | some z => exact wo_of (k.2 z e)
  obtain ⟨o1, o2, o3, o4⟩ := shown_opt w2
  exact ⟨o2, o3, o1, o4⟩
theorem str_facts {z : Str} (k : lettersOk alphaL z = true) : (PyData.str z).showable = true ∧ (PyData.str z).depth ≤ 1 ∧ (PyData.str z).shown.length ≤ 100 ∧ szS (.str z) = true := by
  have w := wo_of k
  have := w.len
  exact ⟨by simp [PyData.showable], by simp [PyData.depth], shown_str w, decide_eq_true (by omega)⟩
/-- a leaf -/
structure Lf (d : PyData) : Prop where
  show_ : d.showable = true
  deep : d.depth ≤ 2
  len : d.shown.length ≤ 110
  sz : szS d = true
theorem lf_str {z : Str} (k : lettersOk alphaL z = true) : Lf (.str z) := let ⟨a, b, c, d⟩ := str_facts k; ⟨a, by omega, by omega, d⟩
theorem lf_opt {r : Cp} (k : okRow r) : Lf (optD r.2) := let ⟨a, b, c, d⟩ := optD_facts k; ⟨a, by omega, by omega, d⟩
theorem lf_all : ∀ {ds : List PyData}, (∀ d ∈ ds, Lf d) → PyData.showableAll ds = true ∧ PyData.depthAll ds ≤ 2 ∧ piled (PyData.shownAll ds) ≤ ds.length * 112 ∧ ds.all szS = true
  | [], _ => ⟨rfl, by simp [PyData.depthAll], by simp [PyData.shownAll, piled_nil], rfl⟩
  | d :: ds, h => by
    have k := h d List.mem_cons_self
    obtain ⟨h1, h2, h3, h4⟩ := lf_all fun x m => h x (List.mem_cons_of_mem _ m)
    refine ⟨by simp [PyData.showableAll, k.show_, h1], ?_, ?_, by rw [List.all_cons, k.sz, h4]; rfl⟩
    · have := k.deep
      simp only [PyData.depthAll]
      omega
    · have := k.len
      simp only [PyData.shownAll]
      rw [piled_cons, List.length_cons]
      omega
theorem Sm.tupL {ds : List PyData} (h : ∀ d ∈ ds, Lf d) (l : ds.length ≤ 3) : Sm (.tuple ds) := by
  obtain ⟨h1, h2, h3, h4⟩ := lf_all h
  refine ⟨by simp [PyData.showable, h1], ?_, ?_, h4⟩
  · simp only [PyData.depth]
    omega
  · have q := tupText_len (PyData.shownAll ds)
    simp only [PyData.shown]
    omega
theorem Sm.lstL {ds : List PyData} (h : ∀ d ∈ ds, Lf d) (l : ds.length ≤ 3) : Sm (.list ds) := by
  obtain ⟨h1, h2, h3, h4⟩ := lf_all h
  refine ⟨by simp [PyData.showable, h1], ?_, ?_, rfl⟩
  · simp only [PyData.depth]
    omega
  · have q := lstText_len (PyData.shownAll ds)
    simp only [PyData.shown]
    omega
theorem Lf.sm {d : PyData} (h : Lf d) (n : ∀ ds, d ≠ .tuple ds) : Sm d := ⟨h.show_, by have := h.deep; omega, by have := h.len; omega, by
  cases d with
  | tuple ds => exact absurd rfl (n ds)
  | _ => exact h.sz⟩
theorem el_one {d : PyData} : elD (.tuple [d]) = none := by
  unfold elD
  split
  · rename_i q; simp at q
  · rename_i q; simp at q
  · rfl
theorem el_three {a b c : PyData} : elD (.tuple [a, b, c]) = none := by
  unfold elD
  split
  · rename_i q; simp at q
  · rename_i q; simp at q
  · rfl
theorem el_tups {ds : List PyData} (h : ∀ d ∈ ds, ∃ es, d = .tuple es) : elD (.tuple ds) = none := by
  unfold elD
  split
  · rename_i z q; injection q with q; obtain ⟨es, e⟩ := h (.str z) (by rw [q]; exact List.mem_cons_self); cases e
  · rename_i z y q; injection q with q; obtain ⟨es, e⟩ := h (.str z) (by rw [q]; exact List.mem_cons_self); cases e
  · rfl
abbrev tIx (K : PySem.W.Frag) (i j : Nat) : TE := tOp (rIxT K) (tVar i) (tVar j)
theorem ok_spoilt {f gD gA : Addr} {fd fdD fdA : FuncData} (F : Fun K "_law_spoilt" "_law_spoilt" s__law_spoilt f fd) (T : Names mg)
    (D : FnOk P w K mg base CX0 2 gD fdD ["_law_pot_here", "_law_many"] spDraw) (mD : mg "_law_draw" = some (.ref gD)) (kD : PySem.W.keepIn K (.ref gD) = true) (bD : Binds K fdD ["_law_pot_here", "_law_many"] [])
    (A : FnOk P w K mg base CX0 3 gA fdA ["_law_pot_here", "_law_items"] spAny) (mA : mg "_law_any" = some (.ref gA)) (kA : PySem.W.keepIn K (.ref gA) = true) (bA : Binds K fdA ["_law_pot_here", "_law_items"] []) : FnOk P w K mg base CX0 4 f fd ["_law_pot_here", "_law_rows"] spSpoilt := by
  refine F.ok scSp (fun vs H Q E h => ?_) (fun cdv Ar outer s H vs Q E hr h => ?_)
  · obtain ⟨_, _, _, _, rfl, _⟩ := h
    rfl
  · obtain ⟨l, a, n, rs, rfl, hp, hn, hR, h1, h7, hok, hg, h⟩ := h
    have hr2 : Room 2 _ := hr.mono (by decide)
    refine ⟨_, pss_cons (ps_par (i := 2) (j := 3) rfl scSp.nd rfl rfl (by decide) rfl rfl (pa_cons (pe_call D hr2 rfl mD kD bD .nil pass0 (pa_cons (pv 0) (pa_cons pe_int pa_nil)))
          (pa_cons (pe_call D hr2 rfl mD kD bD .nil pass0 (pa_cons (pv 0) (pa_cons (pe_callB call_len_seq (by rfl) T.len PySem.boot_len (pa_cons (pv 1) pa_nil)) pa_nil))) pa_nil)) (by rfl))
      (pss_cons (ps_asg (pe_ix (r := rIxT K) ix_tup (pv 1) (pv 3) (fun _ _ => rfl)) (pg_tup rfl (pgs_cons (pg_name (i := 4) scSp.nd rfl (Or.inl rfl)) (pgs_cons (pg_name (i := 5) scSp.nd rfl (Or.inl rfl)) pgs_nil))))
      (pss_cons (ps_set (i := 6) scSp.nd rfl (Or.inl rfl) (pe_call A hr rfl mA kA bA .nil pass0 (pa_cons (pv 0) (pa_cons (pe_lst (pa_cons pe_str (pa_cons pe_str (pa_cons pe_str (pa_cons pe_str (pa_cons pe_str (pa_cons pe_non (pa_cons pe_int (pa_cons (pe_tup (pa_cons pe_str pa_nil)) (pa_cons pe_bl (pa_cons pe_str pa_nil))))))))))) pa_nil))))
      (pss_cons (ps_if (pt_cmpR op_lt (pv 2) pe_int (nomark _)) (pss_one (ps_ret (pv 1))) pss_nil)
      (pss_cons (ps_if (pt_cmpR op_eq (pv 2) pe_int (nomark _)) (pss_one (ps_ret (pe_revF (pv 1)))) pss_nil)
      (pss_cons (ps_if (pt_cmpR op_eq (pv 2) pe_int (nomark _)) (pss_one (ps_ret (pe_op (r := rCatF K) op_catF (pv 1) (pe_tup (pa_cons (pe_ix (r := rIxT K) ix_tup (pv 1) (pv 3) (fun _ _ => rfl)) pa_nil))))) pss_nil)
      (pss_cons (ps_if (pt_cmpR op_eq (pv 2) pe_int (nomark _)) (pss_one (ps_ret (pe_op (r := rCatF K) op_catF (pe_op (r := rCatF K) op_catF (pe_slice (r := rSlT K) sl_tup (pv 1) po_none (po_some (pv 3))) (pe_tupF (pa_cons (pe_tup (pa_cons (pv 6) (pa_cons (pv 5) pa_nil))) pa_nil))) (pe_slice (r := rSlT K) sl_tup (pv 1) (po_some (pe_op op_add (pv 3) pe_int)) po_none)))) pss_nil)
      (pss_cons (ps_if (pt_cmpR op_eq (pv 2) pe_int (nomark _)) (pss_one (ps_ret (pe_op (r := rCatF K) op_catF (pe_op (r := rCatF K) op_catF (pe_slice (r := rSlT K) sl_tup (pv 1) po_none (po_some (pv 3))) (pe_tupF (pa_cons (pe_tup (pa_cons (pv 4) (pa_cons (pv 6) pa_nil))) pa_nil))) (pe_slice (r := rSlT K) sl_tup (pv 1) (po_some (pe_op op_add (pv 3) pe_int)) po_none)))) pss_nil)
      (pss_cons (ps_if (pt_cmpR op_eq (pv 2) pe_int (nomark _)) (pss_cons (ps_set (i := 6) scSp.nd rfl (Or.inl rfl) (pe_tup (pa_cons (pv 4) (pa_cons (pe_call A hr rfl mA kA bA .nil pass0 (pa_cons (pv 0) (pa_cons (pe_lc (own := [("_law_pair", 7)]) (g := gName 7) (tt := tYes) (te := tOp (rIxT K) (tVar 7) (tC (.int 0))) rfl scSp.nd (pi_tup (pv 1)) (blkOk_by (own := [("_law_pair", 7)]) (N := nSp) (sc := defScope s__law_spoilt) (by decide +kernel))
            (fun _ _ _ _ _ => pg_name (i := 7) scSp.nd rfl (Or.inl rfl)) (fun _ _ _ _ _ => pts_nil) (fun _ _ _ _ _ => pe_ix (r := rIxT K) ix_tup (pv 7) pe_int (fun _ _ => rfl))) pa_nil))) pa_nil))))
          (pss_one (ps_ret (pe_op (r := rCatF K) op_catF (pe_op (r := rCatF K) op_catF (pe_slice (r := rSlT K) sl_tup (pv 1) po_none (po_some (pv 3))) (pe_tupF (pa_cons (pv 6) pa_nil))) (pe_slice (r := rSlT K) sl_tup (pv 1) (po_some (pe_op op_add (pv 3) pe_int)) po_none))))) pss_nil)
      (pss_cons (ps_if (pt_cmpR op_eq (pv 2) pe_int (nomark _)) (pss_cons (ps_set (i := 6) scSp.nd rfl (Or.inl rfl) (pe_call A hr rfl mA kA bA .nil pass0 (pa_cons (pv 0) (pa_cons (pe_lst (pa_cons (pe_tup (pa_cons (pv 4) pa_nil)) (pa_cons (pe_lst (pa_cons (pv 4) (pa_cons (pv 5) pa_nil))) (pa_cons (pe_tup (pa_cons (pv 4) (pa_cons (pv 5) (pa_cons (pv 5) pa_nil)))) (pa_cons (pv 4) (pa_cons pe_non pa_nil)))))) pa_nil))))
          (pss_one (ps_ret (pe_op (r := rCatF K) op_catF (pe_op (r := rCatF K) op_catF (pe_slice (r := rSlT K) sl_tup (pv 1) po_none (po_some (pv 3))) (pe_tupF (pa_cons (pv 6) pa_nil))) (pe_slice (r := rSlT K) sl_tup (pv 1) (po_some (pe_op op_add (pv 3) pe_int)) po_none))))) pss_nil)
      (pss_one (ps_ret (pe_call A hr rfl mA kA bA .nil pass0 (pa_cons (pv 0) (pa_cons (pe_lst (pa_cons (pe_callTy call_list_of (by rfl) T.list (by decide +kernel) (pa_cons (pv 1) pa_nil)) (pa_cons (pe_tup pa_nil) (pa_cons pe_non (pa_cons pe_str (pa_cons pe_dnewK
          (pa_cons (pe_callTy (call_dictT rfl) (by rfl) T.dict (by decide +kernel) (pa_cons (pv 1) pa_nil)) (pa_cons pe_int (pa_cons (pe_tup (pa_cons (pv 1) pa_nil)) (pa_cons (pe_ix (r := rIxT K) ix_tup (pv 1) (pv 3) (fun _ _ => rfl)) pa_nil)))))))))) pa_nil)))))))))))))), ?_⟩
    obtain ⟨o, ts, hA, hdn, hP⟩ := id hR
    have ln : ts.length = rs.length := hP.length
    have lst0 : ∃ xs, H l = some (.lst xs) := let ⟨_, _, _, e, _⟩ := hp; ⟨_, e⟩
    have off : ∀ {b : Addr} {u : HO}, H b = some u → (∀ xs, u ≠ .lst xs) → b ≠ l := fun {b u} e n q => by
      obtain ⟨xs, z⟩ := lst0
      rw [q, z] at e
      exact n xs (Option.some.inj e).symm
    have nal : a ≠ l := off hA fun _ z => by cases z
    have aX : ∀ {H' : Hp}, SameX l H H' → H' a = some (.frz o (.tup (ts.map V.ref))) := fun s => s _ _ nal hA
    have pX : ∀ {H' : Hp}, SameX l H H' → Paired (fun (t : Addr) (r : Cp) => H' t = some (.tup [.str r.1, optV r.2])) ts rs := fun s => paired_imp (fun t r e => s _ _ (off e fun _ z => by cases z) e) hP
    have lm : (ts.map V.ref).length = rs.length := by rw [List.length_map, ln]
    -- where, and what is there
    refine ⟨_, rfl, l, 12, n, rfl, hp, by omega, by decide, by decide, fun H1 r1 x1 hp1 a0 a1 => ?_⟩
    refine ⟨_, rfl, _, rfl, a, _, rfl, .inr (.inl (.inr ⟨o, aX x1⟩)), l, _, n + 1, rfl, hp1, by omega, by rw [lm]; omega, by rw [lm]; omega, fun H2 r2 x2 hp2 b0 b1 => ⟨_, _, rfl, ?_⟩⟩
    obtain ⟨i, rfl⟩ := Int.eq_ofNat_of_zero_le b0
    rw [lm] at b1
    have hi : i < rs.length := by omega
    have hit : i < ts.length := by omega
    have x02 := x1.trans x2
    have hri : rs[i]? = some rs[i] := List.getElem?_eq_getElem hi
    have hti : ts[i]? = some ts[i] := List.getElem?_eq_getElem hit
    have tAt : ∀ {H' : Hp}, SameX l H H' → H' ts[i] = some (.tup [.str rs[i].1, optV rs[i].2]) := fun s => by
      obtain ⟨r, e1, e2⟩ := paired_at (pX s) hti
      rw [hri] at e1
      rw [Option.some.inj e1]
      exact e2
    have hxi : atI (ts.map V.ref) ((i : Nat) : Int) = some (.ref ts[i]) := atI_nat (j := i) (by rw [List.getElem?_map, hti]; rfl)
    have okr : okRow rs[i] := hok _ (List.getElem_mem hi)
    generalize er : rs[i] = r at tAt okr hri
    refine ⟨_, rfl, _, rfl, a, _, _, _, rfl, rfl, .inl (.inr ⟨o, aX x02⟩), hxi, ts[i], _, rfl, tupAt (tAt x02), rfl, _, _, rfl, _, _, rfl, rfl, ?_⟩
    -- a bad one
    have c2 : Cnd (fun b => b = l) (Same H2) := ⟨fun a b => a.trans b, fun {H'} s b e q => by
      obtain ⟨_, _, _, z, _⟩ := hp2
      rw [e, s _ _ z] at q
      cases q⟩
    have pm : ∀ {L : List PyData} {H H' : Hp} {v : V}, (∃ d ∈ L, Dr (fun b => b = l) H v d) → Same H H' → ∃ d ∈ L, Dr (fun b => b = l) H' v d := fun ⟨d, m, q⟩ s => ⟨d, m, q.go (Same.kb s)⟩
    have itm : ∀ {L : List PyData} {σ : L2.St} {te : TE} {d : PyData}, d ∈ L → LitS (fun b => b = l) (Same H2) σ te d → ItemS (Same H2) σ (fun H v => ∃ d ∈ L, Dr (fun b => b = l) H v d) te := fun m k H Q hc q => k H Q hc fun H' v s z => q H' v s ⟨_, m, z⟩
    refine ⟨_, rfl, ?_⟩
    refine ItemsS.lst (P := fun H v => ∃ d ∈ badL, Dr (fun b => b = l) H v d) (C := Same H2) (n := 10) (fun a b => pm a b) ?lits (by decide) H2 _ (Same.refl H2) fun H3 q3 vs3 s3 hq3 hQ3 hl3 hi3 => ?_
    case lits =>
      refine ItemsS.cons c2 (fun a b => pm a b) (itm (by simp [badL]) LitS.str) (ItemsS.cons c2 (fun a b => pm a b) (itm (by simp [badL]) LitS.str) (ItemsS.cons c2 (fun a b => pm a b) (itm (by simp [badL]) LitS.str) (ItemsS.cons c2 (fun a b => pm a b) (itm (by simp [badL]) LitS.str) (ItemsS.cons c2 (fun a b => pm a b) (itm (by simp [badL]) LitS.str)
        (ItemsS.cons c2 (fun a b => pm a b) (itm (by simp [badL]) LitS.non) (ItemsS.cons c2 (fun a b => pm a b) (itm (by simp [badL]) LitS.int) (ItemsS.cons c2 (fun a b => pm a b) (itm (by simp [badL]) (LitS.tup c2 (LitSA.cons c2 LitS.str LitSA.nil) (by show 1 ≤ 1000; decide))) (ItemsS.cons c2 (fun a b => pm a b) (itm (by simp [badL]) LitS.bl)
        (ItemsS.cons c2 (fun a b => pm a b) (itm (by simp [badL]) LitS.str) ItemsS.nil)))))))))
    have nq3 : q3 ≠ l := fun e => by
      obtain ⟨_, _, _, z, _⟩ := hp2
      rw [e, z] at hq3
      cases hq3
    refine ⟨l, n + 1 + 1, .ref q3, rfl, hp2.same s3, by omega, .inl ⟨q3, vs3, rfl, nq3, hQ3, by omega, by omega, fun H4 bad x4 hp4 mb => ?_⟩⟩
    obtain ⟨db, mdb, qb0⟩ := hi3 bad mb
    have qb := qb0.go (SameX.kb (B := fun b => b = l) x4 rfl)
    have x04 : SameX l H H4 := (x02.trans (Same.x s3 l)).trans x4
    have out : ∀ {H5 : Hp} {p : Addr} {o5 : Obj} {xs : List V} {ds : List PyData}, SameX l H H5 → PotOk (n + 20) H5 l → p ≠ l → o5.dict = none → Paired (PyD (fun b => b = l) H5) xs ds → ds.length ≤ 9 → H5 p = some (.frz o5 (.tup xs)) → Q (.ref p) H5 := fun s hp5 np hd q z e => h _ _ _ s hp5 (vok_all e hd np q z)
    have hl : ∀ {m : Int} {H' : Hp}, PotOk m H' l → ∀ b, b = l → ∃ xs, H' b = some (.lst xs) := fun k b e => by
      obtain ⟨_, _, _, z, _⟩ := k
      exact ⟨_, by rw [e]; exact z⟩
    have pys : ∀ {m : Int} {H' : Hp}, SameX l H H' → PotOk m H' l → Paired (PyD (fun b => b = l) H') (ts.map V.ref) (rs.map rowD) := fun s k => pyd_rows (hl k) (pX s) hok
    have lD : (rs.map rowD).length = rs.length := List.length_map _
    have pySame : ∀ {H5 H6 : Hp} {xs : List V} {ds : List PyData}, Same H5 H6 → Paired (PyD (fun b => b = l) H5) xs ds → Paired (PyD (fun b => b = l) H6) xs ds := fun s k => paired_imp (fun _ _ q => q.kb s) k
    have nl_ : ∀ {m : Int} {H' : Hp} {p : Addr}, PotOk m H' l → H' p = none → p ≠ l := fun k e q => by
      obtain ⟨_, _, _, z, _⟩ := k
      rw [q, z] at e
      cases e
    -- as they are
    refine ⟨_, rfl, _, _, rfl, rfl, _, rfl, ite2 (fun w4 => ?_) (fun w4 => ?_)⟩
    · exact ⟨_, rfl, out x04 (hp4.mono (by omega)) nal hdn (pys x04 hp4) (by rw [lD]; omega) (aX x04)⟩
    -- turned
    refine ⟨_, rfl, rfl, _, rfl, ite2 (fun w5 => ?_) (fun w5 => ?_)⟩
    · refine ⟨_, rfl, a, _, rfl, .inl (.inr ⟨o, aX x04⟩), fun p o2 hp2' hd2 => ?_⟩
      have s5 := Same.upd (o := .frz o2 (.tup (ts.map V.ref).reverse)) hp2'
      exact out (x04.trans (Same.x s5 l)) ((hp4.same s5).mono (by omega)) (nl_ hp4 hp2') hd2 (pySame s5 (paired_rev (pys x04 hp4))) (by rw [List.length_reverse, lD]; omega) upd_same
    -- one twice
    refine ⟨_, rfl, rfl, _, rfl, ite2 (fun w6 => ?_) (fun w6 => ?_)⟩
    · refine ⟨_, rfl, _, rfl, _, rfl, a, _, _, _, rfl, rfl, .inl (.inr ⟨o, aX x04⟩), hxi, (by show 1 ≤ sizeLine; decide), fun p hp0 => ?_⟩
      have s5 := Same.upd (o := .tup [V.ref ts[i]]) hp0
      have e5 : (L2.upd H4 p (.tup [V.ref ts[i]])) p = some (.tup [V.ref ts[i]]) := upd_same
      have x05 := x04.trans (Same.x s5 l)
      have hp5 := hp4.same s5
      generalize L2.upd H4 p (.tup [V.ref ts[i]]) = H5 at s5 e5 x05 hp5 ⊢
      have ne : ts.map V.ref ≠ [] := fun z => by
        rw [z] at lm
        simp at lm
        omega
      refine ⟨a, p, _, _, rfl, rfl, .inl (.inr ⟨o, aX x05⟩), tupAt e5, ?_, (fun z => absurd z ne), (fun _ z => by cases z), fun _ _ p2 o2 hp2' hd2 => ?_⟩
      · rw [lm]
        exact Nat.le_trans (Nat.add_le_add_right h7 1) (by decide)
      · have s6 := Same.upd (o := .frz o2 (.tup (ts.map V.ref ++ [V.ref ts[i]]))) hp2'
        have one : PyD (fun b => b = l) H5 (.ref ts[i]) (rowD r) := pyd_row okr (tAt x05) (off (tAt (SameX.refl H l)) fun _ z => by cases z)
        exact out (x05.trans (Same.x s6 l)) ((hp5.same s6).mono (by omega)) (nl_ hp5 hp2') hd2 (pySame s6 (paired_append (pys x05 hp5) (.cons one .nil))) (by rw [List.length_append, lD]; simp; omega) upd_same
    have BF := bad_all db mdb
    obtain ⟨o1, o2, o3, o4⟩ := optD_facts okr
    obtain ⟨w1, w2', w3, w4'⟩ := str_facts okr.1
    have pyAt : ∀ {H5 : Hp} {p : Addr} {o5 : Obj} {y : V} {dy : PyData}, SameX l H H5 → PotOk (n + 20) H5 l → p ≠ l → o5.dict = none → PyD (fun b => b = l) H5 y dy → H5 p = some (.frz o5 (.tup (((ts.map V.ref).take i ++ [y]) ++ (ts.map V.ref).drop (i + 1)))) → Q (.ref p) H5 := fun {H5 p o5 y dy} s k np hd q e => by
      have ps := pys s k
      refine out (ds := ((rs.map rowD).take i ++ [dy]) ++ (rs.map rowD).drop (i + 1)) s k np hd (paired_append (paired_append (paired_take i ps) (.cons q .nil)) (paired_drop (i + 1) ps)) ?_ e
      rw [List.length_append, List.length_append, List.length_take, List.length_drop, lD]
      simp only [List.length_cons, List.length_nil]
      omega
    have drO : ∀ {H5 : Hp}, Dr (fun b => b = l) H5 (optV r.2) (optD r.2) := dr_opt _
    -- a bad name
    refine ⟨_, rfl, rfl, _, rfl, ite2 (fun w7 => ?_) (fun w7 => ?_)⟩
    · refine cat3 (i := i) (P := fun H' y => Same H4 H' ∧ PyD (fun b => b = l) H' y (.tuple [db, optD r.2])) rfl rfl (.inr ⟨o, aX x04⟩) (by rw [lm]; exact hi) (by rw [lm]; exact h7) (fun H0 R s0 k => ?_) (fun q s => ⟨q.1.trans s, q.2.kb s⟩) fun H5 p o5 y s5 fr hd ⟨_, q⟩ e => ?_
      · refine ⟨_, rfl, _, rfl, (by show 2 ≤ sizeLine; decide), fun p hp0 => ?_⟩
        have sp := Same.upd (o := .tup [bad, optV r.2]) hp0
        have np : p ≠ l := nl_ (hp4.same s0) hp0
        refine k _ _ sp ⟨s0.trans sp, ⟨.tup (.inl upd_same) np (.cons (qb.go (Same.kb (s0.trans sp))) (.cons drO .nil)), sm_pair BF.show_ BF.deep BF.len BF.sz o1 (by omega) (by omega) o4, fun r' er => ?_⟩⟩
        rw [BF.fst] at er
        cases er
      · exact pyAt (x04.trans (Same.x s5 l)) ((hp4.same s5).mono (by omega)) (nl_ hp4 fr) hd q e
    -- a bad follower
    refine ⟨_, rfl, rfl, _, rfl, ite2 (fun w8 => ?_) (fun w8 => ?_)⟩
    · refine cat3 (i := i) (P := fun H' y => Same H4 H' ∧ PyD (fun b => b = l) H' y (.tuple [.str r.1, db])) rfl rfl (.inr ⟨o, aX x04⟩) (by rw [lm]; exact hi) (by rw [lm]; exact h7) (fun H0 R s0 k => ?_) (fun q s => ⟨q.1.trans s, q.2.kb s⟩) fun H5 p o5 y s5 fr hd ⟨_, q⟩ e => ?_
      · refine ⟨_, rfl, _, rfl, (by show 2 ≤ sizeLine; decide), fun p hp0 => ?_⟩
        have sp := Same.upd (o := .tup [.str r.1, bad]) hp0
        have np : p ≠ l := nl_ (hp4.same s0) hp0
        have qb5 := qb.go (Same.kb (s0.trans sp))
        refine k _ _ sp ⟨s0.trans sp, ⟨.tup (.inl upd_same) np (.cons (.str _) (.cons qb5 .nil)), sm_pair w1 (by omega) (by omega) w4' BF.show_ BF.deep BF.len BF.sz, fun r' er => ?_⟩⟩
        obtain ⟨k1, k2, k3⟩ := BF.snd _ _ er
        rw [k2] at qb
        have eb : bad = .non := qb.nonVal
        refine ⟨by rw [k3]; exact ⟨k1, fun f q => nomatch q⟩, p, rfl, ?_⟩
        rw [k3, upd_same, eb]
        rfl
      · exact pyAt (x04.trans (Same.x s5 l)) ((hp4.same s5).mono (by omega)) (nl_ hp4 fr) hd q e
    -- another one followed
    refine ⟨_, rfl, rfl, _, rfl, ite2 (fun w9 => ?_) (fun w9 => ?_)⟩
    · refine ⟨_, rfl, _, rfl, _, rfl, a, rfl, ⟨_, .inl (.inr ⟨o, aX x04⟩)⟩, fun D1 hD1 => lc_vals (walk_tup (K := K) (a := a) (xs := ts.map V.ref)) (fun j => V.str (nm rs j)) (by rw [lm]; exact Nat.lt_of_le_of_lt h7 (by decide)) hD1 (fun H' s => .inl (.inr ⟨o, s _ _ (aX x04)⟩)) (fun j x H5 H6 Nx hj s5 y k => ?_) (fun H5 s5 hL5 => ?_)⟩
      · obtain ⟨rfl, hx⟩ := y
        rw [List.getElem?_map] at hx
        obtain ⟨t2, ht2, rfl⟩ : ∃ t2, ts[j]? = some t2 ∧ V.ref t2 = x := by
          cases q : ts[j]? with
          | none => rw [q] at hx; cases hx
          | some t2 => rw [q] at hx; exact ⟨t2, rfl, Option.some.inj hx⟩
        obtain ⟨r2, hr2', hT⟩ := paired_at (pX x04) ht2
        refine ⟨rfl, _, rfl, t2, _, 0, _, rfl, rfl, tupAt (s5 _ _ hT), atI_nat (j := 0) rfl, k _ _ (by rw [nm_at hr2']) (Same.refl _)⟩
      · rw [lm, nm_range] at hL5
        have nD : D1 ≠ l := nl_ hp4 hD1
        refine ⟨l, n + 1 + 1 + 1, .ref D1, rfl, hp4.same s5, by omega, .inl ⟨D1, _, rfl, nD, hL5, by rw [List.length_map, List.length_map]; omega, by rw [List.length_map, List.length_map]; omega, fun H6 x x6 hp6 mx => ?_⟩⟩
        obtain ⟨z, mz, rfl⟩ := List.mem_map.mp mx
        obtain ⟨rz, mrz, rfl⟩ := List.mem_map.mp mz
        have okz := (hok rz mrz).1
        refine ⟨(by show 2 ≤ sizeLine; decide), fun p hp0 => ?_⟩
        have sp := Same.upd (o := .tup [.str r.1, .str rz.1]) hp0
        have ep : (L2.upd H6 p (.tup [.str r.1, .str rz.1])) p = some (.tup [.str r.1, .str rz.1]) := upd_same
        have np : p ≠ l := nl_ hp6 hp0
        have x07 := (((x04.trans (Same.x s5 l)).trans x6)).trans (Same.x sp l)
        have hp7 := hp6.same sp
        generalize L2.upd H6 p (.tup [.str r.1, .str rz.1]) = H7 at ep x07 hp7 ⊢
        have py : PyD (fun b => b = l) H7 (.ref p) (.tuple [.str r.1, .str rz.1]) := by
          refine ⟨.tup (.inl ep) np (.cons (.str _) (.cons (.str _) .nil)), Sm.tupL (fun d m => ?_) (by simp), fun r' er => ?_⟩
          · rcases List.mem_cons.mp m with e | m
            · rw [e]; exact lf_str okr.1
            · rw [List.mem_singleton.mp m]; exact lf_str okz
          · have e2 : elD (.tuple [.str r.1, .str rz.1]) = if lettersOk alphaL r.1 && lettersOk alphaL rz.1 then some (r.1, some rz.1) else none := rfl
            rw [e2, show lettersOk alphaL r.1 = true from okr.1, show lettersOk alphaL rz.1 = true from okz] at er
            rw [← Option.some.inj er]
            exact ⟨⟨okr.1, fun f q => by rw [← Option.some.inj q]; exact okz⟩, p, rfl, ep⟩
        refine cat3 (i := i) (P := fun H' y => y = .ref p ∧ Same H7 H') rfl rfl (.inr ⟨o, aX x07⟩) (by rw [lm]; exact hi) (by rw [lm]; exact h7) (fun H0 R s0 k => ⟨_, rfl, k _ _ (Same.refl _) ⟨rfl, s0⟩⟩) (fun q s => ⟨q.1, q.2.trans s⟩) fun H8 p8 o8 y s8 fr hd q e => ?_
        rw [q.1] at e
        exact pyAt (x07.trans (Same.x s8 l)) ((hp7.same s8).mono (by omega)) (nl_ hp7 fr) hd (py.kb s8) e
    have c4 : Cnd (fun b => b = l) (Same H4) := ⟨fun a b => a.trans b, fun {H'} s b e q => by
      obtain ⟨_, _, _, z, _⟩ := hp4
      rw [e, s _ _ z] at q
      cases q⟩
    -- no pair
    refine ⟨_, rfl, rfl, _, rfl, ite2 (fun w10 => ?_) (fun w10 => ?_)⟩
    · have lfr := lf_str okr.1
      have lfo := lf_opt okr
      have v4 : LitS (fun b => b = l) (Same H4) [some (.ref l), some (.ref a), some (V.int r1), some (V.int (i : Nat)), some (.str r.1), some (optV r.2), some bad, none] (tVar 4) (.str r.1) := fun H Q _ k => ⟨_, rfl, k H _ (Same.refl H) (.str _)⟩
      have v5 : LitS (fun b => b = l) (Same H4) [some (.ref l), some (.ref a), some (V.int r1), some (V.int (i : Nat)), some (.str r.1), some (optV r.2), some bad, none] (tVar 5) (optD r.2) := fun H Q _ k => ⟨_, rfl, k H _ (Same.refl H) (dr_opt _)⟩
      have pm9 : ∀ {H H' : Hp} {v : V}, (∃ d, Dr (fun b => b = l) H v d ∧ Sm d ∧ elD d = none) → Same H H' → ∃ d, Dr (fun b => b = l) H' v d ∧ Sm d ∧ elD d = none := fun ⟨d, q, k⟩ s => ⟨d, q.go (Same.kb s), k⟩
      have it9 : ∀ {σ : L2.St} {te : TE} {d : PyData}, LitS (fun b => b = l) (Same H4) σ te d → Sm d → elD d = none → ItemS (Same H4) σ (fun H v => ∃ d, Dr (fun b => b = l) H v d ∧ Sm d ∧ elD d = none) te := fun k m e H Q hc q => k H Q hc fun H' v s z => q H' v s ⟨_, z, m, e⟩
      refine ⟨_, rfl, ?_⟩
      refine ItemsS.lst (P := fun H v => ∃ d, Dr (fun b => b = l) H v d ∧ Sm d ∧ elD d = none) (C := Same H4) (n := 5) (fun a b => pm9 a b) ?lits9 (by decide) H4 _ (Same.refl H4) fun H5 q5 vs5 s5 hq5 hQ5 hl5 hi5 => ?_
      case lits9 =>
        refine ItemsS.cons c4 (fun a b => pm9 a b) (it9 (LitS.tup c4 (LitSA.cons c4 v4 LitSA.nil) (by show 1 ≤ 1000; decide)) (Sm.tupL (fun d m => by rw [List.mem_singleton.mp m]; exact lfr) (by simp)) el_one)
          (ItemsS.cons c4 (fun a b => pm9 a b) (it9 (LitS.lst c4 (LitSA.cons c4 v4 (LitSA.cons c4 v5 LitSA.nil)) (by show 2 ≤ 1000; decide)) (Sm.lstL (fun d m => ?_) (by simp)) rfl)
          (ItemsS.cons c4 (fun a b => pm9 a b) (it9 (LitS.tup c4 (LitSA.cons c4 v4 (LitSA.cons c4 v5 (LitSA.cons c4 v5 LitSA.nil))) (by show 3 ≤ 1000; decide)) (Sm.tupL (fun d m => ?_) (by simp)) el_three)
          (ItemsS.cons c4 (fun a b => pm9 a b) (it9 v4 (lfr.sm fun _ q => by cases q) rfl)
          (ItemsS.cons c4 (fun a b => pm9 a b) (it9 LitS.non (Sm.of (by decide +kernel)) rfl) ItemsS.nil))))
        · rcases List.mem_cons.mp m with e | m
          · rw [e]; exact lfr
          · rw [List.mem_singleton.mp m]; exact lfo
        · rcases List.mem_cons.mp m with e | m
          · rw [e]; exact lfr
          · rcases List.mem_cons.mp m with e | m
            · rw [e]; exact lfo
            · rw [List.mem_singleton.mp m]; exact lfo
      refine ⟨l, n + 1 + 1 + 1, .ref q5, rfl, hp4.same s5, by omega, .inl ⟨q5, vs5, rfl, nl_ hp4 hq5, hQ5, by omega, by omega, fun H6 y x6 hp6 my => ?_⟩⟩
      obtain ⟨d6, qd, sm6, e6⟩ := hi5 y my
      have x06 := (x04.trans (Same.x s5 l)).trans x6
      have qd6 := qd.go (SameX.kb (B := fun b => b = l) x6 rfl)
      refine cat3 (i := i) (P := fun H' v => v = y ∧ Same H6 H') rfl rfl (.inr ⟨o, aX x06⟩) (by rw [lm]; exact hi) (by rw [lm]; exact h7) (fun H0 R s0 k => ⟨_, rfl, k _ _ (Same.refl _) ⟨rfl, s0⟩⟩) (fun q s => ⟨q.1, q.2.trans s⟩) fun H8 p8 o8 v8 s8 fr hd q e => ?_
      rw [q.1] at e
      exact pyAt (x06.trans (Same.x s8 l)) ((hp6.same s8).mono (by omega)) (nl_ hp6 fr) hd (dy := d6) ⟨qd6.go (Same.kb s8), sm6, fun r' er => by rw [e6] at er; cases er⟩ e
    -- values of any kind
    have hl4 := hl hp4
    have pmE : ∀ {H H' : Hp} {v : V}, ((∀ b, b = l → ∃ xs, H b = some (.lst xs)) ∧ ∃ d, VOk (fun b => b = l) H v d) → Same H H' → (∀ b, b = l → ∃ xs, H' b = some (.lst xs)) ∧ ∃ d, VOk (fun b => b = l) H' v d := fun ⟨k, d, q⟩ s => ⟨fun b e => let ⟨xs, z⟩ := k b e; ⟨xs, s _ _ z⟩, d, q.go (Same.kb s) k⟩
    have lE : ∀ {H5 : Hp}, Same H4 H5 → ∀ b, b = l → ∃ xs, H5 b = some (.lst xs) := fun s b e => let ⟨xs, z⟩ := hl4 b e; ⟨xs, s _ _ z⟩
    have noN : ∀ {os : List (Option Cp)}, none ∈ os → oksB os = false := fun {os} m => by
      cases e : oksB os with
      | false => rfl
      | true =>
        have := List.all_eq_true.mp e none m
        cases this
    have itE : ∀ {σ : L2.St} {te : TE} {d : PyData}, LitS (fun b => b = l) (Same H4) σ te d → Rm d → szD d = true → (∀ os, cpD d = some os → oksB os = false ∨ os = []) → ItemS (Same H4) σ (fun H v => (∀ b, b = l → ∃ xs, H b = some (.lst xs)) ∧ ∃ d, VOk (fun b => b = l) H v d) te := fun k m z e H Q hc q =>
      k H Q hc fun H' v s y => q H' v s ⟨lE (hc.trans s), _, vok_no y m z e⟩
    have rowsD : ∀ {H5 : Hp}, Same H4 H5 → Dr (fun b => b = l) H5 (.ref a) (.tuple (rs.map rowD)) := fun s => .tup (.inr ⟨o, s _ _ (aX x04)⟩) nal (pyd_dr (pySame s (pys x04 hp4)))
    have smR : ∀ d ∈ rs.map rowD, Sm d := pyd_sm (pys x04 hp4)
    have rmR : Rm (.tuple (rs.map rowD)) := Rm.tupS smR (by rw [lD]; omega)
    refine ⟨_, rfl, ?_⟩
    refine ItemsS.lst (P := fun H v => (∀ b, b = l → ∃ xs, H b = some (.lst xs)) ∧ ∃ d, VOk (fun b => b = l) H v d) (C := Same H4) (n := 9) (fun a b => pmE a b) ?litsE (by decide) H4 _ (Same.refl H4) fun H5 q5 vs5 s5 hq5 hQ5 hl5 hi5 => ?_
    case litsE =>
      refine ItemsS.cons c4 (fun a b => pmE a b) ?i1 (ItemsS.cons c4 (fun a b => pmE a b) (itE (LitS.tup c4 LitSA.nil (by show 0 ≤ 1000; decide)) (Rm.of (by decide +kernel)) rfl fun os e => .inr (Option.some.inj e).symm) (ItemsS.cons c4 (fun a b => pmE a b) (itE LitS.non (Rm.of (by decide +kernel)) rfl fun os e => by cases e)
        (ItemsS.cons c4 (fun a b => pmE a b) (itE LitS.str (Rm.of (by decide +kernel)) (by decide +kernel) fun os e => by cases e) (ItemsS.cons c4 (fun a b => pmE a b) (itE (LitS.emp c4) (Rm.of (by decide +kernel)) rfl fun os e => by cases e)
        (ItemsS.cons c4 (fun a b => pmE a b) ?i6 (ItemsS.cons c4 (fun a b => pmE a b) (itE LitS.int (Rm.of (by decide +kernel)) rfl fun os e => by cases e) (ItemsS.cons c4 (fun a b => pmE a b) ?i8 (ItemsS.cons c4 (fun a b => pmE a b) ?i9 ItemsS.nil))))))))
      case i1 =>
        intro Ha Q hc kk
        refine ⟨_, rfl, a, _, rfl, .inr (.inl (.inr ⟨o, hc _ _ (aX x04)⟩)), fun q hq => ?_⟩
        have sq := Same.upd (o := .lst (ts.map V.ref)) hq
        exact kk _ _ sq ⟨lE (hc.trans sq), _, vok_no (.lst upd_same (nl_ (hp4.same hc) hq) (pyd_dr (pySame (hc.trans sq) (pys x04 hp4)))) (Rm.lstS smR (by rw [lD]; omega)) rfl fun os e => by cases e⟩
      case i6 =>
        intro Ha Q hc kk
        have nd := pair_nodup (asc_pair (Bool.and_eq_true_iff.mp hg).1)
        have pr : Paired (fun p kv => SqT K Ha p [kV kv.1, kv.2]) ts (rs.map cpEnt) := by
          have aux : ∀ {ts : List Addr} {rs : List Cp}, Paired (fun (t : Addr) (r : Cp) => H4 t = some (.tup [.str r.1, optV r.2])) ts rs → Paired (fun p kv => SqT K Ha p [kV kv.1, kv.2]) ts (rs.map cpEnt) := fun {ts rs} hp => by
            induction hp with
            | nil => exact .nil
            | cons h t ih => exact .cons (tupAt (hc _ _ h)) ih
          exact aux (pX x04)
        refine ⟨_, rfl, a, o, ts, rs.map cpEnt, rfl, hc _ _ (aX x04), hdn, pr, fun q hq => ?_⟩
        rw [merge_rows nd]
        have sq := Same.upd (o := .dK (rs.map cpEnt)) hq
        exact kk _ _ sq ⟨lE (hc.trans sq), _, vok_no (.dct upd_same (nl_ (hp4.same hc) hq)) (rm_dict hok (by omega)) rfl fun os e => by cases e⟩
      case i8 =>
        intro Ha Q hc kk
        refine ⟨_, rfl, (by show 1 ≤ sizeLine; decide), fun q hq => ?_⟩
        have sq := Same.upd (o := .tup [.ref a]) hq
        refine kk _ _ sq ⟨lE (hc.trans sq), _, vok_no (.tup (.inl upd_same) (nl_ (hp4.same hc) hq) (.cons (rowsD (hc.trans sq)) .nil)) ?_ ?_ fun os e => .inl ?_⟩
        · refine ⟨by simp [PyData.showable, PyData.showableAll, rmR.show_, (show PyData.showableAll (rs.map rowD) = true from (sm_all smR).1)], ?_, ?_, fun z e => by cases e⟩
          · have := (sm_all smR).2.1
            simp only [PyData.depth, PyData.depthAll]
            omega
          · have l := tupText_len [(PyData.tuple (rs.map rowD)).shown]
            rw [piled_cons, piled_nil] at l
            have l2 := tupText_len (PyData.shownAll (rs.map rowD))
            have l3 := (sm_all smR).2.2.1
            rw [lD] at l3
            simp only [PyData.shown, PyData.shownAll] at l l2 ⊢
            omega
        · show (List.all (rs.map rowD) szS && true) = true
          rw [Bool.and_true]
          exact List.all_eq_true.mpr fun d m => by
            obtain ⟨r', _, rfl⟩ := List.mem_map.mp m
            rfl
        · refine noN ?_
          rw [← Option.some.inj e]
          refine List.mem_map.mpr ⟨_, List.mem_singleton.mpr rfl, el_tups fun d m => ?_⟩
          obtain ⟨r', _, rfl⟩ := List.mem_map.mp m
          exact ⟨_, rfl⟩
      case i9 =>
        intro Ha Q hc kk
        refine ⟨_, rfl, _, rfl, a, _, _, _, rfl, rfl, .inl (.inr ⟨o, hc _ _ (aX x04)⟩), hxi, ?_⟩
        have tH := hc _ _ (tAt x04)
        have dr : Dr (fun b => b = l) Ha (.ref ts[i]) (rowD r) := dr_row tH (off (tAt (SameX.refl H l)) fun _ z => by cases z)
        have sm := sm_row okr
        refine kk _ _ (Same.refl _) ⟨lE hc, _, vok_no dr ⟨sm.show_, by have := sm.deep; omega, by have := sm.len; omega, fun z e => by cases e⟩ ?_ fun os e => .inl (noN ?_)⟩
        · have s1 := (lf_str okr.1).sz
          have s2 := (lf_opt okr).sz
          show (szE (.str r.1) && (szE (optD r.2) && true)) = true
          have e2 : szE (optD r.2) = szS (optD r.2) := by
            cases r.2 <;> rfl
          rw [e2, s2, show szE (.str r.1) = true from s1]
          rfl
        · rw [← Option.some.inj e]
          exact List.mem_cons_self
    refine ⟨l, n + 1 + 1 + 1, .ref q5, rfl, hp4.same s5, by omega, .inl ⟨q5, vs5, rfl, nl_ hp4 hq5, hQ5, by omega, by omega, fun H6 y x6 hp6 my => ?_⟩⟩
    obtain ⟨k5, d6, v6⟩ := hi5 y my
    exact h H6 y d6 ((x04.trans (Same.x s5 l)).trans x6) (hp6.mono (by omega)) (v6.go (SameX.kb (B := fun b => b = l) x6 rfl) k5)
end
end Sps
set_option Elab.async false
set_option linter.all false
set_option maxRecDepth 100000
set_option maxHeartbeats 4000000
/-! Defs that run where no repr is under way. -/
namespace Sps
open PySem PySem.Spec PyProof.Rows L2
structure FnG (P : Program) (w : World) (K : PySem.W.Frag) (mg : Str → Option Value) (base : Heap) (k : Nat) (f : Addr) (fd : FuncData) (ps : List Str) (sp : Sp) : Prop where
  len : ∀ vs H Q E, sp vs H Q E → vs.length = ps.length
  run : ∀ (A : Around) (outer : List Env) (s : Shared) (H : Hp) (args : Args) (us : List Value) (vs : List V) (Q : VK) (E : XK), Room k A → A.guards = some [] → Env0 P w K mg base A outer s H → BindsTo s fd args (ps.zip us) → Vals vs us → sp vs H Q E →
    codeAny (model P w) A (.call (.ref f) args) (CR CX0 outer P w H s Q E) s
theorem guards_deeper {A : Around} {env : Env} (h : A.guards = some []) : (A.deeper env).guards = some [] := h
theorem fnG_of {P : Program} {w : World} {K : PySem.W.Frag} {mg : Str → Option Value} {base : Heap} {k : Nat} {f : Addr} {x qual : Str} {st : Stmt} {fd : FuncData} {N ps : List Str} {sp : Sp} (F : Fun K x qual st f fd) (S : FnScope N ps (defScope st))
    (len : ∀ vs H Q E, sp vs H Q E → vs.length = ps.length)
    (hbody : ∀ (cdv : Value), fd.code = cdv → ∀ (A : Around) (outer : List Env) (s : Shared) (H : Hp) (vs : List V) (Q : VK) (E : XK), Room k (A.deeper (envOfC qual (defScope st) s.heap.objs.size f cdv)) → (A.deeper (envOfC qual (defScope st) s.heap.objs.size f cdv)).guards = some [] → sp vs H Q E →
      ∃ t, PSs (cxOf CX0 P w K mg base N qual (defScope st) f cdv A outer s H E) (defBody st) t ∧ t { nx := fun _ H' => Q .non H', rt := Q } (start N vs) H) :
    FnG P w K mg base (k + 1) f fd ps sp := by
  obtain ⟨oc, od, kV, doc, pm, an, cdv, ct, osl, rfl, lk, hcd⟩ := F.ex
  refine ⟨len, fun A outer s H args us vs Q E hr hg e0 hb r hsp => ?_⟩
  have hl := len _ _ _ _ hsp
  have KX : K.In s.heap := e0.mod.kin.keeps fun b o e => (e0.bs b o e).1
  have lim : s.heap.NoLimit := e0.mod.nolimit.keeps fun b o e => (e0.bs b o e).1
  have hkind : ∀ y ∈ ps.zip us, (defScope st).names.lookup y.1 = some .local ∨ ((defScope st).names.lookup y.1 = some .cell ∧ ((cellsFrom (s.heap.objs.size + 1) (defScope st).names []).lookup y.1).isSome = true) := fun ⟨n, v⟩ hy => by
    rcases S.par n (List.of_mem_zip hy).1 with q | q
    · exact .inl q
    · exact .inr ⟨q, PySem.W.cellsFrom_some _ _ _ (.inl q)⟩
  refine codeAny_call_function hr.depth (KX _ _ lk) rfl S.co S.gen rfl (PySem.W.codeRec_of KX hcd) (hb _ _ _ _ ?_)
  refine wpAny_newFunctionEnv_cells S.kind hkind fun env he s1 x => ?_
  subst he
  refine ⟨lim.keeps x.toInCall.keep, codeAny_func ?_⟩
  obtain ⟨t, ht, hq⟩ := hbody cdv rfl A outer s H vs Q E (hr.deeper _) (guards_deeper hg) hsp
  have I : Inv (cxOf CX0 P w K mg base N qual (defScope st) f cdv A outer s H E) [] (start N vs) H s1 := inv_start S hr.hd e0 hl r x
  refine wpAny_mono (ht.run [] s1 (start N vs) H _ I hq) (fun fl s' hs => ?_) fun e s' hs => hs
  have fin : ∀ {σ' : L2.St} {H' : Hp} {v : V} {u : Value}, Inv (cxOf CX0 P w K mg base N qual (defScope st) f cdv A outer s H E) [] σ' H' s' → RelV v u → Q v H' → CE outer P w H s Q u s' :=
    fun {σ' H' v u} J rv q => ⟨v, H', J.os, J.bare, J.base, J.hok, rv, q⟩
  cases fl with
  | ret u =>
    obtain ⟨v, σ', H', J, rv, q⟩ := hs
    exact fin J rv q
  | next =>
    obtain ⟨σ', H', J, q⟩ := hs
    exact fin (v := V.non) (u := Value.none) J rfl q
  | brk =>
    obtain ⟨_, _, _, q⟩ := hs
    exact False.elim q
  | cont =>
    obtain ⟨_, _, _, q⟩ := hs
    exact False.elim q
section
variable {X : Cx} {k : Nat} {f : Addr} {fd : FuncData} {ps : List Str} {sp : Sp} {x : Str} {p pos : Pos} {e : Expr} {es : List Expr} {t : TA}
theorem pe_callG (F : FnG X.prog X.w X.K X.mg X.base k f fd ps sp) (hr : Room k X.A) (hgd : X.A.guards = some []) (hg : Gl X x) (hm : X.mg x = some (.ref f)) (hk : PySem.W.keepIn X.K (.ref f) = true) (hb : Binds X.K fd ps [])
    (ha : PA X (e :: es) t) (hdb : (x == ("__debug__" : Str)) = false := by decide) (he : starEach (e :: es) X.env = (false, eval e X.env) :: starEach es X.env := by rfl) (hpl : (backTo pos (starEach es X.env)).any (·.1) = false := by rfl) :
    PE X (.Call (.Name x p) (e :: es) [] pos) (tCall sp [] E0 t) := by
  refine ⟨fun pins s σ H Q I h => ?_⟩
  refine wpAny_Call_Name_kw (ld_glob I hg hm ?_ hdb)
  refine PySem.W.callWith_K (h₀ := X.base) I.ok.mod.kin hk (thn (ha.run pos pins s σ H _ I h) fun us s1 ⟨vs, H1, I1, r, q⟩ => ⟨I1.kIn, ?_⟩) he hpl
  have q2 : sp vs H1 Q E0 := by
    have q3 : sp (vs ++ []) H1 Q E0 := q
    rw [List.append_nil] at q3
    exact q3
  have hl : us.length = ps.length := by rw [← r.length]; exact F.len _ _ _ _ q2
  have b := hb s1 us I1.kIn (by rw [List.append_nil]; exact hl)
  rw [List.append_nil] at b
  refine wpAny_call (codeAny_mono (F.run X.A X.stack s1 H1 ⟨us, []⟩ us vs Q E0 hr hgd I1.env0 b r q2) fun r s' hq => ?_)
  cases r with
  | error e => exact False.elim hq
  | ok fl =>
    cases fl with
    | ret u => exact I1.after hq
    | next => exact False.elim hq
    | brk => exact False.elim hq
    | cont => exact False.elim hq
end

theorem inV_str : ∀ {z : Str} {ws : List Str}, inV (.str z) (ws.map V.str) = decide (z ∈ ws)
  | z, [] => rfl
  | z, w :: ws => by
    have ih := inV_str (z := z) (ws := ws)
    unfold inV at ih ⊢
    rw [List.map_cons, List.any_cons, ih]
    have e1 : eqV (V.str w) (V.str z) = decide (w = z) := by
      show (w == z) = decide (w = z)
      rw [Bool.eq_iff_iff]
      simp
    rw [e1]
    by_cases e : w = z
    · subst e; simp
    · simp [e, Ne.symm e]
theorem seq_join {t v : TS} {D : Ends} {σ : L2.St} {H : Hp} (W : L2.St → Hp → Prop) (h1 : ∀ σ2 H2, W σ2 H2 → v D σ2 H2) (h2 : (∀ σ2 H2, W σ2 H2 → v D σ2 H2) → t { D with nx := v D } σ H) : tSeq t v D σ H := h2 h1
end Sps
set_option Elab.async false
set_option linter.all false
set_option maxRecDepth 100000
set_option maxHeartbeats 4000000
/-! The law's call from the top: no repr under way, the tables empty. -/
namespace Sps
open PySem PySem.Spec PyProof.Rows L2
/-- the fact of the top -/
abbrev TabObj : Obj := { cls := .none, data := .fields #[] }
theorem law_callTG {P : Program} {w : World} {K : PySem.W.Frag} {mg mb mm : Str → Option Value} {k : Nat} {fa a : Addr} {cs : List (Addr × Addr)} {fd : FuncData} {x : Str} {sp : Sp} {s₁ : Shared} {vs : List Value} {ns : List Int}
    (KX : K.In s₁.heap) (hns : s₁.heap.Ns mainGlobals mg) (hmods : s₁.heap.Ns sysModules mm) (hb : s₁.heap.Ns builtinsNs mb) (hbb : ∀ x : Str, x ≠ "__name__" → mb x = bootBuiltins x) (hlim : s₁.heap.NoLimit) (hg : s₁.gens = #[])
    (hT : ∀ p ∈ cs, s₁.heap.get? p.2 = some TabObj) (nT : ∀ p ∈ cs, K.lookup p.2 = none) (C : ∀ p ∈ cs, PySem.W.CodeHd s₁.heap p.1 p.2)
    (hbm : ∃ (bm : Addr) (ob : Obj), mg "__builtins__" = some (.ref bm) ∧ bm ≠ builtinsNs ∧ s₁.heap.get? bm = some ob ∧ ob.cls = .type "module" ∧ ob.dict = some builtinsNs ∧ ob.data = .plain)
    (ha : s₁.heap.get? a = some { cls := .type "list", data := .seq vs.toArray }) (hi : IntsAre vs ns) (hl : ns.length ≤ sizeLine) (hr : Room k callerA)
    (F : ∀ base : Heap, K.In base → base.Ns mainGlobals mg → (∃ o, base.get? sysModules = some o) → (∀ p ∈ cs, LamX.TabB base mg p.1 p.2) → FnG P w K mg base k fa fd [x] sp) (hbind : ∀ (s : Shared) (u : Value), BindsTo s fd ⟨[u], []⟩ [(x, u)])
    (hsp : ∀ H : Hp, (∀ p ∈ cs, H p.2 = some (.tbl #[])) → SqL K H a (ns.map V.int) → sp [.ref a] H (fun v _ => v = .bl true) E0) :
    codeAny (model P w) callerA (.call (.ref fa) ⟨[.ref a], []⟩) (fun r s' => r = .ok (.ret (.bool true)) ∧ OldK s₁.heap s'.heap ∧ s'.os = s₁.os ∧ AllBare s'.gens) s₁ := by
  have rv := vals_ints hi
  have lenV := hi.length
  have isT : ∀ b : Addr, b ∈ cs.map (·.2) → s₁.heap.get? b = some TabObj := fun b hb => by
    obtain ⟨p, hp, e⟩ := List.mem_map.mp hb
    rw [← e]
    exact hT p hp
  have aT : a ∉ cs.map (·.2) := fun z => by
    have q := isT a z
    rw [ha] at q
    cases congrArg Obj.data (Option.some.inj q)
  have memT : ∀ p ∈ cs, p.2 ∈ cs.map (·.2) := fun p hp => List.mem_map.mpr ⟨p, hp, rfl⟩
  have core : ∀ H : Hp, (∀ p ∈ cs, H p.2 = some (.tbl #[])) → (∀ b, H b = none ∨ b ∈ cs.map (·.2) ∨ ∃ o xs, H b = some (.frz o (.lst xs))) → SqL K H a (ns.map V.int) → HOk P w H s₁.heap → (∀ b, H b ≠ none → b = a ∨ b ∈ cs.map (·.2)) → (H a ≠ none → K.lookup a = none) →
      codeAny (model P w) callerA (.call (.ref fa) ⟨[.ref a], []⟩) (fun r s' => r = .ok (.ret (.bool true)) ∧ OldK s₁.heap s'.heap ∧ s'.os = s₁.os ∧ AllBare s'.gens) s₁ := by
    intro H hH hO hS hok hA hK
    have base_of : ∀ {b : Addr} {o : Obj}, s₁.heap.get? b = some o → H b = none → (hidT s₁.heap H).get? b = some o := fun e n => hidT_get e n
    have noD : ∀ {b : Addr} {o : Obj}, s₁.heap.get? b = some o → (∀ vs n, o.data ≠ .seq vs n) → o.data ≠ .fields #[] → H b = none := fun {b o} e h1 h2 => by
      cases q : H b with
      | none => rfl
      | some u =>
        rcases hA b (by rw [q]; simp) with z | z
        · rw [z, ha] at e
          cases e
          exact (h1 _ _ rfl).elim
        · rw [isT b z] at e
          cases e
          exact (h2 rfl).elim
    have noA : ∀ {b : Addr} {o : Obj} {es : Array DictEntry} {ep : Nat}, s₁.heap.get? b = some o → o.data = .dict es ep → H b = none := fun {b o es ep} e d =>
      noD e (fun vs n z => by rw [d] at z; cases z) (fun z => by rw [d] at z; cases z)
    have nsK : ∀ {b : Addr} {m : Str → Option Value}, s₁.heap.Ns b m → (hidT s₁.heap H).Ns b m := fun {b m} ⟨o, es, ep, e, d, r⟩ => ⟨o, es, ep, base_of e (noA e d), d, r⟩
    have hKb : K.In (hidT s₁.heap H) := fun b o e => base_of (KX b o e) (by
      cases q : H b with
      | none => rfl
      | some u =>
        rcases hA b (by rw [q]; simp) with z | z
        · rw [z] at e q
          rw [hK (by rw [q]; simp)] at e
          cases e
        · obtain ⟨p, hp, ep⟩ := List.mem_map.mp z
          rw [← ep, nT p hp] at e
          cases e)
    have hM : L2.Mod K mg (hidT s₁.heap H) := ⟨hKb, nsK hns, ⟨mb, nsK hb, hbb⟩, let ⟨mc, h1, h2⟩ := hlim; ⟨mc, nsK h1, h2⟩⟩
    have hS0 : ∃ o, (hidT s₁.heap H).get? sysModules = some o := let ⟨o, _, _, e, _⟩ := nsK hmods; ⟨o, e⟩
    have TB : ∀ p ∈ cs, LamX.TabB (hidT s₁.heap H) mg p.1 p.2 := fun p hp => by
      refine ⟨?_, ?_, fun z => ?_⟩
      · obtain ⟨o, us, file, tf, flags, tg, inF, text, tt, e1, r1, r2, r3, rest⟩ := C p hp
        refine ⟨o, us, file, tf, flags, tg, inF, text, tt, base_of e1 (noD e1 (fun vs n z => by rw [r2] at z; cases z) fun z => ?_), r1, r2, r3, rest⟩
        rw [r2] at z
        cases z
        simp at r3
      · obtain ⟨bm, ob, b1, b2, b3, b4, b5, b6⟩ := hbm
        have nG : bm ≠ mainGlobals := fun q => by
          obtain ⟨o, es, ep, e, hd, _⟩ := hns
          rw [q, e] at b3
          cases b3
          rw [hd] at b6
          cases b6
        have nP : bm ≠ p.2 := fun q => by
          rw [q, hT p hp] at b3
          cases b3
          cases b6
        exact ⟨bm, ob, b1, b2, nG, nP, base_of b3 (noD b3 (fun vs n z => by rw [b6] at z; cases z) fun z => by rw [b6] at z; cases z), b4, b5, b6⟩
      · obtain ⟨o, es, ep, e, hd, _⟩ := hns
        rw [z, hT p hp] at e
        cases e
        cases hd
    have e0 : Env0 P w K mg (hidT s₁.heap H) callerA [] s₁ H := ⟨rfl, hM, fun b o e => of_hidT e, Nat.le_of_eq (hidT_size _ _), trivial, fun b hb => absurd (show b ∈ ([] : List Addr) from hb) (by simp), hok, .of_eq hg⟩
    refine codeAny_mono ((F _ hKb (nsK hns) hS0 TB).run callerA [] s₁ H ⟨[.ref a], []⟩ [.ref a] [.ref a] _ _ hr rfl e0 (hbind s₁ (.ref a)) (.cons rfl .nil) (hsp H hH hS)) fun r s' h => ?_
    cases r with
    | error e => exact False.elim h
    | ok fl =>
      cases fl with
      | next => exact False.elim h
      | brk => exact False.elim h
      | cont => exact False.elim h
      | ret u =>
        obtain ⟨v, H', os, bare, un, hok', r', q⟩ := h
        have q' : v = .bl true := q
        subst q'
        obtain rfl : u = Value.bool true := r'
        have key : ∀ b o, b ∉ cs.map (·.2) → s₁.heap.get? b = some o → s'.heap.get? b = some o := fun b o nb e => by
          cases q : H b with
          | none => exact un.keep b o e q (by intro z; exact absurd (show b ∈ ([] : List Addr) from z) (by simp)) (by simp)
          | some u =>
            rcases hO b with z | z | ⟨ob, xs, z⟩
            · rw [q] at z; cases z
            · exact absurd z nb
            · have z2 := un.frzs b ob _ z
              obtain ⟨e1, _⟩ := hok b _ z
              obtain ⟨e2, _⟩ := hok' b _ z2
              rw [e] at e1; cases e1
              exact e2
        have grown : ∀ p ∈ cs, ∃ more : Array Value, s'.heap.get? p.2 = some { cls := .none, data := .fields more } := fun p hp => by
          obtain ⟨more, z⟩ := un.tbls p.2 #[] (hH p hp)
          exact ⟨_, hok' p.2 _ z⟩
        refine ⟨rfl, ⟨fun b o e => ?_, fun b o e => ?_⟩, os, bare⟩
        · by_cases hb : b ∈ cs.map (·.2)
          · obtain ⟨p, hp, rfl⟩ := List.mem_map.mp hb
            obtain ⟨more, hm⟩ := grown p hp
            rw [hT p hp] at e
            cases e
            exact .inr (.inl ⟨((C p hp).tab (hT p hp)).isCodeTable, rfl, #[], more, rfl, by rw [Array.empty_append]; exact hm⟩)
          · exact .inl (key b o hb e)
        · by_cases hb : b ∈ cs.map (·.2)
          · obtain ⟨p, hp, rfl⟩ := List.mem_map.mp hb
            obtain ⟨more, hm⟩ := grown p hp
            exact ⟨_, hm⟩
          · exact ⟨o, key b o hb e⟩
  -- the tables alone, the script ahead of them
  have tab : ∀ (o0 : Option HO) (H : Hp), H = (fun b => if b = a then o0 else if b ∈ cs.map (·.2) then some (.tbl #[]) else none) → (o0 = none ∨ (K.lookup a = none ∧ ∃ (ob : Obj) (xs : List V), o0 = some (.frz ob (.lst xs)))) → SqL K H a (ns.map V.int) → HOk P w H s₁.heap →
      codeAny (model P w) callerA (.call (.ref fa) ⟨[.ref a], []⟩) (fun r s' => r = .ok (.ret (.bool true)) ∧ OldK s₁.heap s'.heap ∧ s'.os = s₁.os ∧ AllBare s'.gens) s₁ := by
    intro o0 H eH ho hS hok
    have eA : H a = o0 := by rw [eH]; exact if_pos rfl
    have eT : ∀ b, b ∈ cs.map (·.2) → H b = some (.tbl #[]) := fun b hb => by
      rw [eH]
      exact (if_neg (fun z : b = a => aT (by rw [← z]; exact hb))).trans (if_pos hb)
    have eN : ∀ b, b ≠ a → b ∉ cs.map (·.2) → H b = none := fun b h1 h2 => by
      rw [eH]
      exact (if_neg h1).trans (if_neg h2)
    refine core H (fun p hp => eT _ (memT p hp)) (fun b => ?_) hS hok (fun b z => ?_) fun z => ?_
    · by_cases hb : b ∈ cs.map (·.2)
      · exact .inr (.inl hb)
      · by_cases h2 : b = a
        · subst h2
          rcases ho with e | ⟨_, ob, xs, e⟩
          · exact .inl (eA.trans e)
          · exact .inr (.inr ⟨ob, xs, eA.trans e⟩)
        · exact .inl (eN b h2 hb)
    · by_cases hb : b ∈ cs.map (·.2)
      · exact .inr hb
      · by_cases h2 : b = a
        · exact .inl h2
        · exact absurd (eN b h2 hb) z
    · rcases ho with e | ⟨e, _⟩
      · exact absurd (eA.trans e) z
      · exact e
  have okT : ∀ (o0 : Option HO) (b : Addr) (u : HO), (if b = a then o0 else if b ∈ cs.map (·.2) then some (HO.tbl #[]) else none) = some u → (o0 = some u ∧ b = a) ∨ (s₁.heap.get? b = some TabObj ∧ u = .tbl #[]) := fun o0 b u z => by
    by_cases h2 : b = a
    · exact .inl ⟨(if_pos h2).symm.trans z, h2⟩
    · have z1 := (if_neg h2).symm.trans z
      by_cases hb : b ∈ cs.map (·.2)
      · exact .inr ⟨isT b hb, (Option.some.inj ((if_pos hb).symm.trans z1)).symm⟩
      · cases (if_neg hb).symm.trans z1
  cases hk : K.lookup a with
  | some o =>
    have e := KX a o hk
    rw [ha] at e
    cases e
    refine tab none _ rfl (.inl rfl) (.inr ⟨_, vs.toArray, _, hk, rfl, rfl, rfl, by rw [List.size_toArray, lenV]; exact hl, by simpa using rv⟩) fun b u z => ?_
    rcases okT none b u z with ⟨y, _⟩ | ⟨y, rfl⟩
    · cases y
    · exact y
  | none =>
    refine tab (some (.frz { cls := .type "list", data := .seq vs.toArray } (.lst (ns.map V.int)))) _ rfl (.inr ⟨hk, _, _, rfl⟩) (.inl (.inr ⟨{ cls := .type "list", data := .seq vs.toArray }, if_pos rfl⟩)) fun b u z => ?_
    rcases okT _ b u z with ⟨y, rfl⟩ | ⟨y, rfl⟩
    · cases y
      exact ⟨ha, by rw [List.length_map]; exact hl, vs, _, rv, ha⟩
    · exact y
theorem walkTG {l : PySem.W.OpenLaw} {n k : Nat} {q : Program} {loose : List Str} {XP : (Str → Option Value) → Heap → Prop} {YP : World → Heap → Prop} {d : DefRec} {x : Str}
    (hn : l.most = some n) (hn2 : n ≤ sizeLine) (hdf : d.params.defaults = []) (him : importsNone q = true) (hr : Room k callerA)
    (F : ∀ (w : World) (mg : Str → Option Value) (fa : Addr) (h : Heap), YP w h → h.Ns mainGlobals mg → mg d.name = some (.ref fa) → ∃ (K : PySem.W.Frag) (fd : FuncData) (cs : List (Addr × Addr)) (sp : Sp), K.In h ∧
      (∀ p ∈ cs, h.get? p.2 = some TabObj) ∧ (∀ p ∈ cs, K.lookup p.2 = none) ∧ (∀ p ∈ cs, PySem.W.CodeHd h p.1 p.2) ∧ (∀ (s : Shared) (u : Value), BindsTo s fd ⟨[u], []⟩ [(x, u)]) ∧
      (∀ (H : Hp) (a : Addr) (ns : List Int), ns.length ≤ n → (∀ p ∈ cs, H p.2 = some (.tbl #[])) → SqL K H a (ns.map V.int) → sp [.ref a] H (fun v _ => v = .bl true) E0) ∧
      ∀ base : Heap, K.In base → base.Ns mainGlobals mg → (∃ o, base.get? sysModules = some o) → (∀ p ∈ cs, LamX.TabB base mg p.1 p.2) → FnG l.prog w K mg base k fa fd [x] sp) :
    PySem.W.WalkO q loose XP YP l.row.toRowW d [] (fun f vs => PySem.call f vs) := by
  refine Att.attach_callB hn hdf fun w s₀ s₁ mg mb fa o pm cd doc a vs ns G Y ho hd hcd hmg hobj hints hlen hbits hg => ?_
  obtain ⟨mm, hmods, _⟩ := (G.T.seer him).mods
  obtain ⟨K, fd, cs, sp, KX, hT, nT, C, hb, hsp, hF⟩ := F w mg fa _ Y G.T.g hmg
  exact law_callTG KX G.T.g hmods G.T.b G.T.builtins G.T.nolimit hg hT nT C G.T.bmain hobj hints (Nat.le_trans hlen hn2) hr hF hb fun H hH hS => hsp H a ns hlen hH hS
end Sps
set_option Elab.async false
set_option linter.all false
set_option maxRecDepth 100000
set_option maxHeartbeats 4000000
/-! Keepers as tables grow; a keeper made, what comes of it. -/
namespace Sps
open PySem PySem.Spec PyProof.Rows L2
/-- all but tables stays -/
def KX (H H' : Hp) : Prop := ∀ b o, (∀ ps, o ≠ .tbl ps) → H b = some o → H' b = some o
theorem KX.refl (H : Hp) : KX H H := fun _ _ _ e => e
theorem KX.trans {H H1 H2 : Hp} (a : KX H H1) (b : KX H1 H2) : KX H H2 := fun c o t e => b c o t (a c o t e)
theorem Same.kx {H H' : Hp} (s : Same H H') : KX H H' := fun b o _ e => s b o e
theorem ext_kx {H H' : Hp} (s : LamX.ExtN H H') : KX H H' := fun b o t e => s b o e t
theorem KX.kb {B : Addr → Prop} {H H' : Hp} (s : KX H H') : KeepB B H H' := fun b o _ t e => s b o t e
theorem IsO.kx {C : Addr} {H H' : Hp} {x : Addr} {l : List (Str × V)} (h : IsO C H x l) (s : KX H H') : IsO C H' x l := let ⟨dx, fs, e, k, q⟩ := h; ⟨dx, fs, s _ _ (fun _ z => by cases z) e, k, q⟩
theorem AskAt.kx {H H' : Hp} {d : Addr} {ns : List Int} (h : AskAt H d ns) (s : KX H H') : AskAt H' d ns := let ⟨kvs, e, q⟩ := h; ⟨kvs, s _ _ (fun _ z => by cases z) e, q⟩
theorem AboveAt.kx {H H' : Hp} {d : Addr} {rs : List Cp} (h : AboveAt H d rs) (s : KX H H') : AboveAt H' d rs := let ⟨us, h1, h2, h3⟩ := h; ⟨us, h1, s _ _ (fun _ z => by cases z) h2, paired_imp (fun _ _ e => s _ _ (fun _ z => by cases z) e) h3⟩
theorem PicAt.kx {C : Addr} {H H' : Hp} {x e : Addr} (h : PicAt C H x e) (s : KX H H') : PicAt C H' x e := let ⟨dx, fs, h1, h2, h3⟩ := h; ⟨dx, fs, s _ _ (fun _ z => by cases z) h1, h2, s _ _ (fun _ z => by cases z) h3⟩
theorem KSt.kx {CSt CSi CP : Addr} {H H' : Hp} {s : Addr} {z : StV} {rs : List Cp} {ns : List Int} (k : KSt CSt CSi CP H s z rs ns) (e : KX H H') : KSt CSt CSi CP H' s z rs ns :=
  ⟨k.st.kx e, let ⟨d, h1, h2⟩ := k.asks; ⟨d, h1, h2.kx e⟩, let ⟨d, h1, h2⟩ := k.told; ⟨d, h1, e _ _ (fun _ z => by cases z) h2⟩, let ⟨t, da, l, h1, h2, h3⟩ := k.site; ⟨t, da, l, h1, h2.kx e, h3.kx e⟩, k.asc, k.low, k.sml, let ⟨p, e1, h1, h2⟩ := k.pic; ⟨p, e1, h1, h2.kx e⟩⟩
theorem KAt.kx {CK CSt CSi CP : Addr} {H H' : Hp} {k : Addr} {rs : List Cp} {a : Addr} {pc : V} {t u : Int} {ns : List Int} (h : KAt CK CSt CSi CP H k rs a pc t u ns) (s : KX H H') : KAt CK CSt CSi CP H' k rs a pc t u ns := by
  obtain ⟨dx, s0, ta, tb, fs, z, h1, h2, h3, h4, h5, h6, h7, h8, h9⟩ := h.ex
  exact ⟨dx, s0, ta, tb, fs, z, s _ _ (fun _ z => by cases z) h1, h2, h3, h4.kx s, h5, h6, h7, s _ _ (fun _ z => by cases z) h8, s _ _ (fun _ z => by cases z) h9⟩
theorem rows_kx {H H' : Hp} {a : Addr} {rs : List Cp} (h : RowsAt H a rs) (s : KX H H') : RowsAt H' a rs := let ⟨o, ts, h1, h2, h3⟩ := h; ⟨o, ts, s _ _ (fun _ z => by cases z) h1, h2, paired_imp (fun _ _ e => s _ _ (fun _ z => by cases z) e) h3⟩
/-- what a caught making gave -/
inductive OutT (CK CSt CSi CP : Addr) (b c : Bool) (v pu : V) (H : Hp) (p : Addr) : Prop
  | cps (hb : b = false) (h : H p = some (.tup [.str "copies", v]))
  | pcs (hb : b = true) (hc : c = false) (h : H p = some (.tup [.str "piece", pu]))
  | ok (hb : b = true) (hc : c = true) (x a : Addr) (rs : List Cp) (e : v = .ref a) (h : H p = some (.tup [.str "told", .ref x])) (k : KAt CK CSt CSi CP H x rs a pu 0 0 [])
theorem OutT.kx {CK CSt CSi CP : Addr} {b c : Bool} {v pu : V} {H H' : Hp} {p : Addr} (h : OutT CK CSt CSi CP b c v pu H p) (s : KX H H') : OutT CK CSt CSi CP b c v pu H' p := by
  cases h with
  | cps hb h => exact .cps hb (s _ _ (fun _ z => by cases z) h)
  | pcs hb hc h => exact .pcs hb hc (s _ _ (fun _ z => by cases z) h)
  | ok hb hc x a rs e h k => exact .ok hb hc x a rs e (s _ _ (fun _ z => by cases z) h) (k.kx s)
theorem OutT.ne {CK CSt CSi CP : Addr} {b c : Bool} {v pu : V} {H : Hp} {p l : Addr} {xs : List V} (h : OutT CK CSt CSi CP b c v pu H p) (hl : H l = some (.lst xs)) : p ≠ l := fun e => by
  rw [← e] at hl
  cases h with
  | cps _ h => rw [h] at hl; cases hl
  | pcs _ _ h => rw [h] at hl; cases hl
  | ok _ _ _ _ _ _ h _ => rw [h] at hl; cases hl
theorem keep_run {K : PySem.W.Frag} {CK CSt CSi CP BC BP : Addr} {Q : VK} {H1 : Hp} {x dx : Addr} {v pu : V} {o : Option (List (Option Cp))} {c : Bool} (ex : ∀ i j : Nat, ∀ C D : Addr, [BC, BP][i]? = some C → [BC, BP][j]? = some D → PySem.W.exmOne K (.ref C) (.ref D) = some (decide (i = j)))
    (hx : H1 x = none) (hdx : H1 dx = none) (ne : dx ≠ x) (hv : CpO K H1 v o) (hp : PcV K H1 pu c) (k : ∀ (H2 : Hp) (p : Addr), KX H1 H2 → Same H1 H2 → H1 p = none → OutT CK CSt CSi CP (areO o) c v pu H2 p → Q (.ref p) H2) :
    spKeep K CK CSt CSi CP BC BP [.ref x, v, pu] (L2.upd (L2.upd H1 dx (.own x)) x (.ins CK dx [])) (fun z H3 => z = .non ∧ ([V.str "told", .ref x].length ≤ sizeLine ∧ ∀ p, H3 p = none → Q (.ref p) (L2.upd H3 p (.tup [.str "told", .ref x])))) (EC K Q [(BC, "copies"), (BP, "piece")]) := by
  have s0 : Same H1 (L2.upd (L2.upd H1 dx (.own x)) x (.ins CK dx [])) := (Same.upd hdx).trans (Same.upd (by rw [upd_ne (Ne.symm ne)]; exact hx))
  refine ⟨x, dx, v, pu, areO o, c, rfl, upd_same, (hv.same s0).v, hp.same s0, fun hb H2 d s2 hd => ?_, fun hb hc H2 d s2 hd => ?_, fun hb hc H2 a rs ev sx hK => ⟨rfl, (by show 2 ≤ sizeLine; decide), fun p hp2 => ?_⟩⟩
  · refine ⟨true, ex 0 0 _ _ rfl rfl, fun _ => ⟨rfl, d, v, rfl, hd, fun p hp2 => ?_⟩, (fun q => nomatch q)⟩
    have s := Same.upd' (s0.trans s2) (o := .tup [.str "copies", v]) hp2
    exact k _ p (Same.kx s) s ((s0.trans s2).free hp2) (.cps hb upd_same)
  · refine ⟨false, ex 1 0 _ _ rfl rfl, (fun q => nomatch q), fun _ => ⟨true, ex 1 1 _ _ rfl rfl, fun _ => ⟨rfl, d, pu, rfl, hd, fun p hp2 => ?_⟩, (fun q => nomatch q)⟩⟩
    have s := Same.upd' (s0.trans s2) (o := .tup [.str "piece", pu]) hp2
    exact k _ p (Same.kx s) s ((s0.trans s2).free hp2) (.pcs hb hc upd_same)
  · have sM := madeSame hx hdx sx
    have s := Same.upd' sM (o := .tup [.str "told", .ref x]) hp2
    exact k _ p (Same.kx s) s (sM.free hp2) (.ok hb hc x a rs ev upd_same (hK.kx (Same.kx (Same.upd hp2))))
end Sps
set_option Elab.async false
set_option linter.all false
set_option maxRecDepth 100000
set_option maxHeartbeats 4000000
/-! What _law_right needs: the told pairs as lists change; texts of two pairs; the units. -/
namespace Sps
open PySem PySem.Spec PyProof.Rows L2
/-- all but tables and lists that hold something stays -/
def KY (H H' : Hp) : Prop := ∀ b o, (∀ ps, o ≠ .tbl ps) → (∀ x xs, o ≠ .lst (x :: xs)) → H b = some o → H' b = some o
theorem KX.ky {H H' : Hp} (s : KX H H') : KY H H' := fun b o t _ e => s b o t e
theorem KY.upd {H : Hp} {q : Addr} {x : V} {xs : List V} {o : HO} (h : H q = some (.lst (x :: xs))) : KY H (L2.upd H q o) := fun b u _ n e => by
  have ne : b ≠ q := fun z => by rw [z, h] at e; exact n _ _ (Option.some.inj e).symm
  rw [upd_ne ne]
  exact e
theorem KX.updF {H H' : Hp} {q : Addr} {o : HO} (s : KX H H') (h : H q = none) : KX H (L2.upd H' q o) := fun b u t e => by
  rw [upd_ne (ne_of_none e h)]
  exact s b u t e
theorem IsO.ky {C : Addr} {H H' : Hp} {x : Addr} {l : List (Str × V)} (h : IsO C H x l) (s : KY H H') : IsO C H' x l := let ⟨dx, fs, e, k, q⟩ := h; ⟨dx, fs, s _ _ (fun _ z => by cases z) (fun _ _ z => by cases z) e, k, q⟩
theorem AskAt.ky {H H' : Hp} {d : Addr} {ns : List Int} (h : AskAt H d ns) (s : KY H H') : AskAt H' d ns := let ⟨kvs, e, q⟩ := h; ⟨kvs, s _ _ (fun _ z => by cases z) (fun _ _ z => by cases z) e, q⟩
theorem AboveAt.ky {H H' : Hp} {d : Addr} {rs : List Cp} (h : AboveAt H d rs) (s : KY H H') : AboveAt H' d rs := let ⟨us, h1, h2, h3⟩ := h; ⟨us, h1, s _ _ (fun _ z => by cases z) (fun _ _ z => by cases z) h2, paired_imp (fun _ _ e => s _ _ (fun _ z => by cases z) (fun _ _ z => by cases z) e) h3⟩
section
variable {K : PySem.W.Frag} {B : Addr → Prop} {H : Hp}
theorem el_ok {d : PyData} {r : Cp} (h : elD d = some r) : okRow r := by
  unfold elD at h
  split at h
  · split at h
    · rename_i e
      rw [← Option.some.inj h]
      exact ⟨e, fun _ q => by cases q⟩
    · cases h
  · split at h
    · rename_i e
      obtain ⟨e1, e2⟩ := Bool.and_eq_true_iff.mp e
      rw [← Option.some.inj h]
      exact ⟨e1, fun f q => by rw [← Option.some.inj q]; exact e2⟩
    · cases h
  · cases h
theorem cp_rows {d : PyData} {os : List (Option Cp)} (h : cpD d = some os) : ∀ r ∈ rowsOf os, okRow r := by
  unfold cpD at h
  split at h
  · rw [← Option.some.inj h]
    intro r m
    obtain ⟨o, mo, e⟩ := List.mem_filterMap.mp m
    obtain ⟨d, _, rfl⟩ := List.mem_map.mp mo
    exact el_ok e
  · cases h
theorem dp_opt (o : Option Str) : Dp K H (optV o) (optD o) := by
  cases o with
  | none => exact .non
  | some z => exact .str z
theorem dp_rows : ∀ {ts : List Addr} {rs : List Cp}, Paired (fun (t : Addr) (r : Cp) => H t = some (.tup [.str r.1, optV r.2])) ts rs → DpAll K H (ts.map V.ref) (rs.map rowD)
  | _, _, .nil => .nil
  | _, _, .cons h t => .cons (.tup (tupAt h) (.cons (.str _) (.cons (dp_opt _) .nil))) (dp_rows t)
theorem dp_at {a : Addr} {rs : List Cp} (h : RowsAt H a rs) : Dp K H (.ref a) (.tuple (rs.map rowD)) := let ⟨o, ts, h1, _, h3⟩ := h; .tup (.inl (.inr ⟨o, h1⟩)) (dp_rows h3)
theorem lay_row {r : Cp} (h : okRow r) : (rowD r).canLay0 = true := by
  have h1 := alpha_ok h.1
  unfold rowD
  cases e : r.2 with
  | none => simp [PyData.canLay0, PyData.canLayAll0, optD, h1]
  | some z => simp [PyData.canLay0, PyData.canLayAll0, optD, h1, alpha_ok (h.2 z e)]
theorem lay_rows : ∀ {rs : List Cp}, (∀ r ∈ rs, okRow r) → PyData.canLayAll0 (rs.map rowD) = true ∧ PyData.depthAll (rs.map rowD) ≤ 4
  | [], _ => ⟨rfl, by decide⟩
  | r :: rs, h => by
    have ih := lay_rows fun y m => h y (List.mem_cons_of_mem _ m)
    have h0 := lay_row (h r List.mem_cons_self)
    have d0 := (sm_row (h r List.mem_cons_self)).deep
    refine ⟨?_, ?_⟩
    · rw [List.map_cons]
      simp [PyData.canLayAll0, ih.1, h0]
    · rw [List.map_cons]
      simp only [PyData.depthAll]
      have := ih.2
      omega
theorem shaped_rows {rs : List Cp} (h : ∀ r ∈ rs, okRow r) : SeqAt.shaped (.tuple (rs.map rowD)) = true := by
  obtain ⟨h1, h2⟩ := lay_rows h
  unfold SeqAt.shaped
  have h3 : (PyData.tuple (rs.map rowD)).canLay0 = true := by simp [PyData.canLay0, h1]
  rw [h3, Bool.true_and]
  refine decide_eq_true ?_
  simp only [PyData.depth]
  omega
theorem eqv_rows {rs : List Cp} (h : ∀ r ∈ rs, okRow r) : PyData.eqv (.tuple (rs.map rowD)) (.tuple (rs.map rowD)) = true := SeqAt.eqv_refl _ (SeqAt.canLay_of_shaped (shaped_rows h))
/-- two such pairs may be shown -/
theorem Rm.twice {d : PyData} (h : Rm d) {tag : Str} (ht : tag.length ≤ 20) (hc : ∀ c ∈ tag.cps.toList, c < 16 ^ 8) : Shw (.list [.tuple [.str tag, d], .tuple [.str tag, d]]) := by
  have p := h.pair ht hc
  have p2 : (PyData.tuple [.str tag, d]).shown.length ≤ 5000 := by
    have := StrLaws.reprText_len tag hc
    have l := tupText_len [(PyData.str tag).shown, d.shown]
    rw [piled_cons, piled_cons, piled_nil] at l
    have h3 := h.len
    simp only [PyData.shown, PyData.shownAll] at l ⊢
    omega
  have p3 : (PyData.tuple [.str tag, d]).depth ≤ 50 := by
    have := h.deep
    simp only [PyData.depth, PyData.depthAll]
    omega
  refine ⟨?_, ?_, ?_⟩
  · have := p.show_
    simp only [PyData.showable, PyData.showableAll] at this ⊢
    rw [this]
    rfl
  · simp only [PyData.depth, PyData.depthAll] at p3 ⊢
    omega
  · have l := lstText_len [(PyData.tuple [.str tag, d]).shown, (PyData.tuple [.str tag, d]).shown]
    rw [piled_cons, piled_cons, piled_nil] at l
    rw [show (PyData.list [.tuple [.str tag, d], .tuple [.str tag, d]]).shown = listText [(PyData.tuple [.str tag, d]).shown, (PyData.tuple [.str tag, d]).shown] from by simp only [PyData.shown, PyData.shownAll], sizeLine_eq]
    omega
theorem some_read {C : Hp → Prop} {σ : L2.St} (c : Cnd B C) : ItemsS C σ (I0 B) (tCons (tC (.int 0)) (tCons (tC (.int 65)) (tCons (tUn (rU fun i => .int (-i)) (tC (.int 1))) (tCons (tC (.bl true)) (tCons (tC (.bl false)) (tCons (tC .non) (tCons (tC (.str "4")) (tCons (tTup (tCons (tC (.int 4)) tNil))
    (tCons (tOp (rI CPow fun i j => .int (i ^ j.toNat)) (tC (.int 10)) (tC (.int 30))) (tCons (tLst (tCons (tC (.int 4)) tNil)) (tCons tDNewK tNil))))))))))) 11 := by
  have pm : ∀ {H H' : Hp} {v : V}, I0 B H v → Same H H' → I0 B H' v := fun h s => let ⟨d, q, r⟩ := h; ⟨d, q.go (Same.kb s), r⟩
  refine ItemsS.cons c pm ?_ (ItemsS.cons c pm ?_ (ItemsS.cons c pm ?_ (ItemsS.cons c pm ?_ (ItemsS.cons c pm ?_ (ItemsS.cons c pm ?_ (ItemsS.cons c pm ?_ (ItemsS.cons c pm ?_ (ItemsS.cons c pm ?_ (ItemsS.cons c pm ?_ (ItemsS.cons c pm ?_ ItemsS.nil))))))))))
  · exact LitS.item LitS.int (Rm.of (by decide +kernel))
  · exact LitS.item LitS.int (Rm.of (by decide +kernel))
  · exact LitS.item LitS.neg (Rm.of (by decide +kernel))
  · exact LitS.item LitS.bl (Rm.of (by decide +kernel))
  · exact LitS.item LitS.bl (Rm.of (by decide +kernel))
  · exact LitS.item LitS.non (Rm.of (by decide +kernel))
  · exact LitS.item LitS.str (Rm.of (by decide +kernel))
  · exact LitS.item (LitS.tup c (LitSA.cons c LitS.int LitSA.nil) (by show 1 ≤ 1000; decide)) (Rm.of (by decide +kernel))
  · intro H Q _ kk
    exact ⟨10, 30, rfl, rfl, ⟨by decide, by decide, by decide⟩, kk H _ (Same.refl H) ⟨_, .int _, Rm.int (by decide +kernel)⟩⟩
  · exact LitS.item (LitS.lst c (LitSA.cons c LitS.int LitSA.nil) (by show 1 ≤ 1000; decide)) (Rm.of (by decide +kernel))
  · exact LitS.item (LitS.emp c) (Rm.of (by decide +kernel))
end
theorem PicAt.ky {C : Addr} {H H' : Hp} {x e : Addr} (h : PicAt C H x e) (s : KY H H') : PicAt C H' x e := let ⟨dx, fs, h1, h2, h3⟩ := h; ⟨dx, fs, s _ _ (fun _ z => by cases z) (fun _ _ z => by cases z) h1, h2, s _ _ (fun _ z => by cases z) (fun _ _ z => by cases z) h3⟩
theorem KSt.ky {CSt CSi CP : Addr} {H H' : Hp} {s : Addr} {z : StV} {rs : List Cp} {ns : List Int} (k : KSt CSt CSi CP H s z rs ns) (e : KY H H') : KSt CSt CSi CP H' s z rs ns :=
  ⟨k.st.ky e, let ⟨d, h1, h2⟩ := k.asks; ⟨d, h1, h2.ky e⟩, let ⟨d, h1, h2⟩ := k.told; ⟨d, h1, e _ _ (fun _ z => by cases z) (fun _ _ z => by cases z) h2⟩, let ⟨t, da, l, h1, h2, h3⟩ := k.site; ⟨t, da, l, h1, h2.ky e, h3.ky e⟩, k.asc, k.low, k.sml, let ⟨p, e1, h1, h2⟩ := k.pic; ⟨p, e1, h1, h2.ky e⟩⟩
theorem KAt.ky {CK CSt CSi CP : Addr} {H H' : Hp} {k : Addr} {rs : List Cp} {a : Addr} {pc : V} {t u : Int} {ns : List Int} (h : KAt CK CSt CSi CP H k rs a pc t u ns) (s : KY H H') : KAt CK CSt CSi CP H' k rs a pc t u ns := by
  obtain ⟨dx, s0, ta, tb, fs, z, h1, h2, h3, h4, h5, h6, h7, h8, h9⟩ := h.ex
  exact ⟨dx, s0, ta, tb, fs, z, s _ _ (fun _ z => by cases z) (fun _ _ z => by cases z) h1, h2, h3, h4.ky s, h5, h6, h7, s _ _ (fun _ z => by cases z) (fun _ _ z => by cases z) h8, s _ _ (fun _ z => by cases z) (fun _ _ z => by cases z) h9⟩
theorem OutT.ky {CK CSt CSi CP : Addr} {b c : Bool} {v pu : V} {H H' : Hp} {p : Addr} (h : OutT CK CSt CSi CP b c v pu H p) (s : KY H H') : OutT CK CSt CSi CP b c v pu H' p := by
  cases h with
  | cps hb h => exact .cps hb (s _ _ (fun _ z => by cases z) (fun _ _ z => by cases z) h)
  | pcs hb hc h => exact .pcs hb hc (s _ _ (fun _ z => by cases z) (fun _ _ z => by cases z) h)
  | ok hb hc x a rs e h k => exact .ok hb hc x a rs e (s _ _ (fun _ z => by cases z) (fun _ _ z => by cases z) h) (k.ky s)
/-- Keeper(value), a good one -/
theorem keep_good {K : PySem.W.Frag} {CK CSt CSi CP BC BP : Addr} {Q : Hp → Prop} {H1 : Hp} {x dx : Addr} {v : V} {o : Option (List (Option Cp))} (ho : areO o = true)
    (hx : H1 x = none) (hdx : H1 dx = none) (ne : dx ≠ x) (hv : CpO K H1 v o) (k : ∀ (H2 : Hp) (a : Addr) (rs : List Cp), KX H1 H2 → Same H1 H2 → KAt CK CSt CSi CP H2 x rs a (.int 4) 0 0 [] → Q H2) :
    spKeep K CK CSt CSi CP BC BP [.ref x, v, .int 4] (L2.upd (L2.upd H1 dx (.own x)) x (.ins CK dx [])) (fun z H3 => z = .non ∧ Q H3) E0 := by
  have s0 : Same H1 (L2.upd (L2.upd H1 dx (.own x)) x (.ins CK dx [])) := (Same.upd hdx).trans (Same.upd (by rw [upd_ne (Ne.symm ne)]; exact hx))
  refine ⟨x, dx, v, .int 4, areO o, true, rfl, upd_same, (hv.same s0).v, .int 4, (fun hb => by rw [ho] at hb; cases hb), (fun _ q => by cases q), fun hb hc H2 a rs ev sx hK => ⟨rfl, ?_⟩⟩
  have sM := madeSame hx hdx sx
  exact k _ a rs (Same.kx sM) sM hK
end Sps
set_option Elab.async false
set_option linter.all false
set_option maxRecDepth 100000
set_option maxHeartbeats 4000000
/-! The three makings that are caught. -/
namespace Sps
open PySem PySem.Spec PyProof.Rows L2
theorem inV_int : ∀ {z : Int} {ws : List Int}, inV (.int z) (ws.map V.int) = decide (z ∈ ws)
  | z, [] => rfl
  | z, w :: ws => by
    have ih := inV_int (z := z) (ws := ws)
    unfold inV at ih ⊢
    rw [List.map_cons, List.any_cons, ih]
    have e1 : eqV (V.int w) (V.int z) = decide (w = z) := by
      show (w == z) = decide (w = z)
      rw [Bool.eq_iff_iff]
      simp
    rw [e1]
    by_cases e : w = z
    · subst e; simp
    · simp [e, Ne.symm e]
section
variable {P : Program} {w : World} {K : PySem.W.Frag} {CK CSt CSi CP BC BP : Addr} {T : List (Addr × Str)} {l : Addr} {n : Int} {H H' : Hp} {v u : V} {d du : PyData} {c : Bool}
structure RtS (T : List (Addr × Str)) (l : Addr) (n : Int) (H : Hp) (v u : V) (d du : PyData) (c : Bool) : Prop where
  pot : PotOk n H l
  tabs : LamX.Tabs T H
  val : VOk (fun b => b = l) H v d
  un : Dr (fun b => b = l) H u du
  rm : Rm du
  cc : (∃ i, u = .int i ∧ c = (decide (1 ≤ i) && decide (i ≤ 64))) ∨ ((∀ i, u ≠ .int i) ∧ c = false)
theorem PotOk.kx (h : PotOk n H l) (s : KX H H') : PotOk n H' l := let ⟨a, m, c, e, q⟩ := h; ⟨a, m, c, s _ _ (fun _ z => by cases z) e, q⟩
theorem PotOk.lst (h : PotOk n H l) : ∀ b, b = l → ∃ xs, H b = some (.lst xs) := fun b e => by
  obtain ⟨_, _, _, z, _⟩ := h
  subst e
  exact ⟨_, z⟩
theorem RtS.kx (R : RtS T l n H v u d du c) (s : KX H H') (t : LamX.Tabs T H') : RtS T l n H' v u d du c := ⟨R.pot.kx s, t, R.val.go s.kb R.pot.lst, R.un.go s.kb, R.rm, R.cc⟩
theorem RtS.pc (R : RtS T l n H v u d du c) : PcV K H u c := by
  rcases R.cc with ⟨i, rfl, rfl⟩ | ⟨h, rfl⟩
  · exact .int i
  · exact .no (R.un.noInt h)
theorem lam1 {σ : L2.St} {Q : VK} (ex : ∀ i j : Nat, ∀ C D : Addr, [BC, BP][i]? = some C → [BC, BP][j]? = some D → PySem.W.exmOne K (.ref C) (.ref D) = some (decide (i = j))) (h2 : σ[2]? = some (some v)) (h4 : σ[4]? = some (some u)) (R : RtS T l n H v u d du c)
    (k : ∀ (H' : Hp) (p : Addr), KX H H' → RtS T l n H' v u d du c → OutT CK CSt CSi CP (areO (cpD d)) c v u H' p → Q (.ref p) H') :
    LamX.tLam T (TTc K [(BC, "copies"), (BP, "piece")]) (fun E => tMakeK CK 1 1 (spKeep K CK CSt CSi CP BC BP) (fun vs zs => vs ++ zs) E (tCons (tVar 2) tNil) (tCons (tVar 4) tNil)) σ H Q := by
  refine ⟨R.tabs, fun H1 eN T1 => ?_⟩
  have R1 := R.kx (ext_kx eN) T1
  exact ⟨_, h2, _, h4, rfl, rfl, fun x dx hx hdx ne => keep_run ex hx hdx ne R1.val.cp R1.pc fun H2 p k2 s2 hp ho => k H2 p ((ext_kx eN).trans k2) (R1.kx k2 (T1.ext s2)) ho⟩
theorem lam2 {σ : L2.St} {Q : VK} (ex : ∀ i j : Nat, ∀ C D : Addr, [BC, BP][i]? = some C → [BC, BP][j]? = some D → PySem.W.exmOne K (.ref C) (.ref D) = some (decide (i = j))) (h2 : σ[2]? = some (some v)) (h4 : σ[4]? = some (some u)) (R : RtS T l n H v u d du c)
    (k : ∀ (H' : Hp) (p : Addr), KX H H' → RtS T l n H' v u d du c → OutT CK CSt CSi CP (areO (cpD d)) c v u H' p → Q (.ref p) H') :
    LamX.tLam T (TTc K [(BC, "copies"), (BP, "piece")]) (fun E => tMakeK CK 0 2 (spKeep K CK CSt CSi CP BC BP) (fun vs zs => vs ++ zs.reverse) E tNil (tCons (tVar 4) (tCons (tVar 2) tNil))) σ H Q := by
  refine ⟨R.tabs, fun H1 eN T1 => ?_⟩
  have R1 := R.kx (ext_kx eN) T1
  exact ⟨_, h4, _, h2, rfl, rfl, fun x dx hx hdx ne => keep_run ex hx hdx ne R1.val.cp R1.pc fun H2 p k2 s2 hp ho => k H2 p ((ext_kx eN).trans k2) (R1.kx k2 (T1.ext s2)) ho⟩
theorem lam3 {σ : L2.St} {Q : VK} (ex : ∀ i j : Nat, ∀ C D : Addr, [BC, BP][i]? = some C → [BC, BP][j]? = some D → PySem.W.exmOne K (.ref C) (.ref D) = some (decide (i = j))) (h2 : σ[2]? = some (some v)) (R : RtS T l n H v u d du c)
    (k : ∀ (H' : Hp) (p : Addr), KX H H' → RtS T l n H' v u d du c → OutT CK CSt CSi CP (areO (cpD d)) true v (.int 4) H' p → Q (.ref p) H') :
    LamX.tLam T (TTc K [(BC, "copies"), (BP, "piece")]) (fun E => tMake CK (spKeep K CK CSt CSi CP BC BP) [.int 4] E (tCons (tVar 2) tNil)) σ H Q := by
  refine ⟨R.tabs, fun H1 eN T1 => ?_⟩
  have R1 := R.kx (ext_kx eN) T1
  exact ⟨_, h2, fun x dx hx hdx ne => keep_run ex hx hdx ne R1.val.cp (.int 4) fun H2 p k2 s2 hp ho => k H2 p ((ext_kx eN).trans k2) (R1.kx k2 (T1.ext s2)) ho⟩
theorem unit_is {B : Addr → Prop} {σ : L2.St} {Q : VK} (h4 : σ[4]? = some (some u)) (hu : Dr B H u du) (cc : (∃ i, u = .int i ∧ c = (decide (1 ≤ i) && decide (i ≤ 64))) ∨ ((∀ i, u ≠ .int i) ∧ c = false)) (q : Q (.bl c) H) :
    tAndV (tCB (rIsi K) (tCons (tVar 4) (tCons (tC (V.ty "int")) tNil))) (tAndV (tNotV (tCB (rIsi K) (tCons (tVar 4) (tCons (tC (V.ty "bool")) tNil)))) (tChain (rI0 fun i j => V.bl (decide (i < j))) (rI0 fun i j => V.bl (decide (i < j))) (tC (V.int 0)) (tVar 4) (tC (V.int 65)))) σ H Q := by
  rcases cc with ⟨i, rfl, rfl⟩ | ⟨hno, rfl⟩
  · refine ⟨_, h4, _, _, _, _, true, rfl, .ty "int", .base (.int i), kit_ty (by decide +kernel), true, rfl, iteT ?_⟩
    refine ⟨_, h4, _, _, _, _, false, rfl, .ty "bool", .base (.int i), kit_ty (by decide +kernel), false, rfl, true, rfl, iteT ?_⟩
    refine ⟨_, h4, 0, i, rfl, rfl, _, rfl, ?_⟩
    by_cases h0 : 0 < i
    · refine ite_t h0 ⟨i, 65, rfl, rfl, ?_⟩
      rw [decide_eq_true (by omega : 1 ≤ i), Bool.true_and] at q
      show Q (.bl (decide (i < 65))) H
      rw [show decide (i < 65) = decide (i ≤ 64) from decide_eq_decide.mpr (by omega)]
      exact q
    · refine ite_f h0 ?_
      rw [decide_eq_false (by omega : ¬ 1 ≤ i), Bool.false_and] at q
      exact q
  · obtain ⟨t, ty, hb⟩ := hu.noInt (K := K) hno
    rcases hb with hi | ⟨hi, hb⟩
    · exact ⟨_, h4, _, _, _, _, false, rfl, .ty "int", ty, hi, false, rfl, iteF q⟩
    · refine ⟨_, h4, _, _, _, _, true, rfl, .ty "int", ty, hi, true, rfl, iteT ?_⟩
      exact ⟨_, h4, _, _, _, _, true, rfl, .ty "bool", ty, hb, true, rfl, false, rfl, iteF q⟩
theorem tabs_upd {q : Addr} {xs : List V} {o : HO} (t : LamX.Tabs T H) (h : H q = some (.lst xs)) : LamX.Tabs T (L2.upd H q o) := fun p hp => by
  obtain ⟨ps, h1, h2, h3⟩ := t p hp
  refine ⟨ps, ?_, h2, fun pos cv hc => ?_⟩
  · rw [upd_ne fun z => by rw [z, h] at h1; cases h1]
    exact h1
  · obtain ⟨c, e1, e2⟩ := h3 pos cv hc
    refine ⟨c, e1, ?_⟩
    rw [upd_ne fun z => by rw [z, h] at e2; unfold LamX.CodeO at e2; cases e2]
    exact e2
theorem OutT.good {pu : V} {p : Addr} (h : OutT CK CSt CSi CP true true v pu H p) : ∃ x a rs, v = .ref a ∧ H p = some (.tup [.str "told", .ref x]) ∧ KAt CK CSt CSi CP H x rs a pu 0 0 [] := by
  cases h with
  | cps hb h => cases hb
  | pcs hb hc h => cases hc
  | ok hb hc x a rs e h k => exact ⟨x, a, rs, e, h, k⟩
theorem OutT.badC {pu : V} {p : Addr} (h : OutT CK CSt CSi CP false c v pu H p) : H p = some (.tup [.str "copies", v]) := by
  cases h with
  | cps hb h => exact h
  | pcs hb hc h => cases hb
  | ok hb hc x a rs e h k => cases hb
theorem OutT.badP {pu : V} {p : Addr} (h : OutT CK CSt CSi CP true false v pu H p) : H p = some (.tup [.str "piece", pu]) := by
  cases h with
  | cps hb h => cases hb
  | pcs hb hc h => exact h
  | ok hb hc x a rs e h k => cases hc
theorem twice_end {D : Ends} {σ : L2.St} {i : Nat} {q1 p1 p2 : Addr} {tag : Str} {y : V} {dy : PyData} (h6 : σ[6]? = some (some (.ref q1))) (hi : σ[i]? = some (some y)) (hp : PotOk n H l) (hq : H q1 = some (.lst [.ref p1, .ref p2])) (e1 : H p1 = some (.tup [.str tag, y])) (e2 : H p2 = some (.tup [.str tag, y]))
    (hd : Dr (fun b => b = l) H y dy) (rm : Rm dy) (ht : tag.length ≤ 20) (hc : ∀ c ∈ tag.cps.toList, c < 16 ^ 8) (R : ∀ H', Same H H' → D.rt (.bl true) H') :
    tRet (tOp rEq (tCB (rRepr (fun b => b = l)) (tCons (tVar 6) tNil)) (tCB (rRepr (fun b => b = l)) (tCons (tOp rRep (tLst (tCons (tTup (tCons (tC (.str tag)) (tCons (tVar i) tNil))) tNil)) (tC (.int 2))) tNil))) D σ H := by
  obtain ⟨ia, im, ic, hl, _⟩ := hp
  have sh := rm.twice ht hc
  have nq : ¬ q1 = l := fun e => by
    rw [e, hl] at hq
    cases hq
  have np : ∀ {H' : Hp} {p : Addr} {xs : List V}, Same H H' → H' p = some (.tup xs) → ¬ p = l := fun s h e => by
    rw [e, s _ _ hl] at h
    cases h
  have dr : ∀ {H' : Hp} {p : Addr}, Same H H' → H' p = some (.tup [.str tag, y]) → Dr (fun b => b = l) H' (.ref p) (.tuple [.str tag, dy]) := fun s h => .tup (.inl h) (np s h) (.cons (.str _) (.cons (hd.go (Same.kb s)) .nil))
  refine ⟨_, h6, q1, _, rfl, .lst hq nq (.cons (dr (Same.refl H) e1) (.cons (dr (Same.refl H) e2) .nil)), sh, _, hi, (by show 2 ≤ sizeLine; decide), fun t ht => ?_⟩
  have s1 := Same.upd (o := .tup [.str tag, y]) ht
  have et : (L2.upd H t (.tup [.str tag, y])) t = some (.tup [.str tag, y]) := upd_same
  generalize L2.upd H t (.tup [.str tag, y]) = H1 at s1 et
  refine ⟨(by show 1 ≤ sizeLine; decide), fun q hq' => ⟨q, 2, _, rfl, rfl, upd_same, by decide, by decide, (by show 1 * 2 ≤ sizeLine; decide), fun r hr => ?_⟩⟩
  have s2 := Same.upd (o := .lst [.ref t]) hq'
  have et2 := s2 _ _ et
  generalize L2.upd H1 q (.lst [.ref t]) = H2 at s2 et2 hr
  have s3 := Same.upd (o := .lst (List.replicate (2 : Int).toNat [V.ref t]).flatten) hr
  have et3 := s3 _ _ et2
  have er : (L2.upd H2 r (.lst (List.replicate (2 : Int).toNat [V.ref t]).flatten)) r = some (.lst [.ref t, .ref t]) := upd_same
  generalize L2.upd H2 r (.lst (List.replicate (2 : Int).toNat [V.ref t]).flatten) = H3 at s3 et3 er
  have s03 := (s1.trans s2).trans s3
  have nr : ¬ r = l := fun e => by
    rw [e, s03 _ _ hl] at er
    cases er
  refine ⟨r, _, rfl, .lst er nr (.cons (dr s03 et3) (.cons (dr s03 et3) .nil)), sh, rfl, ?_⟩
  rw [decide_eq_true rfl]
  exact R H3 s03
end
end Sps
set_option Elab.async false
set_option linter.all false
set_option maxRecDepth 100000
set_option maxHeartbeats 4000000
/-! _law_right, law. -/
namespace Sps
open PySem PySem.Spec PyProof.Rows L2
section
variable {P : Program} {w : World} {K : PySem.W.Frag} {mg : Str → Option Value} {base : Heap} {CK CSt CSi CP BC BP CE : Addr}
structure LDefs (P : Program) (w : World) (K : PySem.W.Frag) (mg : Str → Option Value) (base : Heap) (CK CSt CSi CP BC BP CE : Addr) where
  T : Names mg
  KD : KDefs P w K mg base CK CSt CSi CP
  aR : Addr
  dR : FuncData
  gR : FnOk P w K mg base CX0 5 aR dR ["_law_pot_here", "_law_most"] spCopies
  mR : mg "_law_copies" = some (.ref aR)
  kR : PySem.W.keepIn K (.ref aR) = true
  bR : Binds K dR ["_law_pot_here", "_law_most"] []
  aS : Addr
  dS : FuncData
  gS : FnOk P w K mg base CX0 4 aS dS ["_law_pot_here", "_law_rows"] spSpoilt
  mS : mg "_law_spoilt" = some (.ref aS)
  kS : PySem.W.keepIn K (.ref aS) = true
  bS : Binds K dS ["_law_pot_here", "_law_rows"] []
  aD : Addr
  dD : FuncData
  gD : FnOk P w K mg base CX0 2 aD dD ["_law_pot_here", "_law_many"] spDraw
  mD : mg "_law_draw" = some (.ref aD)
  kD : PySem.W.keepIn K (.ref aD) = true
  bD : Binds K dD ["_law_pot_here", "_law_many"] []
  aA : Addr
  dA : FuncData
  gA : FnOk P w K mg base CX0 3 aA dA ["_law_pot_here", "_law_items"] spAny
  mA : mg "_law_any" = some (.ref aA)
  kA : PySem.W.keepIn K (.ref aA) = true
  bA : Binds K dA ["_law_pot_here", "_law_items"] []
  aL : Addr
  dL : FuncData
  gL : FnOk P w K mg base CX0 3 aL dL ["_law_thing"] (spAreL K)
  mL : mg "_law_are_copies" = some (.ref aL)
  kL : PySem.W.keepIn K (.ref aL) = true
  bL : Binds K dL ["_law_thing"] []
  dK : FuncData
  gK : FnOk P w K mg base (L2.CX P w) 8 KD.fI dK ["self", "copies", "piece"] (spKeep K CK CSt CSi CP BC BP)
  b0 : ∃ ds, Vals [V.int 4] ds ∧ Binds K dK ["self", "copies", "piece"] ds
  kb1 : ∃ g, KBn K dK ["self", "copies", "piece"] 2 ["piece"] g (fun vs zs => vs ++ zs)
  kb2 : ∃ g, KBn K dK ["self", "copies", "piece"] 1 ["piece", "copies"] g (fun vs zs => vs ++ zs.reverse)
  aG : Addr
  dG : FuncData
  gG : FnOk P w K mg base CX0 1 aG dG ["self"] (spGroups CK CSt CSi CP)
  oG : Meth K CK "groups" aG
  bG : Binds K dG ["self"] []
  aC : Addr
  dC : FuncData
  fC : Fun K "_law_caught" "_law_caught" s__law_caught aC dC
  mC : mg "_law_caught" = some (.ref aC)
  kC : PySem.W.keepIn K (.ref aC) = true
  bC : Binds K dC ["_law_call"] []
  h1 : CaC K mg "BadCopies" BC
  h2 : CaC K mg "BadPiece" BP
  h6 : mg "KeeperError" = some (.ref CE)
  exm : ∀ i j : Nat, ∀ C D : Addr, [BC, BP][i]? = some C → [BC, BP][j]? = some D → PySem.W.exmOne K (.ref C) (.ref D) = some (decide (i = j))
def spRight (T : List (Addr × Str)) : Sp := fun vs H Q _ => ∃ (l : Addr) (n : Int), vs = [.ref l] ∧ PotOk n H l ∧ n ≤ 70000 ∧ LamX.Tabs T H ∧ ∀ H', KeepB (fun b => b = l) H H' → PotOk (n + 100) H' l → LamX.Tabs T H' → Q (.bl true) H'
abbrev nRt : List Str := ["_law_pot_here", "_law_rows", "_law_value", "_law_some", "_law_unit", "_law_is_unit", "_law_told", "_law_word", "_law_keeper"]
theorem scRt : FnScope nRt ["_law_pot_here"] (defScope s__law_right) := ⟨rfl, rfl, rfl, by decide +kernel, rfl, by decide +kernel, by decide +kernel⟩
theorem tabs_lx {T : List (Addr × Str)} {l : Addr} {n : Int} {H H' : Hp} (t : LamX.Tabs T H) (hp : PotOk n H l) (s : SameX l H H') : LamX.Tabs T H' := fun p hp' => by
  obtain ⟨_, _, _, h, _⟩ := hp
  obtain ⟨ps, h1, h2, h3⟩ := t p hp'
  refine ⟨ps, s _ _ (fun z => by rw [z, h] at h1; cases h1) h1, h2, fun pos cv hc => ?_⟩
  obtain ⟨c, e1, e2⟩ := h3 pos cv hc
  exact ⟨c, e1, s _ _ (fun z => by rw [z, h] at e2; unfold LamX.CodeO at e2; cases e2) e2⟩
theorem noCX {P : Program} {w : World} {o : List Env} {H : Hp} {s : Shared} {e : Value} {s' : Shared} (c : L2.CX P w o H s E0 e s') : False := by
  obtain ⟨_, _, _, _, _, _, _, _, _, _, _, _, f⟩ := c
  exact f.elim
theorem ok_right {f : Addr} {fd : FuncData} {cA PA : Addr} {T : List (Addr × Str)} (F : Fun K "_law_right" "_law_right" s__law_right f fd) (D : LDefs P w K mg base CK CSt CSi CP BC BP CE) (hcode : fd.code = .ref cA) (TB : LamX.TabB base mg cA PA)
    (hmT : (PA, ("_law_right.<locals>.<lambda>" : Str)) ∈ T) (hu : ∀ p ∈ T, p.1 = PA → p.2 = ("_law_right.<locals>.<lambda>" : Str)) (hbs : ∃ o, base.get? sysModules = some o) :
    FnG P w K mg base 12 f fd ["_law_pot_here"] (spRight T) := by
  refine fnG_of F scRt (fun vs H Q E h => ?_) (fun cdv ec A outer s H vs Q E hr hgd h => ?_)
  · obtain ⟨_, _, rfl, _⟩ := h
    rfl
  · obtain ⟨l, n, rfl, hp, hn, hT, h⟩ := h
    have hr5 : Room 5 _ := hr.mono (by decide)
    have hr4 : Room 4 _ := hr.mono (by decide)
    have hr3 : Room 3 _ := hr.mono (by decide)
    have hr2 : Room 2 _ := hr.mono (by decide)
    have hr9 : Room 9 _ := hr.mono (by decide)
    have hr1 : Room 1 _ := hr.mono (by decide)
    have T0 := D.T
    have hun : _ := hr.units
    obtain ⟨g1, kb1⟩ := D.kb1
    obtain ⟨g2, kb2⟩ := D.kb2
    obtain ⟨ds0, rs0, b0⟩ := D.b0
    obtain ⟨oc, od, kV, doc, pm, an, cdC, ct, osl, efd, lkC, hcdC⟩ := D.fC.ex
    refine ⟨_, pss_cons (ps_set (i := 1) scRt.nd rfl (Or.inl rfl) (pe_call D.gR hr5 rfl D.mR D.kR D.bR .nil pass0 (pa_cons (pv 0) (pa_cons pe_int pa_nil))))
      (pss_cons (ps_set (i := 2) scRt.nd rfl (Or.inr rfl) (pe_call D.gS hr4 rfl D.mS D.kS D.bS .nil pass0 (pa_cons (pv 0) (pa_cons (pv 1) pa_nil))))
      (pss_cons (ps_set (i := 3) scRt.nd rfl (Or.inl rfl) (pe_lst (pa_cons pe_int (pa_cons pe_int (pa_cons pe_int (pa_cons pe_int (pa_cons pe_int (pa_cons (pe_op op_add pe_int (pe_call D.gD hr2 rfl D.mD D.kD D.bD .nil pass0 (pa_cons (pv 0) (pa_cons pe_int pa_nil))))
          (pa_cons pe_int (pa_cons pe_int (pa_cons (pe_un un_neg pe_int) (pa_cons pe_bl (pa_cons pe_bl (pa_cons pe_non (pa_cons pe_str (pa_cons (pe_tup (pa_cons pe_int pa_nil)) (pa_cons (pe_op op_pow pe_int pe_int) (pa_cons (pe_lst (pa_cons pe_int pa_nil)) (pa_cons pe_dnewK pa_nil)))))))))))))))))))
      (pss_cons (ps_set (i := 4) scRt.nd rfl (Or.inr rfl) (pe_call D.gA hr3 rfl D.mA D.kA D.bA .nil pass0 (pa_cons (pv 0) (pa_cons (pv 3) pa_nil))))
      (pss_cons (ps_set (i := 5) scRt.nd rfl (Or.inl rfl) (pe_and (pe_callB call_isi (by rfl) T0.isinstance (by decide +kernel) (pa_cons (pv 4) (pa_cons (pe_bltn (v := .ty "int") (by rfl) T0.int (by decide +kernel) rfl) pa_nil)))
          (pe_and (pe_not (pe_callB call_isi (by rfl) T0.isinstance (by decide +kernel) (pa_cons (pv 4) (pa_cons (pe_bltn (v := .ty "bool") (by rfl) T0.bool (by decide +kernel) rfl) pa_nil)))) (pe_one (pe_chain op_lt op_lt pe_int (pv 4) pe_int)))))
      (pss_cons (ps_set (i := 6) scRt.nd rfl (Or.inl rfl) (pe_lst (pa_cons (LamX.pe_lamcall (k := 9) (T := T) (t := fun E => tMakeK CK 1 1 (spKeep K CK CSt CSi CP BC BP) (fun vs zs => vs ++ zs) E (tCons (tVar 2) tNil) (tCons (tVar 4) tNil)) rfl D.mC D.kC (by rw [← efd]; exact lkC) hcdC (by rw [← efd]; exact D.bC) scCaught rfl (.inl rfl)
            (caught_gives D.h1 D.h2 D.h6) TB (by show cdv = _; rw [← ec]; exact hcode) hmT hu hr (LamX.lamS_by (sc := defScope s__law_right) (by decide +kernel)) rfl (fun _ _ _ _ _ => rfl)
            (fun A outer s H E f c' hrr => pe_makeK (n := 1) (ks := ["piece"]) D.KD.O.make D.gK (hrr.mono (by decide)) rfl D.KD.O.mgC kb1 (passes_call (takes_of rfl rfl rfl rfl) fun _ _ _ _ h => h) (pa_cons (pv 2) pa_nil) (pk_cons (pv 4) pk_nil))) pa_nil)))
      (pss_cons (ps_expr (pe_bm PySem.F.plainAttrs_list PySem.F.slot_list_append PySem.F.type_list_append mt_append (pv 6) (pa_cons (LamX.pe_lamcall (k := 9) (T := T) (t := fun E => tMakeK CK 0 2 (spKeep K CK CSt CSi CP BC BP) (fun vs zs => vs ++ zs.reverse) E tNil (tCons (tVar 4) (tCons (tVar 2) tNil))) rfl D.mC D.kC (by rw [← efd]; exact lkC) hcdC (by rw [← efd]; exact D.bC) scCaught rfl (.inl rfl)
            (caught_gives D.h1 D.h2 D.h6) TB (by show cdv = _; rw [← ec]; exact hcode) hmT hu hr (LamX.lamS_by (sc := defScope s__law_right) (by decide +kernel)) rfl (fun _ _ _ _ _ => rfl)
            (fun A outer s H E f c' hrr => pe_makeK0 (ks := ["piece", "copies"]) D.KD.O.make D.gK (hrr.mono (by decide)) rfl D.KD.O.mgC kb2 (passes_call (takes_of rfl rfl rfl rfl) fun _ _ _ _ h => h) (pk_cons (pv 4) (pk_cons (pv 2) pk_nil)))) pa_nil)))
      (pss_cons (ps_if (pt_not (pt_val (pe_call D.gL hr3 rfl D.mL D.kL D.bL .nil pass0 (pa_cons (pv 2) pa_nil)))) (pss_one (ps_ret (pe_cmpR op_eq (pe_callB (call_reprD (B := fun b => b = l) hgd hr.units hbs) (by rfl) T0.repr (by decide +kernel) (pa_cons (pv 6) pa_nil))
            (pe_callB (call_reprD (B := fun b => b = l) hgd hr.units hbs) (by rfl) T0.repr (by decide +kernel) (pa_cons (pe_op op_rep (pe_lst (pa_cons (pe_tup (pa_cons pe_str (pa_cons (pv 2) pa_nil))) pa_nil)) pe_int) pa_nil)) (nomark _)))) pss_nil)
      (pss_cons (ps_if (pt_not (pt_val (pv 5))) (pss_one (ps_ret (pe_cmpR op_eq (pe_callB (call_reprD (B := fun b => b = l) hgd hr.units hbs) (by rfl) T0.repr (by decide +kernel) (pa_cons (pv 6) pa_nil))
            (pe_callB (call_reprD (B := fun b => b = l) hgd hr.units hbs) (by rfl) T0.repr (by decide +kernel) (pa_cons (pe_op op_rep (pe_lst (pa_cons (pe_tup (pa_cons pe_str (pa_cons (pv 4) pa_nil))) pa_nil)) pe_int) pa_nil)) (nomark _)))) pss_nil)
      (pss_cons (ps_for PassesOwn.leaving rfl (pi_list (pe_op op_cat (pv 6) (pe_lst (pa_cons (LamX.pe_lamcall (k := 9) (T := T) (t := fun E => tMake CK (spKeep K CK CSt CSi CP BC BP) [.int 4] E (tCons (tVar 2) tNil)) rfl D.mC D.kC (by rw [← efd]; exact lkC) hcdC (by rw [← efd]; exact D.bC) scCaught rfl (.inl rfl)
            (caught_gives D.h1 D.h2 D.h6) TB (by show cdv = _; rw [← ec]; exact hcode) hmT hu hr (LamX.lamS_by (sc := defScope s__law_right) (by decide +kernel)) rfl (fun _ _ _ _ _ => rfl)
            (fun A outer s H E f c' hrr => pe_make D.KD.O.make D.gK (hrr.mono (by decide)) rfl D.KD.O.mgC b0 rs0 (passes_call (takes_of rfl rfl rfl rfl) fun _ _ _ _ h => h) (pa_cons (pv 2) pa_nil))) pa_nil))))
          (pg_tup rfl (pgs_cons (pg_name (i := 7) scRt.nd rfl (Or.inl rfl)) (pgs_cons (pg_name (i := 8) scRt.nd rfl (Or.inl rfl)) pgs_nil)))
          (pss_cons (ps_if (PW.pt (pw_or (pt_cmpR op_ne (pv 7) pe_str (nomark _)) (pw_or (pt_cmpR (r := rNeD K) (op_neD hun) (pe_fld (pv 8) rfl) (pv 2) (nomark _)) (pw_or1 (pt_cmpR (r := rIn K true) op_notIn_seq (pe_fld (pv 8) rfl) (pe_tup (pa_cons (pv 4) (pa_cons pe_int pa_nil))) (by with_unfolding_all rfl)))))) (pss_one (ps_ret pe_bl)) pss_nil)
          (pss_one (ps_if (pt_cmpR (r := rNeD K) (op_neD hun) (pe_lst (pa_cons (pe_fld (pv 8) rfl) (pa_cons (pe_fld (pv 8) rfl) (pa_cons (pe_fld (pv 8) rfl) (pa_cons (pe_meth0 (pv 8) D.KD.O.cl D.oG D.gG hr1 D.bG .nil pass0) pa_nil)))))
              (pe_lst (pa_cons pe_int (pa_cons (pe_tup pa_nil) (pa_cons (pe_tup pa_nil) (pa_cons (pe_tup pa_nil) pa_nil))))) (nomark _)) (pss_one (ps_ret pe_bl)) pss_nil))))
      (pss_one (ps_ret (pe_and (pe_cmpR (r := rEqD K) (op_eqD hun) (pe_lc (own := [("_law_word", 7), ("_law_keeper", 8)]) (g := gTup K 2 (gCons (gName 7) (gCons (gName 8) gNil))) (tt := tYes) (te := tFld K (tVar 8) "piece") rfl scRt.nd (pi_list (pv 6)) (blkOk_by (own := [("_law_word", 7), ("_law_keeper", 8)]) (N := nRt) (sc := defScope s__law_right) (by decide +kernel))
            (fun _ _ _ _ _ => pg_tup rfl (pgs_cons (pg_name (i := 7) scRt.nd rfl (Or.inl rfl)) (pgs_cons (pg_name (i := 8) scRt.nd rfl (Or.inl rfl)) pgs_nil))) (fun _ _ _ _ _ => pts_nil) (fun _ _ _ _ _ => pe_fld (pv 8) rfl)) (pe_lst (pa_cons (pv 4) (pa_cons (pv 4) pa_nil))) (nomark _))
          (pe_one (pe_cmpR op_eq (pe_fld (pe_make D.KD.O.make D.gK hr9 rfl D.KD.O.mgC b0 rs0 (E := E0) (fun _ _ _ _ _ _ _ c => (noCX c).elim) (pa_cons (pv 2) pa_nil)) rfl) pe_int (nomark _))))))))))))))), ?_⟩
    refine ⟨_, rfl, l, n, rfl, hp, by omega, fun H1 a rs x1 p1 hR h1 h7 hok hg => ?_⟩
    refine ⟨_, rfl, _, rfl, l, a, n + 50, rs, rfl, p1, by omega, hR, h1, h7, hok, hg, fun H2 v d x2 p2 hV => ?_⟩
    refine ⟨_, rfl, l, 64, _, rfl, p2, by omega, by decide, by decide, fun H3 r x3 p3 r0 r64 => ?_⟩
    refine ⟨1, r, rfl, rfl, ?_⟩
    have c3 : Cnd (fun b => b = l) (Same H3) := ⟨fun a b => a.trans b, fun {H'} s b e q => by
      obtain ⟨_, _, _, z, _⟩ := p3
      rw [e, s _ _ z] at q
      cases q⟩
    refine some_read c3 H3 _ (Same.refl H3) fun H4 vs4 s4 hl4 hi4 => ?_
    refine ⟨by simp only [List.length_cons, hl4]; decide, fun q0 hq0 => ?_⟩
    have iI : ∀ {H' : Hp} {i : Int}, i.natAbs < 10 ^ 40 → I0 (fun b => b = l) H' (.int i) := fun {H' i} h => ⟨.int i, .int i, Rm.int h⟩
    have it4 : ∀ x ∈ V.int 1 :: V.int 2 :: V.int 4 :: V.int 63 :: V.int 64 :: V.int (1 + r) :: vs4, I0 (fun b => b = l) H4 x := fun x m => by
      rcases List.mem_cons.mp m with rfl | m
      · exact iI (by decide +kernel)
      rcases List.mem_cons.mp m with rfl | m
      · exact iI (by decide +kernel)
      rcases List.mem_cons.mp m with rfl | m
      · exact iI (by decide +kernel)
      rcases List.mem_cons.mp m with rfl | m
      · exact iI (by decide +kernel)
      rcases List.mem_cons.mp m with rfl | m
      · exact iI (by decide +kernel)
      rcases List.mem_cons.mp m with rfl | m
      · exact iI (Nat.lt_of_le_of_lt (by omega : (1 + r).natAbs ≤ 64) (by decide +kernel))
      · exact hi4 x m
    have ln4 : (V.int 1 :: V.int 2 :: V.int 4 :: V.int 63 :: V.int 64 :: V.int (1 + r) :: vs4).length = 17 := by simp only [List.length_cons, hl4]
    have s5 := Same.upd (o := .lst (V.int 1 :: V.int 2 :: V.int 4 :: V.int 63 :: V.int 64 :: V.int (1 + r) :: vs4)) hq0
    have e5 : (L2.upd H4 q0 (.lst (V.int 1 :: V.int 2 :: V.int 4 :: V.int 63 :: V.int 64 :: V.int (1 + r) :: vs4))) q0 = some (.lst (V.int 1 :: V.int 2 :: V.int 4 :: V.int 63 :: V.int 64 :: V.int (1 + r) :: vs4)) := upd_same
    generalize V.int 1 :: V.int 2 :: V.int 4 :: V.int 63 :: V.int 64 :: V.int (1 + r) :: vs4 = xs5 at *
    have p4 := p3.same s4
    have nq0 : q0 ≠ l := fun e => by
      obtain ⟨_, _, _, z, _⟩ := p4
      rw [e, z] at hq0
      cases hq0
    have p5 := p4.same s5
    generalize L2.upd H4 q0 (.lst xs5) = H5 at *
    refine ⟨_, rfl, _, rfl, l, _, .ref q0, rfl, p5, by omega, .inl ⟨q0, _, rfl, nq0, e5, by rw [ln4]; decide, by rw [ln4]; decide, fun H6 u x6 p6 mu => ?_⟩⟩
    obtain ⟨du, ud, um⟩ := it4 u mu
    have kb35 : KeepB (fun b => b = l) H4 H5 := Same.kb s5
    have kb6 : KeepB (fun b => b = l) H5 H6 := SameX.kb x6 rfl
    have kb3 : KeepB (fun b => b = l) H2 H5 := (SameX.kb (B := fun b => b = l) x3 rfl).trans ((Same.kb s4).trans kb35)
    have ud6 := ud.go (kb35.trans kb6)
    have hV6 : VOk (fun b => b = l) H6 v d := (hV.go kb3 p2.lst).go kb6 p5.lst
    have kbA : KeepB (fun b => b = l) H H6 := (SameX.kb (B := fun b => b = l) x1 rfl).trans ((SameX.kb (B := fun b => b = l) x2 rfl).trans (kb3.trans kb6))
    obtain ⟨c, hcc⟩ : ∃ c : Bool, (∃ i, u = .int i ∧ c = (decide (1 ≤ i) && decide (i ≤ 64))) ∨ ((∀ i, u ≠ .int i) ∧ c = false) := by
      by_cases ei : ∃ i, u = .int i
      · obtain ⟨i, rfl⟩ := ei
        exact ⟨_, .inl ⟨i, rfl, rfl⟩⟩
      · exact ⟨false, .inr ⟨fun i e => ei ⟨i, e⟩, rfl⟩⟩
    have T6 : LamX.Tabs T H6 := tabs_lx hT hp (x1.trans (x2.trans ((x3.trans (Same.x s4 l)).trans ((Same.x s5 l).trans x6))))
    have R6 : RtS T l _ H6 v u d du c := ⟨p6, T6, hV6, ud6, um, hcc⟩
    refine unit_is rfl ud6 hcc ?_
    refine lam1 D.exm rfl rfl R6 fun H7 w1 k7 R7 o7 => ?_
    refine ⟨(by show 1 ≤ sizeLine; decide), fun q1 hq1 => ?_⟩
    have s8 := Same.upd (o := .lst [.ref w1]) hq1
    have e8 : (L2.upd H7 q1 (.lst [.ref w1])) q1 = some (.lst [.ref w1]) := upd_same
    have k78 : KX H7 (L2.upd H7 q1 (.lst [.ref w1])) := Same.kx s8
    generalize L2.upd H7 q1 (.lst [.ref w1]) = H8 at s8 e8 k78
    have R8 := R7.kx k78 (R7.tabs.ext s8)
    refine ⟨_, rfl, .inl ⟨rfl, _, lstAt e8⟩, lam2 D.exm rfl rfl R8 fun H9 w2 k9 R9 o9 => ?_⟩
    have e9 := k9 _ _ (fun _ z => by cases z) e8
    refine ⟨q1, _, _, rfl, rfl, e9, (by show 1 < sizeLine; decide), ?_⟩
    have kU : KX H7 (L2.upd H9 q1 (.lst ([.ref w1] ++ [.ref w2]))) := KX.updF (k78.trans k9) hq1
    have eU : (L2.upd H9 q1 (.lst ([.ref w1] ++ [.ref w2]))) q1 = some (.lst [.ref w1, .ref w2]) := upd_same
    have yU : KY H9 (L2.upd H9 q1 (.lst ([.ref w1] ++ [.ref w2]))) := KY.upd e9
    have tU : LamX.Tabs T (L2.upd H9 q1 (.lst ([.ref w1] ++ [.ref w2]))) := tabs_upd R9.tabs e9
    generalize L2.upd H9 q1 (.lst ([.ref w1] ++ [.ref w2])) = H10 at kU eU yU tU
    have R10 := R7.kx kU tU
    have o7 := o7.kx kU
    have o9 := o9.ky yU
    have kbB : KeepB (fun b => b = l) H H10 := kbA.trans (KX.kb (k7.trans kU))
    refine ⟨_, rfl, v, cpD d, rfl, R10.val.cp, fun H11 s11 => ⟨_, rfl, ?_⟩⟩
    have R11 := R10.kx (Same.kx s11) (R10.tabs.ext s11)
    have o7 := o7.kx (Same.kx s11)
    have o9 := o9.kx (Same.kx s11)
    have e11 := s11 _ _ eU
    have fin : ∀ H', Same H11 H' → Q (.bl true) H' := fun H' s' => h H' (kbB.trans ((Same.kb s11).trans (Same.kb s'))) ((R11.pot.same s').mono (by omega)) (R11.tabs.ext s')
    cases hb : areO (cpD d) with
    | false =>
      rw [hb] at o7 o9
      exact iteT (twice_end rfl rfl R11.pot e11 o7.badC o9.badC R11.val.dr R11.val.rm (by decide) (by decide +kernel) fin)
    | true =>
    rw [hb] at o7 o9
    refine iteF ?_
    refine ⟨_, rfl, _, rfl, ?_⟩
    cases c with
    | false => exact iteT (twice_end rfl rfl R11.pot e11 o7.badP o9.badP R11.un R11.rm (by decide) (by decide +kernel) fin)
    | true =>
    refine iteF ?_
    obtain ⟨ui, rfl⟩ : ∃ i, u = .int i := by
      rcases hcc with ⟨i, e, _⟩ | ⟨_, e⟩
      · exact ⟨i, e⟩
      · cases e
    refine ⟨_, rfl, lam3 D.exm rfl R11 fun H12 w3 k12 R12 o12 => ⟨(by show 1 ≤ sizeLine; decide), fun q2 hq2 => ?_⟩⟩
    have s13 := Same.upd (o := .lst [.ref w3]) hq2
    have e13 : (L2.upd H12 q2 (.lst [.ref w3])) q2 = some (.lst [.ref w3]) := upd_same
    generalize L2.upd H12 q2 (.lst [.ref w3]) = H13 at s13 e13
    have e12 := k12 _ _ (fun _ z => by cases z) e11
    refine ⟨q1, q2, _, _, rfl, rfl, s13 _ _ e12, e13, (by show 3 ≤ sizeLine; decide), fun q3 hq3 => ?_⟩
    have s14 := Same.upd (o := .lst ([.ref w1, .ref w2] ++ [.ref w3])) hq3
    have e14 : (L2.upd H13 q3 (.lst ([.ref w1, .ref w2] ++ [.ref w3]))) q3 = some (.lst [.ref w1, .ref w2, .ref w3]) := upd_same
    generalize L2.upd H13 q3 (.lst ([.ref w1, .ref w2] ++ [.ref w3])) = H14 at s14 e14
    have s1214 := s13.trans s14
    have R14 := R12.kx (Same.kx s1214) (R12.tabs.ext s1214)
    rw [hb] at o12
    have k1114 : KX H11 H14 := k12.trans (Same.kx s1214)
    obtain ⟨y1, a1, rs1, v1, f1, g1'⟩ := (o7.kx k1114).good
    obtain ⟨y2, a2, rs2, v2, f2, g2'⟩ := (o9.kx k1114).good
    obtain ⟨y3, a3, rs3, v3, f3, g3'⟩ := (o12.kx (Same.kx s1214)).good
    have kbE : KeepB (fun b => b = l) H H14 := kbB.trans ((Same.kb s11).trans (KX.kb k1114))
    have fin2 : ∀ H', Same H14 H' → Q (.bl true) H' := fun H' s' => h H' (kbE.trans (Same.kb s')) ((R14.pot.same s').mono (by omega)) (R14.tabs.ext s')
    have q14 := s1214 _ _ e12
    have good : ∀ x ∈ [V.ref w1, V.ref w2, V.ref w3], ∃ (w y a : Addr) (rs : List Cp) (j : Int), x = .ref w ∧ v = .ref a ∧ H14 w = some (.tup [.str "told", .ref y]) ∧ KAt CK CSt CSi CP H14 y rs a (.int j) 0 0 [] ∧ (j = ui ∨ j = 4) := fun x m => by
      rcases List.mem_cons.mp m with rfl | m
      · exact ⟨w1, y1, a1, rs1, ui, rfl, v1, f1, g1', .inl rfl⟩
      rcases List.mem_cons.mp m with rfl | m
      · exact ⟨w2, y2, a2, rs2, ui, rfl, v2, f2, g2', .inl rfl⟩
      · rw [List.mem_singleton.mp m]
        exact ⟨w3, y3, a3, rs3, 4, rfl, v3, f3, g3', .inr rfl⟩
    obtain ⟨os, eos⟩ : ∃ os, cpD d = some os := by
      cases e : cpD d with
      | none => rw [e] at hb; cases hb
      | some os => exact ⟨os, rfl⟩
    have hb2 : areB os = true := by rw [eos] at hb; exact hb
    unfold areB at hb2
    obtain ⟨z1, z2⟩ := Bool.and_eq_true_iff.mp hb2
    obtain ⟨z3, z4⟩ := Bool.and_eq_true_iff.mp z2
    have z5 := (Bool.and_eq_true_iff.mp z4).1
    have z6 := of_decide_eq_true (Bool.and_eq_true_iff.mp z1).1
    have rok := cp_rows eos
    have rows : ∀ {H' : Hp} {a : Addr}, Same H14 H' → v = .ref a → RowsAt H' a (rowsOf os) := fun s' e => (R14.kx (Same.kx s') (R14.tabs.ext s')).val.rows _ _ e eos z3 z5 z6
    refine ⟨q3, rfl, ⟨_, SqL.of e14⟩, for_it (walk_list (K := K) (a := q3) (xs := [V.ref w1, V.ref w2, V.ref w3])) (fun i σ H' => ∃ (x7 x8 : Option V), σ = [some (.ref l), some (.ref a), some v, some (.ref q0), some (.int ui), some (.bl true), some (.ref q1), x7, x8] ∧ Same H14 H')
      ⟨none, none, rfl, Same.refl _⟩ (fun i σ H' _ ⟨_, _, _, s'⟩ => SqL.of (s' _ _ e14)) ?_ ?_⟩
    · rintro i x σ Ho H15 hi ⟨x7, x8, rfl, s15⟩ y
      obtain ⟨rfl, hx⟩ := y
      obtain ⟨w, y, a', rs', j, rfl, va, fw, kw, hj⟩ := good x (List.mem_of_getElem? hx)
      refine ⟨w, _, rfl, tupAt (s15 _ _ fw), rfl, _, _, rfl, _, _, rfl, rfl, ?_⟩
      have kw15 := kw.kx (Same.kx s15)
      obtain ⟨dk, s0, ta, tb, fs, z, hk, hl, hh, hS, ht', hu', hnm, h1', h2'⟩ := kw15.ex
      have dpv := dp_at (K := K) (rows s15 va)
      refine ⟨_, rfl, rfl, _, rfl, ?_⟩
      refine iteF ?_
      refine ⟨_, rfl, y, CK, dk, fs, _, rfl, hk, D.KD.O.cl, D.KD.O.no _ (by decide), hh.at_ 4 rfl, _, rfl, .tuple ((rowsOf os).map rowD), .tuple ((rowsOf os).map rowD), dpv, by rw [va]; exact dpv, shaped_rows rok, shaped_rows rok, _, rfl, ?_⟩
      rw [eqv_rows rok]
      refine iteF ?_
      refine ⟨_, rfl, y, CK, dk, fs, _, rfl, hk, D.KD.O.cl, D.KD.O.no _ (by decide), hh.at_ 5 rfl, _, rfl, (by show 2 ≤ sizeLine; decide), fun pt hpt => ⟨pt, _, rfl, .inr (tupAt upd_same), rfl, rfl, _, rfl, ?_⟩⟩
      show if (!inV (.int j) [.int ui, .int 4]) = true then _ else _
      have ein : inV (.int j) [.int ui, .int 4] = true := by
        rw [show [V.int ui, V.int 4] = [ui, 4].map V.int from rfl, inV_int]
        refine decide_eq_true ?_
        rcases hj with rfl | rfl
        · exact List.mem_cons_self
        · exact List.mem_cons_of_mem _ List.mem_cons_self
      rw [ein]
      refine iteF ?_
      have st := Same.upd (o := .tup [.int ui, .int 4]) hpt
      generalize L2.upd H15 pt (.tup [.int ui, .int 4]) = H16 at st
      have hk6 := st _ _ hk
      refine ⟨_, rfl, y, CK, dk, fs, _, rfl, hk6, D.KD.O.cl, D.KD.O.no _ (by decide), hh.at_ 2 rfl, ?_⟩
      refine ⟨_, rfl, y, CK, dk, fs, _, rfl, hk6, D.KD.O.cl, D.KD.O.no _ (by decide), hh.at_ 0 rfl, ?_⟩
      refine ⟨_, rfl, y, CK, dk, fs, _, rfl, hk6, D.KD.O.cl, D.KD.O.no _ (by decide), hh.at_ 1 rfl, ?_⟩
      refine ⟨_, rfl, y, dk, fs, rfl, hk6, hnm _ (by decide), y, a', rs', _, 0, 0, [], rfl, kw15.kx (Same.kx st), fun H17 pg sg ng eg => ?_⟩
      refine ⟨(by show 4 ≤ sizeLine; decide), fun q5 hq5 => ?_⟩
      have s18 := Same.upd (o := .lst [.int 0, .ref tb, .ref ta, .ref pg]) hq5
      have e18 : (L2.upd H17 q5 (.lst [.int 0, .ref tb, .ref ta, .ref pg])) q5 = some (.lst [.int 0, .ref tb, .ref ta, .ref pg]) := upd_same
      generalize L2.upd H17 q5 (.lst [.int 0, .ref tb, .ref ta, .ref pg]) = H18 at s18 e18
      refine ⟨(by show 0 ≤ sizeLine; decide), fun b1 hb1 => ?_⟩
      have u1 := Same.upd (o := .tup []) hb1
      have ub1 : (L2.upd H18 b1 (.tup [])) b1 = some (.tup []) := upd_same
      generalize L2.upd H18 b1 (.tup []) = H19 at u1 ub1
      refine ⟨(by show 0 ≤ sizeLine; decide), fun b2 hb2' => ?_⟩
      have u2 := Same.upd (o := .tup []) hb2'
      have ub2 : (L2.upd H19 b2 (.tup [])) b2 = some (.tup []) := upd_same
      generalize L2.upd H19 b2 (.tup []) = H20 at u2 ub2
      refine ⟨(by show 0 ≤ sizeLine; decide), fun b3 hb3 => ?_⟩
      have u3 := Same.upd (o := .tup []) hb3
      have ub3 : (L2.upd H20 b3 (.tup [])) b3 = some (.tup []) := upd_same
      generalize L2.upd H20 b3 (.tup []) = H21 at u3 ub3
      refine ⟨(by show 4 ≤ sizeLine; decide), fun q6 hq6 => ?_⟩
      have u4 := Same.upd (o := .lst [.int 0, .ref b1, .ref b2, .ref b3]) hq6
      have uq6 : (L2.upd H21 q6 (.lst [.int 0, .ref b1, .ref b2, .ref b3])) q6 = some (.lst [.int 0, .ref b1, .ref b2, .ref b3]) := upd_same
      generalize L2.upd H21 q6 (.lst [.int 0, .ref b1, .ref b2, .ref b3]) = H22 at u4 uq6
      have su := u1.trans (u2.trans (u3.trans u4))
      have sa := sg.trans (s18.trans su)
      have emp : ∀ {q : Addr}, H22 q = some (.tup []) → Dp K H22 (.ref q) (.tuple []) := fun e => .tup (tupAt e) .nil
      refine ⟨.list [.int 0, .tuple [], .tuple [], .tuple []], .list [.int 0, .tuple [], .tuple [], .tuple []],
        .lst (SqL.of (su _ _ e18)) (.cons (.int 0) (.cons (emp (sa _ _ (st _ _ h2'))) (.cons (emp (sa _ _ (st _ _ h1'))) (.cons (emp ((s18.trans su) _ _ eg)) .nil)))),
        .lst (SqL.of uq6) (.cons (.int 0) (.cons (emp ((u2.trans (u3.trans u4)) _ _ ub1)) (.cons (emp ((u3.trans u4) _ _ ub2)) (.cons (emp (u4 _ _ ub3)) .nil)))), by decide +kernel, by decide +kernel, _, rfl, ?_⟩
      rw [show PyData.eqv (.list [.int 0, .tuple [], .tuple [], .tuple []]) (.list [.int 0, .tuple [], .tuple [], .tuple []]) = true from by decide +kernel]
      refine iteF ?_
      exact ⟨_, _, rfl, (s15.trans st).trans sa⟩
    · rintro σ H15 ⟨x7, x8, rfl, s15⟩
      have f1' := s15 _ _ f1
      have f2' := s15 _ _ f2
      have q15 := s15 _ _ q14
      have kk1 := g1'.kx (Same.kx s15)
      have kk2 := g2'.kx (Same.kx s15)
      have good2 : ∀ x ∈ [V.ref w1, V.ref w2], ∃ (w y a : Addr) (rs : List Cp), x = .ref w ∧ H15 w = some (.tup [.str "told", .ref y]) ∧ KAt CK CSt CSi CP H15 y rs a (.int ui) 0 0 [] := fun x m => by
        rcases List.mem_cons.mp m with rfl | m
        · exact ⟨w1, y1, a1, rs1, rfl, f1', kk1⟩
        · rw [List.mem_singleton.mp m]
          exact ⟨w2, y2, a2, rs2, rfl, f2', kk2⟩
      refine ⟨_, rfl, q1, rfl, ⟨_, SqL.of q15⟩, fun D3 hD3 => lc_it (walk_list (K := K) (a := q1) (xs := [V.ref w1, V.ref w2])) (fun j H' => Same H15 H' ∧ H' D3 = some (.lst (List.replicate j (V.int ui)))) ⟨Same.upd hD3, upd_same⟩ (fun j H' _ pv => SqL.of (pv.1 _ _ q15)) (fun j x H8o H8 hj pv y => ?_) (fun H16 pv => ?_)⟩
      · obtain ⟨s8, e8⟩ := pv
        obtain ⟨rfl, hx⟩ := y
        obtain ⟨w, y, a', rs', rfl, fw, kw⟩ := good2 x (List.mem_of_getElem? hx)
        obtain ⟨dk, s0, ta, tb, fs, z, hk, hl, hh, hS, ht', hu', hnm, h1', h2'⟩ := (kw.kx (Same.kx s8)).ex
        refine ⟨w, _, rfl, tupAt (s8 _ _ fw), rfl, _, _, rfl, _, _, rfl, rfl, rfl, ?_⟩
        refine iteT (B := Same H15 H8 ∧ H8 D3 = some (.lst (List.replicate (j + 1) (V.int ui)))) ?_
        refine ⟨_, rfl, y, CK, dk, fs, _, rfl, hk, D.KD.O.cl, D.KD.O.no _ (by decide), hh.at_ 5 rfl, _, e8, (by rw [List.length_replicate]; exact Nat.lt_trans (show j < 2 from hj) (by decide)), ?_, ?_⟩
        · exact fun b o eb => by
            rw [upd_ne (ne_of_none eb hD3)]
            exact s8 b o eb
        · rw [upd_same, List.replicate_succ']
      · obtain ⟨s16, e16⟩ := pv
        refine ⟨_, rfl, _, rfl, (by show 2 ≤ sizeLine; decide), fun q7 hq7 => ?_⟩
        have s17 := Same.upd (o := .lst [.int ui, .int ui]) hq7
        have e17 : (L2.upd H16 q7 (.lst [.int ui, .int ui])) q7 = some (.lst [.int ui, .int ui]) := upd_same
        generalize L2.upd H16 q7 (.lst [.int ui, .int ui]) = H17 at s17 e17
        have sE := (s15.trans s16).trans s17
        have R17 := R14.kx (Same.kx sE) (R14.tabs.ext sE)
        refine ⟨.list [.int ui, .int ui], .list [.int ui, .int ui], .lst (SqL.of (s17 _ _ e16)) (.cons (.int _) (.cons (.int _) .nil)), .lst (SqL.of e17) (.cons (.int _) (.cons (.int _) .nil)), by simp [SeqAt.shaped, PyData.canLay0, PyData.canLayAll0, PyData.depth, PyData.depthAll], by simp [SeqAt.shaped, PyData.canLay0, PyData.canLayAll0, PyData.depth, PyData.depthAll], _, rfl, ?_⟩
        rw [show PyData.eqv (.list [.int ui, .int ui]) (.list [.int ui, .int ui]) = true from by simp [PyData.eqv, PyData.eqvAll]]
        refine iteT ?_
        refine ⟨_, rfl, fun x dx hx hdx ne => keep_good hb hx hdx ne R17.val.cp fun H18 a4 rs4 k18 s18 kA => ?_⟩
        obtain ⟨dk, s0, ta, tb, fs, z, hk, hl, hh, hS, ht', hu', hnm, h1', h2'⟩ := kA.ex
        refine ⟨x, CK, dk, fs, _, rfl, hk, D.KD.O.cl, D.KD.O.no _ (by decide), hh.at_ 5 rfl, rfl, ?_⟩
        rw [decide_eq_true rfl]
        exact fin2 _ (sE.trans s18)
end
end Sps
set_option Elab.async false
set_option linter.all false
set_option maxRecDepth 100000
set_option maxHeartbeats 4000000
/-! law. -/
namespace Sps
open PySem PySem.Spec PyProof.Rows L2
section
variable {P : Program} {w : World} {K : PySem.W.Frag} {mg : Str → Option Value} {base : Heap}
def spLaw (K : PySem.W.Frag) (T : List (Addr × Str)) : Sp := fun vs H Q _ => ∃ (a : Addr) (ns : List Int), vs = [.ref a] ∧ SqL K H a (ns.map V.int) ∧ ns.length ≤ 63 ∧ LamX.Tabs T H ∧ ∀ H', Q (.bl true) H'
abbrev nLw : List Str := ["_law_script", "_law_k", "_law_pot_here", "_law_turn"]
theorem scLw : FnScope nLw ["_law_script"] (defScope s_law) := ⟨rfl, rfl, rfl, by decide +kernel, rfl, by decide +kernel, by decide +kernel⟩
theorem trues_all (n : Nat) : (List.replicate n true).all id = true := by
  induction n with
  | zero => rfl
  | succ n ih => rw [List.replicate_succ, List.all_cons, ih]; rfl
theorem ok_law {f g gP : Addr} {fd fdG fdP : FuncData} {T : List (Addr × Str)} (F : Fun K "law" "law" s_law f fd) (T0 : Names mg) (G : FnG P w K mg base 12 g fdG ["_law_pot_here"] (spRight T)) (mgG : mg "_law_right" = some (.ref g)) (kG : PySem.W.keepIn K (.ref g) = true) (bG : Binds K fdG ["_law_pot_here"] [])
    (O : FnOk P w K mg base CX0 2 gP fdP ["_law_script", "_law_k"] (spPot K)) (mgO : mg "_law_pot" = some (.ref gP)) (kO : PySem.W.keepIn K (.ref gP) = true) (bO : Binds K fdP ["_law_script", "_law_k"] []) :
    FnG P w K mg base 13 f fd ["_law_script"] (spLaw K T) := by
  refine fnG_of F scLw (fun vs H Q E h => ?_) (fun cdv ec Ar outer s H vs Q E hr hgd h => ?_)
  · obtain ⟨_, _, rfl, _⟩ := h
    rfl
  · obtain ⟨a, ns, rfl, ha, hlen, hTb, k⟩ := h
    have h1 : Room 2 _ := hr.mono (by decide)
    refine ⟨_, pss_cons (ps_for PassesOwn.leaving rfl (pi_range1 rfl T0.range (pa_cons (pe_callB (call_max2 rfl) (by rfl) T0.max (by decide +kernel) (pa_cons pe_int (pa_cons (pe_callB (call_min2 rfl) (by rfl) T0.min (by decide +kernel)
          (pa_cons pe_int (pa_cons (pe_callB call_len_seq (by rfl) T0.len PySem.boot_len (pa_cons (pv 0) pa_nil)) pa_nil))) pa_nil))) pa_nil)) (pg_name (i := 1) scLw.nd rfl (Or.inl rfl))
        (pss_cons (ps_set (i := 2) scLw.nd rfl (Or.inr rfl) (pe_call O h1 rfl mgO kO bO .nil pass0 (pa_cons (pv 0) (pa_cons (pv 1) pa_nil))))
        (pss_one (ps_if (pt_not (pt_val (pe_callB (cr_all rfl) (by rfl) T0.all (by decide +kernel) (pa_cons (pe_lc (own := [("_law_turn", 3)]) (g := gName 3) (tt := tYes) (te := tCall (spRight T) [] E0 (tCons (tVar 2) tNil)) rfl scLw.nd (pi_range1 rfl T0.range (pa_cons pe_int pa_nil)) (blkOk_by (own := [("_law_turn", 3)]) (N := nLw) (sc := defScope s_law) (by decide +kernel))
            (fun _ _ _ _ _ => pg_name (i := 3) scLw.nd rfl (Or.inl rfl)) (fun _ _ _ _ _ => pts_nil) (fun _ _ _ _ _ => pe_callG G hr hgd rfl mgG kG bG (pa_cons (pv 2) pa_nil))) pa_nil)))) (pss_one (ps_ret pe_bl)) pss_nil))))
      (pss_one (ps_ret pe_bl)), ?_⟩
    refine ⟨_, rfl, _, _, rfl, .inl ha, _, _, rfl, _, _, rfl, ?_⟩
    generalize hm : (if (if (((ns.map V.int).length : Nat) : Int) < 3 then (((ns.map V.int).length : Nat) : Int) else 3) > 1 then (if (((ns.map V.int).length : Nat) : Int) < 3 then (((ns.map V.int).length : Nat) : Int) else 3) else 1) = m
    have m0 : 1 ≤ m ∧ m ≤ 3 := by
      rw [← hm]
      split <;> split <;> omega
    have kseq : ∀ {H0 H1 H2 : Hp} {B : Addr → Prop}, SqL K H0 a (ns.map V.int) → Same H0 H1 → (∀ b, B b → H0 b = none) → KeepB B H1 H2 → SqL K H2 a (ns.map V.int) := by
      rintro H0 H1 H2 B hq s hl kb
      rcases hq with (e | ⟨o, e⟩) | e
      · exact .inl (.inl (kb _ _ (fun z => by rw [hl _ z] at e; cases e) (fun _ z => by cases z) (s _ _ e)))
      · exact .inl (.inr ⟨o, kb _ _ (fun z => by rw [hl _ z] at e; cases e) (fun _ z => by cases z) (s _ _ e)⟩)
      · exact .inr e
    refine ⟨m, rfl, by omega, by omega, for_range (lo := 0) (n := m.toNat) (fun i σ H' => ∃ x1 x2 : Option V, σ = [some (.ref a), x1, x2, none] ∧ SqL K H' a (ns.map V.int) ∧ LamX.Tabs T H') ⟨none, none, rfl, ha, hTb⟩ ?_ ?_⟩
    · rintro i σ H0 hi ⟨x1, x2, rfl, s0, t0⟩
      refine ⟨_, rfl, _, rfl, a, ns, 0 + (i : Int), rfl, s0, by omega, by omega, fun H1 l s1 hl hp => ?_⟩
      refine ⟨60, rfl, by decide, by decide, fun D hD => lc_it (walk_range (lo := 0) (n := (60 : Int).toNat)) (fun j H' => KeepB (fun b => b = l ∨ b = D) H1 H' ∧ PotOk (100 * (j : Nat)) H' l ∧ LamX.Tabs T H' ∧ H' D = some (.lst (List.replicate j (V.bl true)))) ?_ (fun _ _ _ _ => trivial) (fun j x H2o H2 hj pv y => ?_) (fun H2 pv => ?_)⟩
      · have sD := Same.upd (o := .lst []) hD
        exact ⟨Same.kb sD, (hp.same sD).mono (by omega), (t0.ext s1).ext sD, upd_same⟩
      · obtain ⟨kb, pt, tb, eD⟩ := pv
        obtain ⟨rfl, rfl⟩ := y
        have nlD : l ≠ D := fun e => by
          obtain ⟨_, _, _, z, _⟩ := hp
          rw [e, hD] at z
          cases z
        refine ⟨rfl, iteT (B := KeepB (fun b => b = l ∨ b = D) H1 H2 ∧ PotOk (100 * ((j + 1 : Nat) : Int)) H2 l ∧ LamX.Tabs T H2 ∧ H2 D = some (.lst (List.replicate (j + 1) (V.bl true)))) ?_⟩
        refine ⟨_, rfl, l, 100 * (j : Nat), rfl, pt, by have : j < 60 := hj; omega, tb, fun H3 k3 p3 t3 => ?_⟩
        have e3 := k3 _ _ (Ne.symm nlD) (fun _ z => by cases z) eD
        refine ⟨_, e3, by rw [List.length_replicate]; exact Nat.lt_trans (show j < 60 from hj) (by decide), fun b o nb nt e => ?_, ?_, tabs_upd t3 e3, by rw [upd_same, List.replicate_succ']⟩
        · rw [upd_ne fun z => nb (.inr z)]
          exact k3 _ _ (fun z => nb (.inl z)) nt (kb _ _ nb nt e)
        · obtain ⟨ia, im, ic, z, r⟩ := p3
          refine PotOk.mono ⟨ia, im, ic, by rw [upd_ne nlD]; exact z, r⟩ (by push_cast; omega)
      · obtain ⟨kb, pt, tb, eD⟩ := pv
        refine ⟨D, List.replicate 60 true, rfl, SqL.of (by rw [List.map_replicate]; exact eD), _, rfl, ?_⟩
        rw [trues_all]
        refine iteF ?_
        refine ⟨_, _, rfl, kseq s0 s1 (fun b hb => ?_) kb, tb⟩
        rcases hb with rfl | rfl
        · exact hl
        · exact s1.free hD
    · rintro σ H' ⟨x1, x2, rfl, s0⟩
      exact k H'
end
end Sps
set_option Elab.async false
set_option linter.all false
set_option maxRecDepth 100000
set_option maxHeartbeats 0
/-! All defs of the law together: from what the head tells. -/
namespace Sps
open PySem PySem.Spec PyProof.Rows L2
theorem funOf {K : PySem.W.Frag} {x q : Str} {st : Stmt} {f : Addr} {fd : FuncData} {kws : List (Str × V)} (F : FunD K x q (defArgs st) (defBody st) (defScope st) [] kws f fd) : Fun K x q st f fd := by
  obtain ⟨oc, od, dV, kV, doc, pm, an, cdv, ct, osl, e, lk, hc, hD, hK⟩ := F.ex
  rcases hD with ⟨_, rfl⟩ | ⟨y, _⟩
  · exact ⟨⟨oc, od, kV, doc, pm, an, cdv, ct, osl, e, lk, hc⟩, F.kp⟩
  · exact absurd rfl y
theorem codeD {K : PySem.W.Frag} {p : He.Defn} {x q : Str} {pa : Arguments} {bo : List Stmt} {sc : Scope} {ds : List V} {kws : List (Str × V)} {fd : FuncData} (F : FunD K x q pa bo sc ds kws (He.fAd K p) fd) : fd.code = .ref (He.codeOf K p) := by
  obtain ⟨oc, od, dV, kV, doc, pm, an, cdv, ct, osl, e, lk, hc, _, _⟩ := F.ex
  obtain ⟨c, rfl⟩ := He.codeIn_ref hc
  subst e
  rw [He.codeOf_eq lk rfl] <;> rfl
theorem exCls_ok {K : PySem.W.Frag} {C : Addr} (h : exClsB K C = true) : ∃ nm q N bs bm sn sub ab col dd k0 k1 k2 k3 k5, K.lookup C = some (excClassObj nm q C N bs bm true sn sub ab col dd k0 k1 k2 k3 k5 "ValueError.__new__") ∧ PySem.HandSPX.refsVE bm = true := by
  unfold exClsB at h
  split at h
  · rename_i c dd cd sl ho
    obtain ⟨hc, h2⟩ := Bool.and_eq_true_iff.mp h
    split at h2
    · rename_i D bm k0 k1 k2 k3 n k5 hm hs
      obtain ⟨h3, h2⟩ := Bool.and_eq_true_iff.mp h2
      obtain ⟨h4, h2⟩ := Bool.and_eq_true_iff.mp h2
      obtain ⟨h5, h2⟩ := Bool.and_eq_true_iff.mp h2
      obtain ⟨h6, h7⟩ := Bool.and_eq_true_iff.mp h2
      have e1 := of_decide_eq_true hc
      have e3 := of_decide_eq_true h3
      have e4 := of_decide_eq_true h4
      obtain ⟨nm, bs, mro, ns, qn, hd, sn, sub, ab, col, dl⟩ := cd
      dsimp only at hm h5 h6
      cases dl with
      | true => cases h5
      | false =>
        cases hd with
        | false => cases h6
        | true =>
          obtain ⟨l⟩ := sl
          simp only at hs
          subst hm hs e1 e3 e4
          exact ⟨nm, qn, ns, bs, bm, sn, sub, ab, col, dd, k0, k1, k2, k3, k5, ho, h7⟩
    · cases h2
  · cases h
theorem keB_ok {K : PySem.W.Frag} (h : keB K = true) : KeC K (He.ga K "KeeperError") := by
  obtain ⟨h1, h⟩ := Bool.and_eq_true_iff.mp h
  obtain ⟨h2, h⟩ := Bool.and_eq_true_iff.mp h
  obtain ⟨h3, h4⟩ := Bool.and_eq_true_iff.mp h
  refine ⟨of_decide_eq_true h1, of_decide_eq_true h2, h3, ?_⟩
  split at h4
  · rename_i v e
    rw [e, of_decide_eq_true h4]
  · cases h4
theorem errB_ok {K : PySem.W.Frag} {mg : Str → Option Value} {e : Str} (h : errB K e = true) (k : KeC K (He.ga K "KeeperError")) (mB : mg e = some (.ref (He.ga K e))) (mK : mg "KeeperError" = some (.ref (He.ga K "KeeperError"))) :
    BadC K mg e (He.ga K e) (He.ga K "KeeperError") (He.ma K (He.ga K e) "__init__") := by
  obtain ⟨h1, h⟩ := Bool.and_eq_true_iff.mp h
  obtain ⟨h2, h⟩ := Bool.and_eq_true_iff.mp h
  obtain ⟨h3, h⟩ := Bool.and_eq_true_iff.mp h
  obtain ⟨h4, h⟩ := Bool.and_eq_true_iff.mp h
  obtain ⟨h5, h⟩ := Bool.and_eq_true_iff.mp h
  obtain ⟨h6, h⟩ := Bool.and_eq_true_iff.mp h
  obtain ⟨h7, h8⟩ := Bool.and_eq_true_iff.mp h
  have X := xfB_ok h2
  exact ⟨⟨exCls_ok h1, of_decide_eq_true h3, X.exC, of_decide_eq_true h4, h5⟩, k, mB, mK, of_decide_eq_true h6, of_decide_eq_true h7, of_decide_eq_true h8, X⟩
theorem empB_ok {K : PySem.W.Frag} (h : empB K = true) : EmpK K (He.dflAt ("Steps", some "__init__") 0 K) := fun H => by
  unfold empB at h
  split at h
  · rename_i c od its n sl q
    obtain ⟨h1, h2⟩ := Bool.and_eq_true_iff.mp h
    have e1 := of_decide_eq_true h1
    have e2 := Array.isEmpty_iff.mp h2
    subst e1 e2
    exact .inr ⟨_, #[], n, q, rfl, rfl, Nat.zero_le _, .nil⟩
  · cases h
theorem bnd_keep {K : PySem.W.Frag} {f : Addr} {fd : FuncData} (F : FunD K "__init__" "Keeper.__init__" (defArgs s_Keeper___init__) (defBody s_Keeper___init__) (defScope s_Keeper___init__) [] [("piece", .int 4)] f fd) :
    ∃ ds, Vals [V.int 4] ds ∧ Binds K fd ["self", "copies", "piece"] ds :=
  FunD.binds0 (ps := ["self", "copies", "piece"]) F 2 (List.cons_ne_nil _ _) rfl fun D doc pm an cdv ct us ks l1 l2 => match us, l1, ks, l2 with
    | [_, _], _, [_], _ => ⟨_, _, _, _, _, _, rfl, rfl, rfl⟩
theorem bnd_steps {K : PySem.W.Frag} {f ea : Addr} {fd : FuncData} (F : FunD K "__init__" "Steps.__init__" (defArgs s_Steps___init__) (defBody s_Steps___init__) (defScope s_Steps___init__) [.ref ea] [] f fd) :
    ∃ ds, Vals [V.ref ea] ds ∧ Binds K fd ["self", "site", "rows", "extra"] ds :=
  FunD.binds1 (ps := ["self", "site", "rows", "extra"]) F 3 0 (List.cons_ne_nil _ _) rfl fun T kV doc pm an cdv ct us its l1 l2 => match us, l1, its, l2 with
    | [_, _, _], _, [_], _ => ⟨_, rfl, rfl⟩

theorem vals_rev {vs : List V} {us : List Value} (h : Vals vs us) : Vals vs.reverse us.reverse := by
  induction h with
  | nil => exact .nil
  | cons a _ ih =>
    rw [List.reverse_cons, List.reverse_cons]
    exact ih.append (.cons a .nil)
theorem bnd_k1 {K : PySem.W.Frag} {f : Addr} {fd : FuncData} (F : FunD K "__init__" "Keeper.__init__" (defArgs s_Keeper___init__) (defBody s_Keeper___init__) (defScope s_Keeper___init__) [] [("piece", .int 4)] f fd) :
    ∃ g, KBn K fd ["self", "copies", "piece"] 2 ["piece"] g (fun vs zs => vs ++ zs) := by
  obtain ⟨mv, b⟩ := FunD.kbinds0 (ps := ["self", "copies", "piece"]) F 2 ["piece"] [] (fun {α} us _ ws => us ++ ws) (List.cons_ne_nil _ _) (fun q hq => by cases hq)
    (fun r1 _ r4 => r1.append r4) (fun D doc pm an cdv ct us mv ws l1 l3 l4 => match us, l1, mv, l3, ws, l4 with
    | [_, _], _, [], _, [_], _ => rfl)
  exact ⟨_, b⟩
theorem bnd_k2 {K : PySem.W.Frag} {f : Addr} {fd : FuncData} (F : FunD K "__init__" "Keeper.__init__" (defArgs s_Keeper___init__) (defBody s_Keeper___init__) (defScope s_Keeper___init__) [] [("piece", .int 4)] f fd) :
    ∃ g, KBn K fd ["self", "copies", "piece"] 1 ["piece", "copies"] g (fun vs zs => vs ++ zs.reverse) := by
  obtain ⟨mv, b⟩ := FunD.kbinds0 (ps := ["self", "copies", "piece"]) F 1 ["piece", "copies"] [] (fun {α} us _ ws => us ++ ws.reverse) (List.cons_ne_nil _ _) (fun q hq => by cases hq)
    (fun r1 _ r4 => r1.append (vals_rev r4)) (fun D doc pm an cdv ct us mv ws l1 l3 l4 => match us, l1, mv, l3, ws, l4 with
    | [_], _, [], _, [_, _], _ => rfl)
  exact ⟨_, b⟩
theorem namesD {K : PySem.W.Frag} {h : Heap} {mg : Str → Option Value} (X : K.In h) (G : h.Ns mainGlobals mg) (D : He.SaysD faA fnA K) : Names mg where
  ValueError := He.free_ok X G (D.fact 39 (f := .free "ValueError") rfl)
  abs := He.free_ok X G (D.fact 40 (f := .free "abs") rfl)
  all := He.free_ok X G (D.fact 41 (f := .free "all") rfl)
  any := He.free_ok X G (D.fact 42 (f := .free "any") rfl)
  bool := He.free_ok X G (D.fact 43 (f := .free "bool") rfl)
  dict := He.free_ok X G (D.fact 44 (f := .free "dict") rfl)
  enumerate := He.free_ok X G (D.fact 45 (f := .free "enumerate") rfl)
  int := He.free_ok X G (D.fact 46 (f := .free "int") rfl)
  isinstance := He.free_ok X G (D.fact 47 (f := .free "isinstance") rfl)
  len := He.free_ok X G (D.fact 48 (f := .free "len") rfl)
  list := He.free_ok X G (D.fact 49 (f := .free "list") rfl)
  max := He.free_ok X G (D.fact 50 (f := .free "max") rfl)
  min := He.free_ok X G (D.fact 51 (f := .free "min") rfl)
  range := He.free_ok X G (D.fact 52 (f := .free "range") rfl)
  repr := He.free_ok X G (D.fact 53 (f := .free "repr") rfl)
  set := He.free_ok X G (D.fact 54 (f := .free "set") rfl)
  sorted := He.free_ok X G (D.fact 55 (f := .free "sorted") rfl)
  str := He.free_ok X G (D.fact 56 (f := .free "str") rfl)
  sum := He.free_ok X G (D.fact 57 (f := .free "sum") rfl)
  tuple := He.free_ok X G (D.fact 58 (f := .free "tuple") rfl)
  zip := He.free_ok X G (D.fact 59 (f := .free "zip") rfl)
  LETTERS := He.str_ok X G (D.fact 60 (f := .str "LETTERS" "abcdefghijklmnopqrstuvwxyz") rfl)
  DIGITS := He.str_ok X G (D.fact 61 (f := .str "DIGITS" "0123456789") rfl)
  END := He.int_ok X G (D.fact 62 (f := .int "END" 1000000) rfl)
  LAST_TIME := He.int_ok X G (D.fact 63 (f := .int "LAST_TIME" 1000000000) rfl)
  GHOST := He.int_ok X G (D.fact 64 (f := .int "GHOST" (-1)) rfl)
  LIMIT := He.int_ok X G (D.fact 65 (f := .int "LIMIT" 4) rfl)
abbrev right_ : He.Defn := ("_law_right", none)
abbrev riN : Str := "_law_right.<locals>.<lambda>"
/-- the tables of lambdas -/
abbrev tbs (K : PySem.W.Frag) : List (Addr × Str) := [((He.cT K right_).2, riN)]
theorem allD {P : Program} {w : World} {K : PySem.W.Frag} {h : Heap} {mg : Str → Option Value} {fa : Addr} (X : K.In h) (G : h.Ns mainGlobals mg) (hfa : mg ("law" : Str) = some (.ref fa)) (c : He.SaysX faA fnA [] tfA exB w h K) :
    ∃ fd : FuncData, (∀ (s : Shared) (u : Value), BindsTo s fd ⟨[u], []⟩ [("_law_script", u)]) ∧ ∀ base : Heap, K.In base → base.Ns mainGlobals mg → (∃ o, base.get? sysModules = some o) → (∀ p ∈ [He.cT K right_], LamX.TabB base mg p.1 p.2) →
      FnG P w K mg base 13 fa fd ["_law_script"] (spLaw K (tbs K)) := by
  have D := c.t.d
  have T := namesD X G D
  obtain ⟨xE, x1⟩ := Bool.and_eq_true_iff.mp c.more
  obtain ⟨xK, x1⟩ := Bool.and_eq_true_iff.mp x1
  obtain ⟨xP, x1⟩ := Bool.and_eq_true_iff.mp x1
  obtain ⟨xN, x1⟩ := Bool.and_eq_true_iff.mp x1
  obtain ⟨xM, xD⟩ := Bool.and_eq_true_iff.mp x1
  obtain ⟨d1, xD⟩ := Bool.and_eq_true_iff.mp xD
  obtain ⟨d2, d3⟩ := Bool.and_eq_true_iff.mp xD
  obtain ⟨nK, xN⟩ := Bool.and_eq_true_iff.mp xN
  obtain ⟨nS, xN⟩ := Bool.and_eq_true_iff.mp xN
  obtain ⟨nSi_, xN⟩ := Bool.and_eq_true_iff.mp xN
  obtain ⟨nP, nT⟩ := Bool.and_eq_true_iff.mp xN
  have KE := keB_ok xK
  have m_is_whole_number := He.glo_ok X G (D.fact 0 (f := .glo "is_whole_number") rfl)
  have m_is_within := He.glo_ok X G (D.fact 1 (f := .glo "is_within") rfl)
  have m__is_made_of := He.glo_ok X G (D.fact 2 (f := .glo "_is_made_of") rfl)
  have m_is_name := He.glo_ok X G (D.fact 3 (f := .glo "is_name") rfl)
  have m_is_tuple_of := He.glo_ok X G (D.fact 4 (f := .glo "is_tuple_of") rfl)
  have m__leads_out := He.glo_ok X G (D.fact 5 (f := .glo "_leads_out") rfl)
  have m_is_copy := He.glo_ok X G (D.fact 6 (f := .glo "is_copy") rfl)
  have m_are_copies := He.glo_ok X G (D.fact 7 (f := .glo "are_copies") rfl)
  have m_check_copies := He.glo_ok X G (D.fact 8 (f := .glo "check_copies") rfl)
  have m_mask_of := He.glo_ok X G (D.fact 9 (f := .glo "mask_of") rfl)
  have m__sharing := He.glo_ok X G (D.fact 10 (f := .glo "_sharing") rfl)
  have m__seen_at := He.glo_ok X G (D.fact 11 (f := .glo "_seen_at") rfl)
  have m__by_time := He.glo_ok X G (D.fact 12 (f := .glo "_by_time") rfl)
  have m__reached := He.glo_ok X G (D.fact 13 (f := .glo "_reached") rfl)
  have m__turned := He.glo_ok X G (D.fact 14 (f := .glo "_turned") rfl)
  have m__named_runs := He.glo_ok X G (D.fact 15 (f := .glo "_named_runs") rfl)
  have m_contents_of := He.glo_ok X G (D.fact 16 (f := .glo "contents_of") rfl)
  have m_above_of := He.glo_ok X G (D.fact 17 (f := .glo "above_of") rfl)
  have m_first_state := He.glo_ok X G (D.fact 18 (f := .glo "first_state") rfl)
  have m__law_pot := He.glo_ok X G (D.fact 19 (f := .glo "_law_pot") rfl)
  have m__law_draw := He.glo_ok X G (D.fact 20 (f := .glo "_law_draw") rfl)
  have m__law_any := He.glo_ok X G (D.fact 21 (f := .glo "_law_any") rfl)
  have m__law_words := He.glo_ok X G (D.fact 22 (f := .glo "_law_words") rfl)
  have m__law_copies := He.glo_ok X G (D.fact 23 (f := .glo "_law_copies") rfl)
  have m__law_is_name := He.glo_ok X G (D.fact 24 (f := .glo "_law_is_name") rfl)
  have m__law_are_pairs := He.glo_ok X G (D.fact 25 (f := .glo "_law_are_pairs") rfl)
  have m__law_are_copies := He.glo_ok X G (D.fact 26 (f := .glo "_law_are_copies") rfl)
  have m__law_spoilt := He.glo_ok X G (D.fact 27 (f := .glo "_law_spoilt") rfl)
  have m__law_caught := He.glo_ok X G (D.fact 28 (f := .glo "_law_caught") rfl)
  have m__law_right := He.glo_ok X G (D.fact 29 (f := .glo "_law_right") rfl)
  have m_law := He.glo_ok X G (D.fact 30 (f := .glo "law") rfl)
  have m_Keeper := He.glo_ok X G (D.fact 31 (f := .glo "Keeper") rfl)
  have m_State := He.glo_ok X G (D.fact 32 (f := .glo "State") rfl)
  have m_Site := He.glo_ok X G (D.fact 33 (f := .glo "Site") rfl)
  have m_Picture := He.glo_ok X G (D.fact 34 (f := .glo "Picture") rfl)
  have m_Steps := He.glo_ok X G (D.fact 35 (f := .glo "Steps") rfl)
  have m_BadCopies := He.glo_ok X G (D.fact 36 (f := .glo "BadCopies") rfl)
  have m_BadPiece := He.glo_ok X G (D.fact 37 (f := .glo "BadPiece") rfl)
  have m_KeeperError := He.glo_ok X G (D.fact 38 (f := .glo "KeeperError") rfl)
  obtain ⟨d_is_whole_number, F_is_whole_number⟩ := D.def_ 0 (d := dd "is_whole_number" s_is_whole_number) rfl
  have f_is_whole_number : Fun K "is_whole_number" "is_whole_number" s_is_whole_number (He.ga K "is_whole_number") d_is_whole_number := funOf F_is_whole_number
  have k_is_whole_number := f_is_whole_number.kp
  have b_is_whole_number := f_is_whole_number.binds (ps := ["value"]) fun _ _ _ _ _ _ us hl => match us, hl with | [_], _ => rfl
  obtain ⟨d_is_within, F_is_within⟩ := D.def_ 1 (d := dd "is_within" s_is_within) rfl
  have f_is_within : Fun K "is_within" "is_within" s_is_within (He.ga K "is_within") d_is_within := funOf F_is_within
  have k_is_within := f_is_within.kp
  have b_is_within := f_is_within.binds (ps := ["value", "least", "most"]) fun _ _ _ _ _ _ us hl => match us, hl with | [_, _, _], _ => rfl
  obtain ⟨d__is_made_of, F__is_made_of⟩ := D.def_ 2 (d := dd "_is_made_of" s__is_made_of) rfl
  have f__is_made_of : Fun K "_is_made_of" "_is_made_of" s__is_made_of (He.ga K "_is_made_of") d__is_made_of := funOf F__is_made_of
  have k__is_made_of := f__is_made_of.kp
  have b__is_made_of := f__is_made_of.binds (ps := ["value", "letters"]) fun _ _ _ _ _ _ us hl => match us, hl with | [_, _], _ => rfl
  obtain ⟨d_is_name, F_is_name⟩ := D.def_ 3 (d := dd "is_name" s_is_name) rfl
  have f_is_name : Fun K "is_name" "is_name" s_is_name (He.ga K "is_name") d_is_name := funOf F_is_name
  have k_is_name := f_is_name.kp
  have b_is_name := f_is_name.binds (ps := ["value"]) fun _ _ _ _ _ _ us hl => match us, hl with | [_], _ => rfl
  obtain ⟨d_is_tuple_of, F_is_tuple_of⟩ := D.def_ 4 (d := dd "is_tuple_of" s_is_tuple_of) rfl
  have f_is_tuple_of : Fun K "is_tuple_of" "is_tuple_of" s_is_tuple_of (He.ga K "is_tuple_of") d_is_tuple_of := funOf F_is_tuple_of
  have k_is_tuple_of := f_is_tuple_of.kp
  have b_is_tuple_of := f_is_tuple_of.binds (ps := ["value", "many"]) fun _ _ _ _ _ _ us hl => match us, hl with | [_, _], _ => rfl
  obtain ⟨d__leads_out, F__leads_out⟩ := D.def_ 5 (d := dd "_leads_out" s__leads_out) rfl
  have f__leads_out : Fun K "_leads_out" "_leads_out" s__leads_out (He.ga K "_leads_out") d__leads_out := funOf F__leads_out
  have k__leads_out := f__leads_out.kp
  have b__leads_out := f__leads_out.binds (ps := ["followed", "name"]) fun _ _ _ _ _ _ us hl => match us, hl with | [_, _], _ => rfl
  obtain ⟨d_is_copy, F_is_copy⟩ := D.def_ 6 (d := dd "is_copy" s_is_copy) rfl
  have f_is_copy : Fun K "is_copy" "is_copy" s_is_copy (He.ga K "is_copy") d_is_copy := funOf F_is_copy
  have k_is_copy := f_is_copy.kp
  have b_is_copy := f_is_copy.binds (ps := ["value"]) fun _ _ _ _ _ _ us hl => match us, hl with | [_], _ => rfl
  obtain ⟨d_are_copies, F_are_copies⟩ := D.def_ 7 (d := dd "are_copies" s_are_copies) rfl
  have f_are_copies : Fun K "are_copies" "are_copies" s_are_copies (He.ga K "are_copies") d_are_copies := funOf F_are_copies
  have k_are_copies := f_are_copies.kp
  have b_are_copies := f_are_copies.binds (ps := ["value"]) fun _ _ _ _ _ _ us hl => match us, hl with | [_], _ => rfl
  obtain ⟨d_check_copies, F_check_copies⟩ := D.def_ 8 (d := dd "check_copies" s_check_copies) rfl
  have f_check_copies : Fun K "check_copies" "check_copies" s_check_copies (He.ga K "check_copies") d_check_copies := funOf F_check_copies
  have k_check_copies := f_check_copies.kp
  have b_check_copies := f_check_copies.binds (ps := ["value"]) fun _ _ _ _ _ _ us hl => match us, hl with | [_], _ => rfl
  obtain ⟨d_mask_of, F_mask_of⟩ := D.def_ 9 (d := dd "mask_of" s_mask_of) rfl
  have f_mask_of : Fun K "mask_of" "mask_of" s_mask_of (He.ga K "mask_of") d_mask_of := funOf F_mask_of
  have k_mask_of := f_mask_of.kp
  have b_mask_of := f_mask_of.binds (ps := ["places"]) fun _ _ _ _ _ _ us hl => match us, hl with | [_], _ => rfl
  obtain ⟨d__sharing, F__sharing⟩ := D.def_ 10 (d := dd "_sharing" s__sharing) rfl
  have f__sharing : Fun K "_sharing" "_sharing" s__sharing (He.ga K "_sharing") d__sharing := funOf F__sharing
  have k__sharing := f__sharing.kp
  have b__sharing := f__sharing.binds (ps := ["words"]) fun _ _ _ _ _ _ us hl => match us, hl with | [_], _ => rfl
  obtain ⟨d__seen_at, F__seen_at⟩ := D.def_ 11 (d := dd "_seen_at" s__seen_at) rfl
  have f__seen_at : Fun K "_seen_at" "_seen_at" s__seen_at (He.ga K "_seen_at") d__seen_at := funOf F__seen_at
  have k__seen_at := f__seen_at.kp
  have b__seen_at := f__seen_at.binds (ps := ["rows"]) fun _ _ _ _ _ _ us hl => match us, hl with | [_], _ => rfl
  obtain ⟨d__by_time, F__by_time⟩ := D.def_ 12 (d := dd "_by_time" s__by_time) rfl
  have f__by_time : Fun K "_by_time" "_by_time" s__by_time (He.ga K "_by_time") d__by_time := funOf F__by_time
  have k__by_time := f__by_time.kp
  have b__by_time := f__by_time.binds (ps := ["site", "rows"]) fun _ _ _ _ _ _ us hl => match us, hl with | [_, _], _ => rfl
  obtain ⟨d__reached, F__reached⟩ := D.def_ 13 (d := dd "_reached" s__reached) rfl
  have f__reached : Fun K "_reached" "_reached" s__reached (He.ga K "_reached") d__reached := funOf F__reached
  have k__reached := f__reached.kp
  have b__reached := f__reached.binds (ps := ["steps"]) fun _ _ _ _ _ _ us hl => match us, hl with | [_], _ => rfl
  obtain ⟨d__turned, F__turned⟩ := D.def_ 14 (d := dd "_turned" s__turned) rfl
  have f__turned : Fun K "_turned" "_turned" s__turned (He.ga K "_turned") d__turned := funOf F__turned
  have k__turned := f__turned.kp
  have b__turned := f__turned.binds (ps := ["reach"]) fun _ _ _ _ _ _ us hl => match us, hl with | [_], _ => rfl
  obtain ⟨d__named_runs, F__named_runs⟩ := D.def_ 15 (d := dd "_named_runs" s__named_runs) rfl
  have f__named_runs : Fun K "_named_runs" "_named_runs" s__named_runs (He.ga K "_named_runs") d__named_runs := funOf F__named_runs
  have k__named_runs := f__named_runs.kp
  have b__named_runs := f__named_runs.binds (ps := ["contents", "piece"]) fun _ _ _ _ _ _ us hl => match us, hl with | [_, _], _ => rfl
  obtain ⟨d_contents_of, F_contents_of⟩ := D.def_ 16 (d := dd "contents_of" s_contents_of) rfl
  have f_contents_of : Fun K "contents_of" "contents_of" s_contents_of (He.ga K "contents_of") d_contents_of := funOf F_contents_of
  have k_contents_of := f_contents_of.kp
  have b_contents_of := f_contents_of.binds (ps := ["editions", "piece"]) fun _ _ _ _ _ _ us hl => match us, hl with | [_, _], _ => rfl
  obtain ⟨d_above_of, F_above_of⟩ := D.def_ 17 (d := dd "above_of" s_above_of) rfl
  have f_above_of : Fun K "above_of" "above_of" s_above_of (He.ga K "above_of") d_above_of := funOf F_above_of
  have k_above_of := f_above_of.kp
  have b_above_of := f_above_of.binds (ps := ["copies"]) fun _ _ _ _ _ _ us hl => match us, hl with | [_], _ => rfl
  obtain ⟨d_first_state, F_first_state⟩ := D.def_ 18 (d := dd "first_state" s_first_state) rfl
  have f_first_state : Fun K "first_state" "first_state" s_first_state (He.ga K "first_state") d_first_state := funOf F_first_state
  have k_first_state := f_first_state.kp
  have b_first_state := f_first_state.binds (ps := ["site"]) fun _ _ _ _ _ _ us hl => match us, hl with | [_], _ => rfl
  obtain ⟨d__law_pot, F__law_pot⟩ := D.def_ 19 (d := dd "_law_pot" s__law_pot) rfl
  have f__law_pot : Fun K "_law_pot" "_law_pot" s__law_pot (He.ga K "_law_pot") d__law_pot := funOf F__law_pot
  have k__law_pot := f__law_pot.kp
  have b__law_pot := f__law_pot.binds (ps := ["_law_script", "_law_k"]) fun _ _ _ _ _ _ us hl => match us, hl with | [_, _], _ => rfl
  obtain ⟨d__law_draw, F__law_draw⟩ := D.def_ 20 (d := dd "_law_draw" s__law_draw) rfl
  have f__law_draw : Fun K "_law_draw" "_law_draw" s__law_draw (He.ga K "_law_draw") d__law_draw := funOf F__law_draw
  have k__law_draw := f__law_draw.kp
  have b__law_draw := f__law_draw.binds (ps := ["_law_pot_here", "_law_many"]) fun _ _ _ _ _ _ us hl => match us, hl with | [_, _], _ => rfl
  obtain ⟨d__law_any, F__law_any⟩ := D.def_ 21 (d := dd "_law_any" s__law_any) rfl
  have f__law_any : Fun K "_law_any" "_law_any" s__law_any (He.ga K "_law_any") d__law_any := funOf F__law_any
  have k__law_any := f__law_any.kp
  have b__law_any := f__law_any.binds (ps := ["_law_pot_here", "_law_items"]) fun _ _ _ _ _ _ us hl => match us, hl with | [_, _], _ => rfl
  obtain ⟨d__law_words, F__law_words⟩ := D.def_ 22 (d := dd "_law_words" s__law_words) rfl
  have f__law_words : Fun K "_law_words" "_law_words" s__law_words (He.ga K "_law_words") d__law_words := funOf F__law_words
  have k__law_words := f__law_words.kp
  have b__law_words := f__law_words.binds (ps := ["_law_pot_here", "_law_many"]) fun _ _ _ _ _ _ us hl => match us, hl with | [_, _], _ => rfl
  obtain ⟨d__law_copies, F__law_copies⟩ := D.def_ 23 (d := dd "_law_copies" s__law_copies) rfl
  have f__law_copies : Fun K "_law_copies" "_law_copies" s__law_copies (He.ga K "_law_copies") d__law_copies := funOf F__law_copies
  have k__law_copies := f__law_copies.kp
  have b__law_copies := f__law_copies.binds (ps := ["_law_pot_here", "_law_most"]) fun _ _ _ _ _ _ us hl => match us, hl with | [_, _], _ => rfl
  obtain ⟨d__law_is_name, F__law_is_name⟩ := D.def_ 24 (d := dd "_law_is_name" s__law_is_name) rfl
  have f__law_is_name : Fun K "_law_is_name" "_law_is_name" s__law_is_name (He.ga K "_law_is_name") d__law_is_name := funOf F__law_is_name
  have k__law_is_name := f__law_is_name.kp
  have b__law_is_name := f__law_is_name.binds (ps := ["_law_thing"]) fun _ _ _ _ _ _ us hl => match us, hl with | [_], _ => rfl
  obtain ⟨d__law_are_pairs, F__law_are_pairs⟩ := D.def_ 25 (d := dd "_law_are_pairs" s__law_are_pairs) rfl
  have f__law_are_pairs : Fun K "_law_are_pairs" "_law_are_pairs" s__law_are_pairs (He.ga K "_law_are_pairs") d__law_are_pairs := funOf F__law_are_pairs
  have k__law_are_pairs := f__law_are_pairs.kp
  have b__law_are_pairs := f__law_are_pairs.binds (ps := ["_law_thing"]) fun _ _ _ _ _ _ us hl => match us, hl with | [_], _ => rfl
  obtain ⟨d__law_are_copies, F__law_are_copies⟩ := D.def_ 26 (d := dd "_law_are_copies" s__law_are_copies) rfl
  have f__law_are_copies : Fun K "_law_are_copies" "_law_are_copies" s__law_are_copies (He.ga K "_law_are_copies") d__law_are_copies := funOf F__law_are_copies
  have k__law_are_copies := f__law_are_copies.kp
  have b__law_are_copies := f__law_are_copies.binds (ps := ["_law_thing"]) fun _ _ _ _ _ _ us hl => match us, hl with | [_], _ => rfl
  obtain ⟨d__law_spoilt, F__law_spoilt⟩ := D.def_ 27 (d := dd "_law_spoilt" s__law_spoilt) rfl
  have f__law_spoilt : Fun K "_law_spoilt" "_law_spoilt" s__law_spoilt (He.ga K "_law_spoilt") d__law_spoilt := funOf F__law_spoilt
  have k__law_spoilt := f__law_spoilt.kp
  have b__law_spoilt := f__law_spoilt.binds (ps := ["_law_pot_here", "_law_rows"]) fun _ _ _ _ _ _ us hl => match us, hl with | [_, _], _ => rfl
  obtain ⟨d__law_caught, F__law_caught⟩ := D.def_ 28 (d := dd "_law_caught" s__law_caught) rfl
  have f__law_caught : Fun K "_law_caught" "_law_caught" s__law_caught (He.ga K "_law_caught") d__law_caught := funOf F__law_caught
  have k__law_caught := f__law_caught.kp
  have b__law_caught := f__law_caught.binds (ps := ["_law_call"]) fun _ _ _ _ _ _ us hl => match us, hl with | [_], _ => rfl
  obtain ⟨d__law_right, F__law_right⟩ := D.def_ 29 (d := dd "_law_right" s__law_right) rfl
  have f__law_right : Fun K "_law_right" "_law_right" s__law_right (He.ga K "_law_right") d__law_right := funOf F__law_right
  have k__law_right := f__law_right.kp
  have b__law_right := f__law_right.binds (ps := ["_law_pot_here"]) fun _ _ _ _ _ _ us hl => match us, hl with | [_], _ => rfl
  obtain ⟨d_law, F_law⟩ := D.def_ 30 (d := dd "law" s_law) rfl
  have f_law : Fun K "law" "law" s_law (He.ga K "law") d_law := funOf F_law
  have k_law := f_law.kp
  have b_law := f_law.binds (ps := ["_law_script"]) fun _ _ _ _ _ _ us hl => match us, hl with | [_], _ => rfl
  obtain ⟨d_BadCopies___init__, E_BadCopies___init__⟩ := D.def_ 31 (d := dm "BadCopies" "__init__" "BadCopies.__init__" s_BadCopies___init__ [] []) rfl
  have F_BadCopies___init__ : FunD K "__init__" "BadCopies.__init__" (defArgs s_BadCopies___init__) (defBody s_BadCopies___init__) (defScope s_BadCopies___init__) [] [] (He.ma K (He.ga K "BadCopies") "__init__") d_BadCopies___init__ := E_BadCopies___init__
  have f_BadCopies___init__ : Fun K "__init__" "BadCopies.__init__" s_BadCopies___init__ (He.ma K (He.ga K "BadCopies") "__init__") d_BadCopies___init__ := funOf F_BadCopies___init__
  have b_BadCopies___init__ := f_BadCopies___init__.binds (ps := ["self", "value"]) fun _ _ _ _ _ _ us hl => match us, hl with | [_, _], _ => rfl
  obtain ⟨d_BadPiece___init__, E_BadPiece___init__⟩ := D.def_ 32 (d := dm "BadPiece" "__init__" "BadPiece.__init__" s_BadPiece___init__ [] []) rfl
  have F_BadPiece___init__ : FunD K "__init__" "BadPiece.__init__" (defArgs s_BadPiece___init__) (defBody s_BadPiece___init__) (defScope s_BadPiece___init__) [] [] (He.ma K (He.ga K "BadPiece") "__init__") d_BadPiece___init__ := E_BadPiece___init__
  have f_BadPiece___init__ : Fun K "__init__" "BadPiece.__init__" s_BadPiece___init__ (He.ma K (He.ga K "BadPiece") "__init__") d_BadPiece___init__ := funOf F_BadPiece___init__
  have b_BadPiece___init__ := f_BadPiece___init__.binds (ps := ["self", "value"]) fun _ _ _ _ _ _ us hl => match us, hl with | [_, _], _ => rfl
  obtain ⟨d_Steps___init__, E_Steps___init__⟩ := D.def_ 33 (d := dm "Steps" "__init__" "Steps.__init__" s_Steps___init__ [.adr (He.dflAt ("Steps", some "__init__") 0)] []) rfl
  have F_Steps___init__ : FunD K "__init__" "Steps.__init__" (defArgs s_Steps___init__) (defBody s_Steps___init__) (defScope s_Steps___init__) [.ref (He.dflAt ("Steps", some "__init__") 0 K)] [] (He.ma K (He.ga K "Steps") "__init__") d_Steps___init__ := E_Steps___init__
  obtain ⟨d_Site___init__, E_Site___init__⟩ := D.def_ 34 (d := dm "Site" "__init__" "Site.__init__" s_Site___init__ [] []) rfl
  have F_Site___init__ : FunD K "__init__" "Site.__init__" (defArgs s_Site___init__) (defBody s_Site___init__) (defScope s_Site___init__) [] [] (He.ma K (He.ga K "Site") "__init__") d_Site___init__ := E_Site___init__
  have f_Site___init__ : Fun K "__init__" "Site.__init__" s_Site___init__ (He.ma K (He.ga K "Site") "__init__") d_Site___init__ := funOf F_Site___init__
  have b_Site___init__ := f_Site___init__.binds (ps := ["self", "copies", "piece"]) fun _ _ _ _ _ _ us hl => match us, hl with | [_, _, _], _ => rfl
  obtain ⟨d_Picture___init__, E_Picture___init__⟩ := D.def_ 35 (d := dm "Picture" "__init__" "Picture.__init__" s_Picture___init__ [] []) rfl
  have F_Picture___init__ : FunD K "__init__" "Picture.__init__" (defArgs s_Picture___init__) (defBody s_Picture___init__) (defScope s_Picture___init__) [] [] (He.ma K (He.ga K "Picture") "__init__") d_Picture___init__ := E_Picture___init__
  have f_Picture___init__ : Fun K "__init__" "Picture.__init__" s_Picture___init__ (He.ma K (He.ga K "Picture") "__init__") d_Picture___init__ := funOf F_Picture___init__
  have b_Picture___init__ := f_Picture___init__.binds (ps := ["self", "site", "rows"]) fun _ _ _ _ _ _ us hl => match us, hl with | [_, _, _], _ => rfl
  obtain ⟨d_State___init__, E_State___init__⟩ := D.def_ 36 (d := dm "State" "__init__" "State.__init__" s_State___init__ [] []) rfl
  have F_State___init__ : FunD K "__init__" "State.__init__" (defArgs s_State___init__) (defBody s_State___init__) (defScope s_State___init__) [] [] (He.ma K (He.ga K "State") "__init__") d_State___init__ := E_State___init__
  have f_State___init__ : Fun K "__init__" "State.__init__" s_State___init__ (He.ma K (He.ga K "State") "__init__") d_State___init__ := funOf F_State___init__
  have b_State___init__ := f_State___init__.binds (ps := ["self", "site", "time", "upcoming", "asks", "told", "gone", "picture"]) fun _ _ _ _ _ _ us hl => match us, hl with | [_, _, _, _, _, _, _, _], _ => rfl
  obtain ⟨d_Keeper___init__, E_Keeper___init__⟩ := D.def_ 37 (d := dm "Keeper" "__init__" "Keeper.__init__" s_Keeper___init__ [] [("piece", .int 4)]) rfl
  have F_Keeper___init__ : FunD K "__init__" "Keeper.__init__" (defArgs s_Keeper___init__) (defBody s_Keeper___init__) (defScope s_Keeper___init__) [] [("piece", .int 4)] (He.ma K (He.ga K "Keeper") "__init__") d_Keeper___init__ := E_Keeper___init__
  obtain ⟨d_Keeper_become, E_Keeper_become⟩ := D.def_ 38 (d := dm "Keeper" "become" "Keeper.become" s_Keeper_become [] []) rfl
  have F_Keeper_become : FunD K "become" "Keeper.become" (defArgs s_Keeper_become) (defBody s_Keeper_become) (defScope s_Keeper_become) [] [] (He.ma K (He.ga K "Keeper") "become") d_Keeper_become := E_Keeper_become
  have f_Keeper_become : Fun K "become" "Keeper.become" s_Keeper_become (He.ma K (He.ga K "Keeper") "become") d_Keeper_become := funOf F_Keeper_become
  have b_Keeper_become := f_Keeper_become.binds (ps := ["self", "state"]) fun _ _ _ _ _ _ us hl => match us, hl with | [_, _], _ => rfl
  obtain ⟨d_Keeper_groups, E_Keeper_groups⟩ := D.def_ 39 (d := dm "Keeper" "groups" "Keeper.groups" s_Keeper_groups [] []) rfl
  have F_Keeper_groups : FunD K "groups" "Keeper.groups" (defArgs s_Keeper_groups) (defBody s_Keeper_groups) (defScope s_Keeper_groups) [] [] (He.ma K (He.ga K "Keeper") "groups") d_Keeper_groups := E_Keeper_groups
  have f_Keeper_groups : Fun K "groups" "Keeper.groups" s_Keeper_groups (He.ma K (He.ga K "Keeper") "groups") d_Keeper_groups := funOf F_Keeper_groups
  have b_Keeper_groups := f_Keeper_groups.binds (ps := ["self"]) fun _ _ _ _ _ _ us hl => match us, hl with | [_], _ => rfl
  have c_Keeper := He.cls_ok (D.fact 66 (f := .cls "Keeper") rfl)
  have k_Keeper := He.mkr_ok (D.fact 67 (f := .mkr "Keeper") rfl)
  have O_Keeper : OC K mg "Keeper" (He.ga K "Keeper") (He.ma K (He.ga K "Keeper") "__init__") fKe := ⟨c_Keeper, k_Keeper, m_Keeper, noB_ok nK⟩
  have c_State := He.cls_ok (D.fact 68 (f := .cls "State") rfl)
  have k_State := He.mkr_ok (D.fact 69 (f := .mkr "State") rfl)
  have O_State : OC K mg "State" (He.ga K "State") (He.ma K (He.ga K "State") "__init__") fSta := ⟨c_State, k_State, m_State, noB_ok nS⟩
  have c_Site := He.cls_ok (D.fact 70 (f := .cls "Site") rfl)
  have k_Site := He.mkr_ok (D.fact 71 (f := .mkr "Site") rfl)
  have O_Site : OC K mg "Site" (He.ga K "Site") (He.ma K (He.ga K "Site") "__init__") fSi := ⟨c_Site, k_Site, m_Site, noB_ok nSi_⟩
  have c_Picture := He.cls_ok (D.fact 72 (f := .cls "Picture") rfl)
  have k_Picture := He.mkr_ok (D.fact 73 (f := .mkr "Picture") rfl)
  have O_Picture : OC K mg "Picture" (He.ga K "Picture") (He.ma K (He.ga K "Picture") "__init__") fPi := ⟨c_Picture, k_Picture, m_Picture, noB_ok nP⟩
  have c_Steps := He.cls_ok (D.fact 74 (f := .cls "Steps") rfl)
  have k_Steps := He.mkr_ok (D.fact 75 (f := .mkr "Steps") rfl)
  have O_Steps : OC K mg "Steps" (He.ga K "Steps") (He.ma K (He.ga K "Steps") "__init__") fSt := ⟨c_Steps, k_Steps, m_Steps, noB_ok nT⟩
  have t_become := He.meth_ok (D.fact 76 (f := .meth "Keeper" "become") rfl)
  have t_groups := He.meth_ok (D.fact 77 (f := .meth "Keeper" "groups") rfl)
  have EK := empB_ok xP
  have eAll := List.all_eq_true.mp xE
  have B1 := errB_ok (mg := mg) (eAll "BadCopies" (List.mem_of_getElem? (i := 0) rfl)) KE m_BadCopies m_KeeperError
  have B2 := errB_ok (mg := mg) (eAll "BadPiece" (List.mem_of_getElem? (i := 1) rfl)) KE m_BadPiece m_KeeperError
  obtain ⟨dsK, rK, bK⟩ := bnd_keep F_Keeper___init__
  obtain ⟨dsT, rT, bT⟩ := bnd_steps F_Steps___init__
  have kb1 := bnd_k1 F_Keeper___init__
  have kb2 := bnd_k2 F_Keeper___init__
  have n1 : He.ga K "State" ≠ He.ga K "Keeper" := of_decide_eq_true d1
  have n2 : He.ga K "Site" ≠ He.ga K "Keeper" := of_decide_eq_true d2
  have n3 : He.ga K "Picture" ≠ He.ga K "Keeper" := of_decide_eq_true d3
  have eF : fa = He.ga K "law" := by
    rw [m_law] at hfa
    injection hfa with z
    injection z with z
    exact z.symm
  subst eF
  refine ⟨d_law, fun s u => FunD.bindsA (ps := ["_law_script"]) (show FunD K "law" "law" (defArgs s_law) (defBody s_law) (defScope s_law) [] [] (He.ga K "law") d_law from F_law) (fun _ _ _ _ _ _ us hl => match us, hl with | [_], _ => rfl) s [u] rfl, fun base _ _ hbs hTB => ?_⟩
  have gWhole := ok_whole (P := P) (w := w) (base := base) f_is_whole_number T
  have gWithin := ok_within (P := P) (w := w) (base := base) f_is_within gWhole m_is_whole_number k_is_whole_number b_is_whole_number
  have gMade := ok_madeOf (P := P) (w := w) (base := base) f__is_made_of T
  have gName := ok_name (P := P) (w := w) (base := base) f_is_name T gMade m__is_made_of k__is_made_of b__is_made_of
  have gTupOf := ok_tupOf (P := P) (w := w) (base := base) f_is_tuple_of T
  have gLeads := ok_leads (P := P) (w := w) (base := base) f__leads_out T
  have gIsCopy := ok_isCopy (P := P) (w := w) (base := base) f_is_copy gTupOf m_is_tuple_of k_is_tuple_of b_is_tuple_of gName m_is_name k_is_name b_is_name
  have gAre := ok_are (P := P) (w := w) (base := base) f_are_copies T gIsCopy m_is_copy k_is_copy b_is_copy gLeads m__leads_out k__leads_out b__leads_out
  have gB1 := ok_BadCopies (P := P) (w := w) (base := base) f_BadCopies___init__ B1
  have gB2 := ok_BadPiece (P := P) (w := w) (base := base) f_BadPiece___init__ B2
  have gCheckC := ok_checkC (P := P) (w := w) (base := base) f_check_copies gAre m_are_copies k_are_copies b_are_copies B1 gB1 b_BadCopies___init__
  have gAbove := ok_above (P := P) (w := w) (base := base) f_above_of T
  have gMask := ok_mask (P := P) (w := w) (base := base) f_mask_of T
  have gSharing := ok_sharing (P := P) (w := w) (base := base) f__sharing T
  have gSeen := ok_seen (P := P) (w := w) (base := base) f__seen_at T
  have gBy := ok_by (P := P) (w := w) (base := base) f__by_time T gSeen m__seen_at k__seen_at b__seen_at
  have gReached := ok_reached (P := P) (w := w) (base := base) f__reached T
  have gTurned := ok_turned (P := P) (w := w) (base := base) f__turned T
  have gSteps := ok_steps (P := P) (w := w) (base := base) F_Steps___init__ T O_Steps EK gBy m__by_time k__by_time b__by_time gSharing m__sharing k__sharing b__sharing gMask m_mask_of k_mask_of b_mask_of gReached m__reached k__reached b__reached gTurned m__turned k__turned b__turned
  have gNamed := ok_named (P := P) (w := w) (base := base) f__named_runs T
  have gContents := ok_contents (P := P) (w := w) (base := base) f_contents_of T gNamed m__named_runs k__named_runs b__named_runs
  have gPic := ok_pic (P := P) (w := w) (base := base) f_Picture___init__ T O_Picture O_Site O_Steps gSteps bT rT gContents m_contents_of k_contents_of b_contents_of
  have gSite := ok_site (P := P) (w := w) (base := base) f_Site___init__ O_Site gAbove m_above_of k_above_of b_above_of
  have gState := ok_state (P := P) (w := w) (base := base) f_State___init__ O_State
  have gFirst := ok_first (P := P) (w := w) (base := base) f_first_state O_State gState b_State___init__ O_Picture gPic b_Picture___init__
  have gBecome := ok_become (P := P) (w := w) (base := base) f_Keeper_become T O_Keeper O_State n1 n2 n3
  let KD : KDefs P w K mg base (He.ga K "Keeper") (He.ga K "State") (He.ga K "Site") (He.ga K "Picture") := ⟨_, _, _, _, O_Keeper, O_State, O_Site, O_Picture, _, _, gBecome, b_Keeper_become, t_become, _, _, gWithin, m_is_within, k_is_within, b_is_within⟩
  have gKeep := ok_keep (fC := 0) (P := P) (w := w) (base := base) F_Keeper___init__ KD gCheckC m_check_copies k_check_copies b_check_copies gFirst m_first_state k_first_state b_first_state gSite b_Site___init__ B2 gB2 b_BadPiece___init__
  have gGroups := ok_groups (P := P) (w := w) (base := base) f_Keeper_groups T KD
  have gDraw := ok_draw (P := P) (w := w) (base := base) f__law_draw T
  have gAny := ok_any (P := P) (w := w) (base := base) f__law_any T gDraw m__law_draw k__law_draw b__law_draw
  have gPot := ok_pot (P := P) (w := w) (base := base) f__law_pot T
  have gWords := ok_words (P := P) (w := w) (base := base) f__law_words T gDraw m__law_draw k__law_draw b__law_draw gAny m__law_any k__law_any b__law_any
  have gCopies := ok_copies (P := P) (w := w) (base := base) f__law_copies T gDraw m__law_draw k__law_draw b__law_draw gWords m__law_words k__law_words b__law_words
  have gLN := ok_lawName (P := P) (w := w) (base := base) f__law_is_name T
  have gLP := ok_pairs (P := P) (w := w) (base := base) f__law_are_pairs T gLN m__law_is_name k__law_is_name b__law_is_name
  have gLA := ok_areL (P := P) (w := w) (base := base) f__law_are_copies T gLP m__law_are_pairs k__law_are_pairs b__law_are_pairs
  have gLS := ok_spoilt (P := P) (w := w) (base := base) f__law_spoilt T gDraw m__law_draw k__law_draw b__law_draw gAny m__law_any k__law_any b__law_any
  let LD : LDefs P w K mg base (He.ga K "Keeper") (He.ga K "State") (He.ga K "Site") (He.ga K "Picture") (He.ga K "BadCopies") (He.ga K "BadPiece") (He.ga K "KeeperError") :=
    ⟨T, KD, _, _, gCopies, m__law_copies, k__law_copies, b__law_copies, _, _, gLS, m__law_spoilt, k__law_spoilt, b__law_spoilt, _, _, gDraw, m__law_draw, k__law_draw, b__law_draw, _, _, gAny, m__law_any, k__law_any, b__law_any, _, _, gLA, m__law_are_copies, k__law_are_copies, b__law_are_copies, _, gKeep, ⟨dsK, rK, bK⟩, kb1, kb2, _, _, gGroups, t_groups, b_Keeper_groups, _, _, f__law_caught, m__law_caught, k__law_caught, b__law_caught,
      ⟨B1.mgB, B1.xf, B1.noV⟩, ⟨B2.mgB, B2.xf, B2.noV⟩, m_KeeperError, fun i j C D hi hj => exmB_ok xM i j C D hi hj⟩
  have hcR : d__law_right.code = .ref (He.cT K right_).1 := codeD (p := right_) F__law_right
  have TB1 := hTB (He.cT K right_) List.mem_cons_self
  have hu1 : ∀ p ∈ tbs K, p.1 = (He.cT K right_).2 → p.2 = riN := fun p hp e => by rw [List.mem_singleton.mp hp]
  have gRight := ok_right (T := tbs K) f__law_right LD hcR TB1 List.mem_cons_self hu1 hbs
  exact ok_law f_law T gRight m__law_right k__law_right b__law_right gPot m__law_pot k__law_pot b__law_pot
end Sps
set_option Elab.async false
set_option linter.all false
set_option maxRecDepth 100000
set_option maxHeartbeats 0
namespace Sps
open PySem PySem.Spec PyProof.Rows L2
theorem tabs0 {K : PySem.W.Frag} {H : Hp} (h : ∀ p ∈ [He.cT K right_], H p.2 = some (.tbl #[])) : LamX.Tabs (tbs K) H := fun p hp => by
  have e : H p.1 = some (.tbl #[]) := by
    rw [List.mem_singleton.mp hp]
    exact h _ List.mem_cons_self
  exact ⟨#[], e, trivial, fun _ _ q => by cases q⟩
theorem inTf {K : PySem.W.Frag} {p : Addr × Addr} (hp : p ∈ [He.cT K right_]) : ∃ q ∈ tfA, p = He.cT K q := by
  exact ⟨right_, List.mem_cons_self, List.mem_singleton.mp hp⟩
end Sps
open PySem PySem.W PySem.Calls PyProof.Rows in
set_option maxRecDepth 100000 in
set_option maxHeartbeats 0 in
theorem PySem.Challenge.cw_oneedition_k85_copies_of_any_value_holds : PySem.Challenge.rw_oneedition_k85_copies_of_any_value.Holds := by
  w_on; o_law
  refine HandSHeadRun.head_any (r := OpenLaw.row PySem.Challenge.rw_oneedition_k85_copies_of_any_value) (q := view (OpenLaw.row PySem.Challenge.rw_oneedition_k85_copies_of_any_value).prog [142]) (H := Sps.hkA) (ob := Sps.ob) (M := 30000) (loose := Sps.names) (d := HandSHeadRun.topDef (OpenLaw.row PySem.Challenge.rw_oneedition_k85_copies_of_any_value).prog 142) (kwd := []) Sps.ob_eq
    (by kernel_rfl) (fun s => by kernel_rfl) Sps.runA (by kernel_rfl) (by kernel_rfl) (by kernel_rfl) (by rfl) (by first | assumption | decide +kernel) (by decide +kernel) ⟨rfl, rfl, rfl, rfl, rfl, by decide +kernel⟩ ?hw ?hc
  case hw => w_witness2
  case hc =>
    refine Sps.walkTG (l := PySem.Challenge.rw_oneedition_k85_copies_of_any_value) (n := 63) (k := 13) (x := "_law_script") rfl (by decide) (by kernel_rfl) (by kernel_rfl) ⟨rfl, by decide, by decide⟩ ?F
    intro w mg fa h Y G hmg0
    obtain ⟨K, KX, c⟩ := Y
    have hmg : mg ("law" : PySem.Str) = some (.ref fa) := by
      have e : (HandSHeadRun.topDef (OpenLaw.row PySem.Challenge.rw_oneedition_k85_copies_of_any_value).prog 142).name = ("law" : PySem.Str) := by kernel_rfl
      rw [← e]
      exact hmg0
    obtain ⟨fd, hb, hF⟩ := Sps.allD (P := (PySem.Challenge.rw_oneedition_k85_copies_of_any_value).prog) (w := w) KX G hmg c
    refine ⟨K, fd, [He.cT K Sps.right_], Sps.spLaw K (Sps.tbs K), KX, fun p hp => ?_, fun p hp => ?_, fun p hp => ?_, hb, fun H a ns hl hT hS => ⟨a, ns, rfl, hS, hl, Sps.tabs0 hT, fun _ => rfl⟩, hF⟩
    · obtain ⟨q, hq, rfl⟩ := Sps.inTf hp
      exact c.empty q hq
    · obtain ⟨q, hq, rfl⟩ := Sps.inTf hp
      exact c.out q hq
    · obtain ⟨q, hq, rfl⟩ := Sps.inTf hp
      exact PySem.W.codeHd_of_K KX (c.hd q hq)
