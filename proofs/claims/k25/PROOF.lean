import PyProof.Rows.All
import Wide.All
import OpenK.AllK
import Wide.FinOn
import HandS.ForMost
import HandS.ForExc
import HandS.Rev
import HandS.TupAny
import HandS.More
import HandS.Star
import HandS.Codes
import HandS.DictComp
import HandS.SetKeys
import PySem.Challenge.RW_shapewright_k25_schemes_of_constructors

set_option Elab.async false
set_option linter.all false
set_option maxRecDepth 100000
/-! Rules of my own: xs.extend(a tuple); t[::-1] of a tuple; tuple(a dict). -/
namespace Vr
open PySem PySem.Spec PyProof.Rows L2
theorem ext_meets (l : Addr) (xs : Array Value) (n : Nat) (b : Addr) (ys : Array Value) (m : Nat) (dd : Option Addr) (sl : Array (Option Value)) (h0 : ¬(!xs.isEmpty && Builtin.List.listTooLong (xs.size + ys.size)) = true) (h1 : xs.size ≤ sizeLine) (h2 : xs.size + ys.size ≤ sizeLine + 1) :
    Meets (Builtin.«list.extend» ⟨[.ref l, .ref b], []⟩) (fun _ R s => s.heap.get? l = some { cls := .type "list", dict := none, data := .seq xs n, slots := #[] } ∧ s.heap.get? b = some { cls := .type "tuple", dict := dd, data := .seq ys m, slots := sl } ∧
      R (.ok (.ret Value.none)) { s with heap := s.heap.update l (Obj.mapSeq fun x => x ++ ys), toks := s.toks }) :=
  .of_wp fun prog w A R s h => by
    obtain ⟨hp, g, d, tk, os⟩ := s
    obtain ⟨hl, hb, h⟩ := h
    have f1 := AutoSeq1.idx_int
    have f2 := AutoSeq1.sub_tuple_tuple
    have f3 := AutoSeq1.sub_list_list
    have f4 := AutoSeq1.sub_tuple_list
    have f5 := AutoSeq1.sub_list_tuple
    have hz : (xs ++ ys).size ≤ sizeLine + 1 := by
      rw [Array.size_append]
      exact h2
    wp_walk using (wpAny_updateSeq hl rfl (hz := h1) (_hz' := hz)), AutoSeq1.wpAny_loadPart' hl, AutoSeq1.wpAny_loadPart' hb
    exact ⟨_, rfl, h⟩
section
variable {X : Cx}
def rExtT (K : PySem.W.Frag) : V → List V → Hp → VK → Prop := fun x vs H Q => ∃ l b xs zs, x = .ref l ∧ vs = [.ref b] ∧ H l = some (.lst xs) ∧ SqT K H b zs ∧ xs.length + zs.length ≤ sizeLine ∧ Q .non (upd H l (.lst (xs ++ zs)))
theorem mt_extendT : MtM X "list.extend" (rExtT X.K) := by
  intro pins s σ H x vs v us Q I rx rv h
  obtain ⟨l, b, xs, zs, rfl, rfl, hH, hB, hz, q⟩ := h
  cases rx
  obtain ⟨u, rfl, ru⟩ := rv.one
  cases ru
  obtain ⟨z, its, n, r, hl, e⟩ := I.lstM hH
  obtain ⟨its2, r2, ht2, z2⟩ := I.tuple hB
  have len1 := r.length
  have len2 := r2.length
  obtain ⟨o2, ho2, hc2, n2, hd2⟩ := id ht2
  obtain ⟨c2, dd2, da2, sl2⟩ := o2
  simp only at hc2 hd2
  subst hc2 hd2
  have total : its.toArray.size + its2.toArray.size ≤ sizeLine := by
    rw [List.size_toArray, List.size_toArray]
    omega
  have short : ¬ (!its.toArray.isEmpty && Builtin.List.listTooLong (its.toArray.size + its2.toArray.size)) = true := by
    rw [notLongL total, Bool.and_false]
    exact Bool.false_ne_true
  refine call_meets PySem.F.slot_list_extend ⟨_, e, rfl⟩ PySem.F.entry_list_extend (PySem.F.args_list_extend_2 _ _)
    (ext_meets l its.toArray n b its2.toArray n2 dd2 sl2 short (by rw [List.size_toArray]; omega) (by omega)) ⟨e, ho2, ?_⟩
  refine ⟨.non, _, I.lset (its' := its ++ its2) hH e (by simp) (r.append r2) ?_, rfl, q⟩
  rw [List.length_append]
  omega
end

/-! ### t[::-1] -/
section
variable {prog : Program} {w : World} {A : Around} {E : Value → Shared → Prop} {s : Shared}
theorem applied_back {sl : Addr} {vl vu vs : Value} {n : Nat} {Q : Int × Int × Nat → Shared → Prop} (hs : s.heap.IsSliceOf sl vl vu vs) (pl : IsPart vl none) (pu : IsPart vu none) (ps : IsPart vs (some (-1)))
    (h : Q ((n : Int) - 1, -1, n) s) : wpAny (model prog w) A (Builtin.Slice.sliceApplied (.ref sl) (pure (n : Int))) Q E s := by
  obtain ⟨os, hos, hcs, hds⟩ := id hs
  unfold Builtin.Slice.sliceApplied Builtin.Slice.sliceFields
  refine wpAny_bind (wpAny_bind (wpAny_field hos hds (x := vl) rfl (wpAny_bind (wpAny_field hos hds (x := vu) rfl (wpAny_bind (wpAny_field hos hds (x := vs) rfl (wpAny_pure ?_)))))))
  refine wpAny_bind (HT.slicePart_ ps ?_)
  show wpAny _ _ (if ((-1 : Int) == 0) = true then _ else _) _ _ s
  rw [if_neg (by decide)]
  refine wpAny_bind (HT.slicePart_ pl (wpAny_bind (HT.slicePart_ pu (wpAny_bind (wpAny_pure ?_)))))
  have e : Builtin.Slice.slicePlaces ((n : Int) - 1) (-1) (-1) = n := by
    unfold Builtin.Slice.slicePlaces
    rw [if_neg (by decide)]
    by_cases c : (n : Int) - 1 > -1
    · rw [if_pos c, show -(-1 : Int) = 1 by decide, Int.ediv_one]
      omega
    · rw [if_neg c]
      omega
  show wpAny _ _ (pure ((n : Int) - 1, (-1 : Int), Builtin.Slice.slicePlaces ((n : Int) - 1) (-1) (-1))) _ _ s
  rw [e]
  exact wpAny_pure h
theorem fm_congr {α β : Type} {f g : α → Option β} : ∀ {l : List α}, (∀ x ∈ l, f x = g x) → l.filterMap f = l.filterMap g
  | [], _ => rfl
  | x :: r, h => by
    rw [List.filterMap_cons, List.filterMap_cons, h x List.mem_cons_self, fm_congr fun y hy => h y (List.mem_cons_of_mem _ hy)]
theorem pick_back (xs : Array Value) : ((List.range xs.size).filterMap fun (m : Nat) => xs[((xs.size : Int) - 1 + (m : Int) * -1).toNat]?).toArray = xs.toList.reverse.toArray := by
  have e := PySem.W.krv_pick xs
  unfold slicePick at e
  rw [PySem.W.krv_bounds] at e
  have e2 : ((sliceRange ((xs.size : Int) - 1) (-1) (-1)).filterMap (xs[·]?)).toArray = xs.toList.reverse.toArray := e
  rw [PySem.W.krv_sliceRange, List.filterMap_map] at e2
  rw [← e2]
  refine congrArg List.toArray (fm_congr fun m hm => ?_)
  have := List.mem_range.mp hm
  show xs[((xs.size : Int) - 1 + (m : Int) * -1).toNat]? = xs[xs.size - 1 - m]?
  rw [show ((xs.size : Int) - 1 + (m : Int) * -1).toNat = xs.size - 1 - m by omega]
theorem item_back {t sl : Addr} {items : Array Value} {vl vu vs : Value} {Q : Value → Shared → Prop} (ht : IsTup s.heap t items) (hs : s.heap.IsSliceOf sl vl vu vs) (pl : IsPart vl none) (pu : IsPart vu none) (ps : IsPart vs (some (-1)))
    (h : Q (.ref s.heap.objs.size) { s with heap := s.heap.push { cls := .type "tuple", data := .seq items.toList.reverse.toArray } }) (hsz : items.size ≤ sizeLine) : wpAny (model prog w) A (getItem (.ref t) (.ref sl)) Q E s := by
  have htake : sizeOk (.seq items.toList.reverse.toArray) := by
    show items.toList.reverse.toArray.size ≤ sizeLine
    rw [List.size_toArray, List.length_reverse, Array.length_toList]
    exact hsz
  obtain ⟨os, hos, hcs, hds⟩ := id hs
  have hTs : s.TypeIs (.ref sl) "slice" := ⟨os, hos, hcs⟩
  unfold getItem
  try with_reducible refine wpAny_holding ?_
  first | refine wpAny_bind (wpAny_pure ?_) | skip
  refine wpAny_bind (wpAny_sequenceKey ht.typeIs (by decide) ?_)
  refine wpAny_bind (wpAny_callSpecial?_slot (name := Str.ofString "__getitem__") ht.typeIs PyProof.Rows.slot_tuple_getitem
    (wpAny_call_entry PyProof.Rows.slot_tuple_getitem ht.typeIs entry_tuple_getitem ?_ (args_tuple_getitem _ _)))
  show wpAny _ _ (Builtin.Tuple.tupleItemsOf (.ref t) >>= _) _ _ s
  refine wpAny_bind (tupleItemsOf_ ht ?_)
  refine wpAny_bind (wpAny_typeOf hTs ?_)
  rw [if_pos (by decide)]
  refine wpAny_bind (applied_back hs pl pu ps ?_)
  have hno : ¬ ((((items.size : Int) - 1) == 0 && (-1 : Int) == 1 && items.size == items.size) = true) := by
    intro q
    rw [Bool.and_eq_true, Bool.and_eq_true] at q
    exact absurd q.1.2 (by decide)
  show wpAny _ _ (if (((items.size : Int) - 1) == 0 && (-1 : Int) == 1 && items.size == items.size) = true then _ else _) _ _ s
  rw [if_neg hno, pick_back]
  first
    | exact wpAny_bind (m := Builtin.Tuple.tupleExact _) (wpAny_newObj_type (wpAny_pure ⟨_, rfl, wpAny_pure h⟩) htake)
    | exact wpAny_bind (m := Builtin.Tuple.tupleExact _) (wpAny_newObj_type (wpAny_bind (wpAny_pure (wpAny_pure ⟨_, rfl, wpAny_pure h⟩))) htake)
end
def tRevT (K : PySem.W.Frag) (te : TE) : TE := fun σ H Q => te σ H fun x H1 => ∃ a xs, x = .ref a ∧ SqT K H1 a xs ∧ ∀ p, H1 p = none → Q (.ref p) (upd H1 p (.tup xs.reverse))
section
variable {X : Cx}
theorem pe_revT {e : Expr} {te : TE} {k : Nat} {p1 p2 p3 pos : Pos} (he : PE X e te) : PE X (.Subscript e (.Slice none none (some (.UnaryOp .USub (.Constant (.int 1) k p1) p2)) p3) pos) (tRevT X.K te) := by
  refine ⟨fun pins s σ H Q I h => ?_⟩
  refine Subscript_ (thn (he.run pins s σ H _ I h) fun v s1 ⟨x, H1, I1, r1, q1⟩ => ?_)
  obtain ⟨a, xs, ex, hx, q⟩ := q1
  subst ex
  cases r1
  have hst : PO X (some (.UnaryOp .USub (.Constant (.int 1) k p1) p2)) (tPart (tUn (rU fun i => .int (-i)) (tC (.int 1)))) := po_some (pe_un un_neg pe_int)
  refine wpAny_Slice (thn (po_none.run pins s1 σ H1 (fun o H2 => o = none ∧ H2 = H1) I1 ⟨rfl, rfl⟩) fun vl s2 ⟨l, H2, I2, pl, el, e2⟩ => ?_)
  subst el e2
  refine thn (po_none.run pins s2 σ H2 (fun o H3 => o = none ∧ H3 = H2) I2 ⟨rfl, rfl⟩) fun vu s3 ⟨u, H3, I3, pu, eu, e3⟩ => ?_
  subst eu e3
  refine thn (hst.run pins s3 σ H3 (fun o H4 => o = some (-1) ∧ H4 = H3) I3 ⟨1, rfl, -1, rfl, rfl, rfl⟩) fun vs s4 ⟨o, H4, I4, ps, eo, e4⟩ => ?_
  subst eo e4
  have I5 : Inv X pins σ H4 { s4 with heap := s4.heap.push { cls := .type "slice", data := .fields #[vl, vu, vs] } } := I4.kept (t' := s4.toks) fun b ob q => Heap.get?_push_of_some _ q
  obtain ⟨its, r, ht, hz⟩ := I5.tuple hx
  have hlen := r.length
  show wpAny (model X.prog X.w) X.A (subscriptTail e (.Slice none none (some (.UnaryOp .USub (.Constant (.int 1) k p1) p2)) p3) (.ref a) (.ref s4.heap.objs.size)) (EP X pins σ Q) X.xe { s4 with heap := s4.heap.push { cls := .type "slice", data := .fields #[vl, vu, vs] } }
  refine tail_any (ops := [.ref a, .ref s4.heap.objs.size]) ht.typeIs (PyProof.Rows.slot_tuple_getitem.lookup) ?_ (by with_unfolding_all rfl)
  refine item_back ht (Heap.IsSliceOf.new _ vl vu vs) pl pu ps ?_ (by rw [List.size_toArray]; omega)
  refine ⟨.ref _, _, I5.laid (t' := s4.toks) (o := .tup xs.reverse) (fun b ob q => Heap.get?_push_of_some _ q) (Nat.le_refl _) ?_, rfl, q _ (I5.hok.fresh (Nat.le_refl _))⟩
  exact ⟨by rw [List.length_reverse]; exact hz, its.reverse, r.reverse, IsTup.new _ _⟩
end

/-! ### tuple(d) of a dict: its keys -/
section
variable {prog : Program} {w : World} {A : Around} {E : Value → Shared → Prop} {s : Shared} {T : String} {r d : Addr} {n : Nat} {P : Nat → Value → Prop} {OK : Heap → Prop}
open PySem.W in
theorem collect_src {Q : List Value → Shared → Prop} (K : KdlSrc prog w T r d n P OK) (hh : A.handled = none) (hok : OK s.heap) (hn : n ≤ sizeLine)
    (hQ : ∀ (h' : Heap) (tk : Nat) (acc : Array Value), (∀ b o, s.heap.get? b = some o → h'.get? b = some o) → ItemsOf P acc n → Q acc.toList { s with heap := h', toks := tk }) : wpAny (model prog w) A (collect (.ref r)) Q E s := by
  have hlt := K.there _ hok
  unfold collect
  refine wpAny_bind (wpAny_runValue (codeAny_builtin PySem.F.entry_proto_collect ?_))
  rw [Around.under_plainId PySem.F.plain_proto_collect _]
  show wpAny _ A.in1 (newList [] >>= fun l' => again (.builtin "list.__iadd__" ⟨[l', .ref r], []⟩)) _ _ s
  refine wpAny_bind (wpAny_newObj_type ?_)
  refine wpAny_pure ⟨plainId_quiet PySem.F.plain_list_iadd _, codeAny_builtin PySem.F.entry_list_iadd ?_⟩
  rw [Around.under_plainId PySem.F.plain_list_iadd _]
  have hS₁ : (s.heap.push { cls := .type "list", data := .seq ([] : List Value).toArray }).get? s.heap.objs.size = some { cls := .type "list", data := .seq ([] : List Value).toArray } := Heap.get?_push_size _ rfl
  show wpAny _ A.in1 (Builtin.List.listExtendWith (.ref s.heap.objs.size) (.ref r) (.ref s.heap.objs.size)) _ _ _
  refine wpAny_mono (kdl_extend (A := A) (R := fun rr s' => rr = .ok (.ret (.ref s.heap.objs.size)) ∧ ∃ (h' : Heap) (tk : Nat) (acc : Array Value) (c' : Nat), s' = { s with heap := h', toks := tk } ∧
      (∀ b o, s.heap.get? b = some o → h'.get? b = some o) ∧ h'.get? s.heap.objs.size = some { cls := .type "list", dict := none, data := .seq acc c', slots := #[] } ∧ ItemsOf P acc n)
    (s := { s with heap := s.heap.push { cls := .type "list", data := .seq ([] : List Value).toArray } }) K hh (K.keep _ _ hok fun b _ o e => Heap.get?_push_of_some _ e) s.heap.objs.size (Nat.ne_of_gt hlt.1) (Nat.ne_of_gt hlt.2) (.ref s.heap.objs.size) 0 hS₁
    (fun h' tk acc' c' hk hS' hacc => ⟨rfl, h', tk, acc', c', rfl, fun b o e => hk b o (Nat.ne_of_lt (Heap.lt_size e)) (Heap.get?_push_of_some _ e), hS', hacc⟩) hn) (fun fin s' h => ?_) (fun e s' h => ?_)
  · cases fin with
    | done f =>
      obtain ⟨e, h', tk, acc, c', rfl, hk, hS', hi⟩ := h
      cases e
      show wpAny _ A (load s.heap.objs.size >>= _) _ _ _
      exact wpAny_bind (wpAny_load hS' (wpAny_pure (hQ h' tk acc hk hi)))
    | again c' =>
      refine ⟨h.1, codeAny_mono h.2 fun rr s'' hr' => ?_⟩
      obtain ⟨rfl, h', tk, acc, c', rfl, hk, hS', hi⟩ := hr'
      show wpAny _ A (load s.heap.objs.size >>= _) _ _ _
      exact wpAny_bind (wpAny_load hS' (wpAny_pure (hQ h' tk acc hk hi)))
  · exact absurd h.1 (by simp)
open PySem.W in
theorem code_tuple_src {Q₁ : Value → Shared → Prop} (K : KdlSrc prog w T r d n P OK) (hh : A.handled = none) (hok : OK s.heap) (hn : n ≤ sizeLine)
    (h : ∀ (h' : Heap) (tk : Nat) (acc : Array Value), (∀ b o, s.heap.get? b = some o → h'.get? b = some o) → ItemsOf P acc n → Q₁ (.ref h'.objs.size) { s with heap := h'.push { cls := .type "tuple", data := .seq acc }, toks := tk })
    (ne : (Value.type T == Value.type "tuple") = false) :
    codeAny (model prog w) A (.call (.builtin "tuple.__new__") ⟨[.type "tuple", .ref r], []⟩) (wants Q₁ E) s := by
  refine codeAny_of_tree ?_
  show wpAny _ A.in1 (do checkBuiltinCall "tuple.__new__" ⟨[.type "tuple", .ref r], []⟩; again (.builtin "tuple.__new__" ⟨[.type "tuple", .ref r], []⟩)) _ _ s
  refine wpAny_bind (wpAny_of_eq (PySem.F.newCall_tuple_1 _) (wpAny_pure ⟨plainId_quiet PySem.F.plain_tuple_new _, codeAny_builtin PySem.F.entry_tuple_new ?_⟩))
  rw [Around.under_plainId PySem.F.plain_tuple_new _]
  have hsub := sub_tuple_self
  have hinit := init_tuple_lookup
  have hmh := madeHere_tuple
  have hTI : s.TypeIs (.ref r) T := K.type _ hok
  have hh1 : A.in1.handled = none := hh
  wp_walk using wpAny_typeOf hTI, collect_src (A := A.in1) K hh1 hok hn
  intro h' tk acc hk hacc
  show wpAny _ _ (Builtin.Tuple.tupleExact acc.toList.toArray >>= fun v => ret v) _ _ _
  unfold Builtin.Tuple.tupleExact
  refine wpAny_bind (wpAny_newObj_type ?_ (by show acc.toList.toArray.size ≤ sizeLine; simp only [Array.toArray_toList]; rw [hacc.1]; exact hn))
  refine wpAny_pure ?_
  have e : acc.toList.toArray = acc := by simp
  rw [e]
  exact h h' tk acc hk hacc
open PySem.W in
theorem call_tuple_src {Q : Value → Shared → Prop} (K : KdlSrc prog w T r d n P OK) (hh : A.handled = none) (hok : OK s.heap) (hn : n ≤ sizeLine) (ne : (Value.type T == Value.type "tuple") = false)
    (hQ : ∀ (h' : Heap) (tk : Nat) (acc : Array Value), (∀ b o, s.heap.get? b = some o → h'.get? b = some o) → ItemsOf P acc n → Q (.ref h'.objs.size) { s with heap := h'.push { cls := .type "tuple", data := .seq acc }, toks := tk }) :
    wpAny (model prog w) A (call (.type "tuple") [.ref r]) Q E s := by
  refine callType_codes (Q₁ := fun obj s₁ => s₁.TypeIs obj "tuple" ∧ Q obj s₁) PySem.F.called_tuple (PySem.F.typeCall_tuple_1 _) PySem.F.entry_object_init
    (code_tuple_src (A := A.in1) K hh hok hn (fun h' tk acc hk hacc => ⟨⟨_, Heap.get?_push_size _ rfl, rfl⟩, hQ h' tk acc hk hacc⟩) ne) fun obj s₁ h₁ => ?_
  exact ⟨h₁.1, PySem.F.args_object_init_2 obj _, object_init_meets PySem.F.called_tuple.init.lookup PySem.F.called_tuple.made (by decide) prog w A.in1 _ s₁ ⟨h₁.1, rfl, h₁.2⟩⟩
end
section
variable {X : Cx}
theorem call_tupleD (hcalm : X.calm = true) : CallR X (.type "tuple") (fun xs H Q => ∃ (a : Addr) (kvs : List (Key × V)), xs = [.ref a] ∧ Rd H a (.dK kvs) ∧ ∀ p, H p = none → Q (.ref p) (upd H p (.tup (kvs.map fun kv => kV kv.1)))) := by
  intro pins s σ H xs us Q I r q
  obtain ⟨a, kvs, ex, hd, q⟩ := q
  subst ex
  obtain ⟨u, eu, rx⟩ := vals1 r
  subst eu
  cases rx
  obtain ⟨z, lo, vs, rel, dd⟩ := dk_rd I.hok hd
  obtain ⟨ep, hat⟩ := dd.dictAt
  have ek : (kvs.map fun kv => kV kv.1) = vs.map fun p => kV p.1 := by
    have e := congrArg (List.map kV) rel.keys
    rw [List.map_map, List.map_map] at e
    exact e
  refine call_tuple_src (PySem.W.kdl_dict (knd := mixKind X.prog X.w) (kvs := vs) (ep := ep) lo) (I.ok.hd hcalm) hat (by rw [← rel.length]; exact z) (by decide) fun h' tk acc hk hacc => ?_
  have hv : Vals (vs.map fun p => kV p.1) acc.toList := keys_at (by rw [Array.length_toList]; exact hacc.1) fun j v e => hacc.2 j v (by rw [← Array.getElem?_toList]; exact e)
  have I2 : Inv X pins σ H { s with heap := h', toks := tk } := I.kept (t' := tk) hk
  refine ⟨.ref h'.objs.size, upd H h'.objs.size (.tup (kvs.map fun kv => kV kv.1)), I2.laid (t' := tk) (fun c o e => Heap.get?_push_of_some _ e) (Nat.le_refl _) (show ObjOk X.prog X.w _ _ _ (.tup (kvs.map fun kv => kV kv.1)) from ⟨by rw [List.length_map]; exact z, acc.toList, by rw [ek]; exact hv, ?_⟩), rfl, q _ (I2.hok.fresh (Nat.le_refl _))⟩
  rw [Array.toArray_toList]
  exact IsTup.new _ _
end
end Vr

set_option Elab.async false
set_option linter.all false
set_option maxRecDepth 100000
/-! y = {k: v for ..} on one line; a dict comprehension over enumerate(a list). -/
namespace Vr
open PySem PySem.Spec PyProof.Rows L2
section
variable {X : Cx}
theorem sw_trueD {k v : Expr} {gs : List Comprehension} {scope : Scope} {pos py : Pos} {y : Str} {l : Nat} {env : Env} (hk : env.scope.kind = .function) (hy : env.scope.names.lookup y = some .local) (hl : (py.line == pos.line) = true)
    (ha : (scope.names.any fun (n, k) => n == y && (k == .local || k == .cell)) = false) : swapsWith (.DictComp k v gs scope pos) (some (.Name y py)) l env = pure true := by
  have ky : env.kindOf y = some .local := hy
  have hb : env.blockKind = .function := by
    unfold Env.blockKind
    rw [hk]
    rfl
  unfold swapsWith
  simp only [hb, ky, ha, Expr.pos, hl]
  rfl
theorem ps_setDc {i : Nat} {y : Str} {py : Pos} {kx vx tg iter : Expr} {ifs : List Expr} {scope : Scope} {own : List (Str × Nat)} {pos spos : Pos} {wi : TI} {g : TG} {tt : TT} {tk tv : TE} (hc : X.calm = true) (hN : X.N.Nodup) (hy : X.N[i]? = some y) (hyl : X.env.scope.names.lookup y = some .local)
    (hsw : swapsWith (.DictComp kx vx [⟨tg, iter, ifs, 0⟩] scope pos) (some (.Name y py)) spos.line X.env = pure true) (hi : PI X tg iter wi) (ok : BlkOk X.N X.env.scope scope own)
    (hg : ∀ (s : Shared) (H : Hp) (C : Addr) (cl : List (Str × Addr)) (fp : List Addr), PG (X.blk s H scope (compEnvC scope cl C X.env) fp) tg g) (ht : ∀ (s : Shared) (H : Hp) (C : Addr) (cl : List (Str × Addr)) (fp : List Addr), PTs (X.blk s H scope (compEnvC scope cl C X.env) fp) ifs tt)
    (hk : ∀ (s : Shared) (H : Hp) (C : Addr) (cl : List (Str × Addr)) (fp : List Addr), PE (X.blk s H scope (compEnvC scope cl C X.env) fp) kx tk)
    (he : ∀ (s : Shared) (H : Hp) (C : Addr) (cl : List (Str × Addr)) (fp : List Addr), PE (X.blk s H scope (compEnvC scope cl C X.env) fp) vx tv) (hs : ∀ x, foldedSetIterable iter X.env x = pure x := by intro _; rfl) :
    PS X (.Assign [.Name y py] (.DictComp kx vx [⟨tg, iter, ifs, 0⟩] scope pos) spos) (tAsg (tDc wi g tt tk tv (own.map (·.2))) (gName i)) := by
  refine ⟨fun pins s σ H D I h => ?_⟩
  rw [exec_Assign_Name_used _ _ _ _ hsw]
  refine wpAny_bind (wpAny_standAt (wpAny_bind ?_))
  show wpAny _ X.A (do let _ ← comprehension (.DictComp kx vx [⟨tg, iter, ifs, 0⟩] scope pos) scope X.env (firstIterPos [⟨tg, iter, ifs, 0⟩] pos) newDict false (eval iter X.env) (some (assign (.Name y py) X.env))) _ _ s
  have h : tDc wi g tt tk tv (own.map (·.2)) σ H (fun x H1 => gName i x σ H1 D.nx) := h
  refine wpAny_bind (thn (dc_core (Qf := fun _ s' => SP X pins D .next s') hc hN I hi ok hg ht hk he hs h fun L C s' m H' I' q hn f => ?_) fun _ s' hq => wpAny_pure (wpAny_pure hq))
  show wpAny _ _ (assign (.Name y py) X.env (.ref L)) _ _ _
  refine wpAny_assign_Name (store_ok2 (v := V.ref L) I' hN hy (.inl hyl) rfl (fun s2 I2 ⟨a, sb, ha⟩ => ?_) (.inr hyl))
  obtain ⟨f0, f1, f2, f3, f4, f5⟩ := f
  have haC : C ≠ a := by
    rcases ha with z | z
    · rw [z]
      exact f1
    · exact fun e => f4 y a z e.symm
  refine ⟨m, hn.sameBut sb haC, fun h3 sb3 => ?_⟩
  exact ⟨_, H', I2.turned (t' := s2.toks) (fun b o hb e => (sb3.2 b hb).trans e) f0 f1 f3 f4 f5, q⟩
end
/-- {k: v for a, b in enumerate(l)}: Pv by the turn and the heap, the dict at D within; the pair of a turn is a new tuple at T -/
theorem dc_enum {K : PySem.W.Frag} {a : Addr} {xs : List V} {g : TG} {tt : TT} {tk tv : TE} {vs : List Nat} {σ : L2.St} {H1 : Hp} {D : Addr} {Qd : Hp → Prop} (Pv : Nat → Hp → Prop) (h0 : Pv 0 (upd H1 D (.dK []))) (hl : ∀ i H, i ≤ xs.length → Pv i H → SqL K H a xs)
    (hs : ∀ i x T H, xs[i]? = some x → H T = none → Pv i H → g (.ref T) (wipe σ vs) (upd H T (.tup [.int (i : Nat), x])) fun σ2 H2 => wipe σ2 vs = wipe σ vs ∧ tt σ2 H2 fun b H3 =>
      if b = true then tk σ2 H3 fun y H4 => tv σ2 H4 fun z H5 => ∃ kvs k, y = kV k ∧ H5 D = some (.dK kvs) ∧ kvs.length < sizeLine ∧ Pv (i + 1) (upd H5 D (.dK (putK kvs k z))) else Pv (i + 1) H3) (hd : ∀ H, Pv xs.length H → Qd H) :
    ∃ W : Nat → Nat → Hp → Prop, (∃ m, W 0 m (upd H1 D (.dK []))) ∧ ∀ i m H, W i m H →
      ((Ite K a).stop i H ∧ Qd H) ∨ ((Ite K a).go i H ∧ ∃ Nx : Hp → Prop, (∀ H', Nx H' → ∃ m', m' < m ∧ W (i + 1) m' H') ∧ ∀ x H', (Ite K a).yld i H x H' → g x (wipe σ vs) H' fun σ2 H2 => wipe σ2 vs = wipe σ vs ∧ tt σ2 H2 fun b H3 =>
        if b = true then tk σ2 H3 fun y H4 => tv σ2 H4 fun z H5 => ∃ kvs k, y = kV k ∧ H5 D = some (.dK kvs) ∧ kvs.length < sizeLine ∧ Nx (upd H5 D (.dK (putK kvs k z))) else Nx H3) := by
  refine ⟨fun i m H => m = xs.length - i ∧ i ≤ xs.length ∧ Pv i H, ⟨xs.length, by simp, Nat.zero_le _, h0⟩, ?_⟩
  rintro i m H ⟨rfl, hi, p⟩
  have q := hl i H hi p
  by_cases hlt : i < xs.length
  · refine .inr ⟨⟨xs, xs[i], q, by simp [hlt]⟩, Pv (i + 1), fun H' p' => ⟨xs.length - (i + 1), by omega, rfl, hlt, p'⟩, fun x H' y => ?_⟩
    obtain ⟨T, z, rfl, nT, rfl, y⟩ := y
    exact hs i z T H (y xs q) nT p
  · have e : i = xs.length := by omega
    subst e
    exact .inl ⟨⟨xs, q, Nat.le_refl _⟩, hd H p⟩
end Vr

set_option Elab.async false
set_option linter.all false
set_option maxRecDepth 100000
namespace Vs
open PySem PySem.Spec PyProof.Rows L2
/-! ### heaps: the tuples stay -/
def ST (H H' : Hp) : Prop := ∀ b xs, H b = some (.tup xs) → H' b = some (.tup xs)
theorem ST.refl (H : Hp) : ST H H := fun _ _ h => h
theorem ST.trans {H H1 H2 : Hp} (a : ST H H1) (b : ST H1 H2) : ST H H2 := fun c o h => b c o (a c o h)
theorem ST.same {H H' : Hp} (h : Same H H') : ST H H' := fun b xs e => h b _ e
theorem ST.lst {H : Hp} {l : Addr} {xs : List V} (h : H l = some (.lst xs)) (o : HO) : ST H (upd H l o) := fun b ys e => by
  rw [upd_ne (ne_of e h (fun z => by cases z))]
  exact e
theorem ST.dct {H : Hp} {l : Addr} {xs : List (Key × V)} (h : H l = some (.dK xs)) (o : HO) : ST H (upd H l o) := fun b ys e => by
  rw [upd_ne (ne_of e h (fun z => by cases z))]
  exact e
theorem same_upd {H : Hp} {p : Addr} {o : HO} (h : H p = none) : Same H (upd H p o) := fun b x e => by
  rw [upd_ne (ne_of_none e h)]
  exact e
/-- H keeps what stood before l was made -/
theorem same_skip {H H' : Hp} {l : Addr} {o : HO} (h : Same H H') (hl : H l = none) : Same H (upd H' l o) := fun b x e => by
  rw [upd_ne (ne_of_none e hl)]
  exact h _ _ e
theorem zz (n : Nat) (h : n ≤ 1000 := by decide) : n ≤ sizeLine := Nat.le_of_lt (small1000 h)
/-! ### lists of ints -/
theorem cut_front (ns : List Int) : ∃ ms : List Int, cutV (ns.map V.int) none (some 63) = ms.map V.int ∧ ms.length ≤ 63 := by
  refine ⟨ns.take (min 63 ns.length), ?_, ?_⟩
  · unfold cutV
    rw [HT.sIx_none, List.drop_zero, Nat.sub_zero, List.map_take, List.length_map]
    exact congrArg (fun z => List.take z (ns.map V.int)) (HT.sIx_nat ns.length ns.length 63)
  · rw [List.length_take]
    omega
theorem snoc_map (cs : List Int) (x : Int) : cs.map V.int ++ [.int x] = (cs ++ [x]).map V.int := by
  rw [List.map_append]
  rfl
theorem int_at {ns : List Int} {i : Int} (h0 : 0 ≤ i) (h1 : i < (ns.length : Int)) : ∃ v : Int, atI (ns.map V.int) i = some (.int v) ∧ v ∈ ns := by
  obtain ⟨j, hj⟩ : ∃ j : Nat, i = (j : Int) := ⟨_, (Int.toNat_of_nonneg h0).symm⟩
  have hj2 : j < ns.length := by omega
  refine ⟨ns[j], ?_, List.getElem_mem hj2⟩
  rw [hj]
  refine atI_nat ?_
  rw [List.getElem?_map, List.getElem?_eq_getElem hj2]
  rfl
theorem cut_last (xs : List V) (v : V) : cutV (xs ++ [v]) none (some (-1)) = xs ∧ ¬ (HT.sIx (xs ++ [v]).length 0 none = 0 ∧ HT.sIx (xs ++ [v]).length (xs ++ [v]).length (some (-1)) = (xs ++ [v]).length) := by
  have e : HT.sIx (xs ++ [v]).length (xs ++ [v]).length (some (-1)) = xs.length := by
    show (if (-1 : Int) < 0 then ((-1 : Int) + ((xs ++ [v]).length : Int)).toNat else min (-1 : Int).toNat (xs ++ [v]).length) = _
    rw [if_pos (by decide), List.length_append, List.length_singleton]
    omega
  refine ⟨?_, ?_⟩
  · unfold cutV
    rw [e, HT.sIx_none, List.drop_zero, Nat.sub_zero]
    exact List.take_left
  · rw [e, List.length_append, List.length_singleton]
    omega
/-- the number that a draw gives -/
def pk (ts : List Int) (at_ many : Int) : Int := ts.getD (at_ % (ts.length : Int)).toNat 0 % many
theorem pk_lo {ts : List Int} {a m : Int} (h : 0 < m) : 0 ≤ pk ts a m := Int.emod_nonneg _ (by omega)
theorem pk_hi {ts : List Int} {a m : Int} (h : 0 < m) : pk ts a m < m := Int.emod_lt_of_pos _ h

/-! ### shapes as data -/
inductive D where
  | v (n : Int)
  | c (s : Int) (as : List D)
  | t (as : List D)
  | f (a b : D)
def D.kids : D → List D
  | .v _ => []
  | .c _ as => as
  | .t as => as
  | .f a b => [a, b]
def D.isV : D → Bool
  | .v _ => true
  | _ => false
mutual
def D.size : D → Nat
  | .v _ => 1
  | .c _ as => 1 + D.sizeL as
  | .t as => 1 + D.sizeL as
  | .f a b => 1 + (a.size + (b.size + 0))
def D.sizeL : List D → Nat
  | [] => 0
  | x :: r => x.size + D.sizeL r
end
mutual
def D.depth : D → Nat
  | .v _ => 1
  | .c _ as => 1 + D.depthL as
  | .t as => 1 + D.depthL as
  | .f a b => 1 + max a.depth (max b.depth 0)
def D.depthL : List D → Nat
  | [] => 0
  | x :: r => max x.depth (D.depthL r)
end
mutual
def D.sub (m : Int → Option D) : D → D
  | .v n => (m n).getD (.v n)
  | .c s as => .c s (D.subL m as)
  | .t as => .t (D.subL m as)
  | .f a b => .f (a.sub m) (b.sub m)
def D.subL (m : Int → Option D) : List D → List D
  | [] => []
  | x :: r => x.sub m :: D.subL m r
end
mutual
def D.py : D → PyData
  | .v n => .tuple [.str "v", .int n]
  | .c s as => .tuple [.str "c", .int s, .tuple (D.pyL as)]
  | .t as => .tuple [.str "t", .tuple (D.pyL as)]
  | .f a b => .tuple [.str "f", a.py, b.py]
def D.pyL : List D → List PyData
  | [] => []
  | x :: r => x.py :: D.pyL r
end
theorem size_kids : ∀ d : D, d.size = 1 + D.sizeL d.kids
  | .v _ => rfl
  | .c _ _ => by simp only [D.size, D.kids]
  | .t _ => by simp only [D.size, D.kids]
  | .f a b => by simp only [D.size, D.kids, D.sizeL]
theorem depth_kids : ∀ d : D, d.depth = 1 + D.depthL d.kids
  | .v _ => rfl
  | .c _ _ => by simp only [D.depth, D.kids]
  | .t _ => by simp only [D.depth, D.kids]
  | .f a b => by simp only [D.depth, D.kids, D.depthL]
theorem size_pos (d : D) : 1 ≤ d.size := by
  rw [size_kids]
  omega
theorem depth_pos (d : D) : 1 ≤ d.depth := by
  rw [depth_kids]
  omega
theorem sub_kids (m : Int → Option D) : ∀ d : D, d.isV = false → (d.sub m).kids = D.subL m d.kids
  | .v _, h => by cases h
  | .c _ _, _ => by simp only [D.sub, D.kids]
  | .t _, _ => by simp only [D.sub, D.kids]
  | .f _ _, _ => by simp only [D.sub, D.kids, D.subL]
theorem subL_map (m : Int → Option D) : ∀ as : List D, D.subL m as = as.map (D.sub m)
  | [] => rfl
  | x :: r => by rw [D.subL, subL_map m r, List.map_cons]
theorem subL_len (m : Int → Option D) (as : List D) : (D.subL m as).length = as.length := by rw [subL_map, List.length_map]
theorem sizeL_app : ∀ a b : List D, D.sizeL (a ++ b) = D.sizeL a + D.sizeL b
  | [], b => by rw [List.nil_append, D.sizeL, Nat.zero_add]
  | x :: r, b => by rw [List.cons_append, D.sizeL, D.sizeL, sizeL_app r b, Nat.add_assoc]
theorem depthL_app : ∀ a b : List D, D.depthL (a ++ b) = max (D.depthL a) (D.depthL b)
  | [], b => by rw [List.nil_append, D.depthL, Nat.zero_max]
  | x :: r, b => by rw [List.cons_append, D.depthL, D.depthL, depthL_app r b, Nat.max_assoc]
theorem depthL_mem {x : D} : ∀ {l : List D}, x ∈ l → x.depth ≤ D.depthL l
  | y :: r, h => by
    rw [D.depthL]
    rcases List.mem_cons.mp h with rfl | h
    · omega
    · have := depthL_mem h
      omega
theorem depthL_ex : ∀ {l : List D}, l ≠ [] → ∃ x ∈ l, x.depth = D.depthL l
  | [], h => absurd rfl h
  | [x], _ => ⟨x, List.mem_cons_self, by rw [D.depthL, D.depthL]; omega⟩
  | x :: y :: r, _ => by
    obtain ⟨z, hz, e⟩ := depthL_ex (l := y :: r) (List.cons_ne_nil _ _)
    by_cases h : x.depth ≤ D.depthL (y :: r)
    · exact ⟨z, List.mem_cons_of_mem _ hz, by rw [D.depthL, e]; omega⟩
    · exact ⟨x, List.mem_cons_self, by rw [D.depthL]; omega⟩
/-- a node with other parts -/
def D.with : D → List D → D
  | .v n, _ => .v n
  | .c s _, ds => .c s ds
  | .t _, ds => .t ds
  | .f a b, ds => .f (ds.getD 0 a) (ds.getD 1 b)
theorem with_sub (m : Int → Option D) : ∀ d : D, d.isV = false → d.with (D.subL m d.kids) = d.sub m
  | .v _, h => by cases h
  | .c _ _, _ => by simp only [D.sub, D.kids, D.with]
  | .t _, _ => by simp only [D.sub, D.kids, D.with]
  | .f a b, _ => by
    simp only [D.sub, D.kids, D.with, D.subL]
    rfl
mutual
theorem sub_none (m : Int → Option D) (h : ∀ n, m n = none) : ∀ d : D, d.sub m = d
  | .v n => by rw [D.sub, h n]; rfl
  | .c s as => by rw [D.sub, subL_none m h as]
  | .t as => by rw [D.sub, subL_none m h as]
  | .f a b => by rw [D.sub, sub_none m h a, sub_none m h b]
theorem subL_none (m : Int → Option D) (h : ∀ n, m n = none) : ∀ as : List D, D.subL m as = as
  | [] => rfl
  | x :: r => by rw [D.subL, sub_none m h x, subL_none m h r]
end
mutual
theorem py_lay : ∀ d : D, d.py.canLay0 = true
  | .v n => by
    rw [D.py]
    show (_ && (true && true)) = true
    decide +kernel
  | .c s as => by
    rw [D.py]
    show ((PyData.str "c").canLay0 && (true && (PyData.canLayAll0 (D.pyL as) && true))) = true
    rw [pyL_lay as]
    decide +kernel
  | .t as => by
    rw [D.py]
    show ((PyData.str "t").canLay0 && (PyData.canLayAll0 (D.pyL as) && true)) = true
    rw [pyL_lay as]
    decide +kernel
  | .f a b => by
    rw [D.py]
    show ((PyData.str "f").canLay0 && (a.py.canLay0 && (b.py.canLay0 && true))) = true
    rw [py_lay a, py_lay b]
    decide +kernel
theorem pyL_lay : ∀ as : List D, PyData.canLayAll0 (D.pyL as) = true
  | [] => rfl
  | x :: r => by
    rw [D.pyL]
    show (x.py.canLay0 && PyData.canLayAll0 (D.pyL r)) = true
    rw [py_lay x, pyL_lay r]
    rfl
end
mutual
theorem py_depth : ∀ d : D, d.py.depth ≤ 2 * d.depth
  | .v n => by
    simp only [D.py, PyData.depth, PyData.depthAll, D.depth]
    omega
  | .c s as => by
    have := pyL_depth as
    simp only [D.py, PyData.depth, PyData.depthAll, D.depth]
    omega
  | .t as => by
    have := pyL_depth as
    simp only [D.py, PyData.depth, PyData.depthAll, D.depth]
    omega
  | .f a b => by
    have := py_depth a
    have := py_depth b
    simp only [D.py, PyData.depth, PyData.depthAll, D.depth]
    omega
theorem pyL_depth : ∀ as : List D, PyData.depthAll (D.pyL as) ≤ 2 * D.depthL as
  | [] => by simp only [D.pyL, PyData.depthAll, D.depthL]; omega
  | x :: r => by
    have := py_depth x
    have := pyL_depth r
    simp only [D.pyL, PyData.depthAll, D.depthL]
    omega
end
theorem py_self (d : D) : PyData.eqv d.py d.py = true := SeqAt.eqv_refl d.py (py_lay d)

/-! ### shapes in the heap -/
/-- a tuple: made in the run, or written at the top -/
def TA (K : PySem.W.Frag) (H : Hp) (a : Addr) (xs : List V) : Prop :=
  H a = some (.tup xs) ∨ ∃ (o : Obj) (its : Array Value) (n : Nat), K.lookup a = some o ∧ o.cls = .type "tuple" ∧ o.data = .seq its n ∧ its.size ≤ sizeLine ∧ Vals xs its.toList
theorem TA.of {K : PySem.W.Frag} {H : Hp} {a : Addr} {xs : List V} (h : H a = some (.tup xs)) : TA K H a xs := .inl h
theorem TA.sq {K : PySem.W.Frag} {H : Hp} {a : Addr} {xs : List V} (h : TA K H a xs) : SqT K H a xs := by
  rcases h with h | h
  · exact .inl (.inl h)
  · exact .inr h
theorem TA.mono {K : PySem.W.Frag} {H H' : Hp} (s : ST H H') {a : Addr} {xs : List V} (h : TA K H a xs) : TA K H' a xs := by
  rcases h with h | h
  · exact .inl (s _ _ h)
  · exact .inr h
mutual
inductive Rp (K : PySem.W.Frag) (H : Hp) : V → D → Prop
  | v {p : Addr} {n : Int} : TA K H p [.str "v", .int n] → Rp K H (.ref p) (.v n)
  | c {p q : Addr} {s : Int} {vs : List V} {as : List D} : TA K H p [.str "c", .int s, .ref q] → TA K H q vs → RpL K H vs as → Rp K H (.ref p) (.c s as)
  | t {p q : Addr} {vs : List V} {as : List D} : TA K H p [.str "t", .ref q] → TA K H q vs → RpL K H vs as → Rp K H (.ref p) (.t as)
  | f {p : Addr} {x y : V} {a b : D} : TA K H p [.str "f", x, y] → Rp K H x a → Rp K H y b → Rp K H (.ref p) (.f a b)
inductive RpL (K : PySem.W.Frag) (H : Hp) : List V → List D → Prop
  | nil : RpL K H [] []
  | cons {v : V} {vs : List V} {d : D} {ds : List D} : Rp K H v d → RpL K H vs ds → RpL K H (v :: vs) (d :: ds)
end
section
variable {K : PySem.W.Frag} {H H' : Hp}
mutual
theorem Rp.mono (s : ST H H') : ∀ {d : D} {v : V}, Rp K H v d → Rp K H' v d
  | .v _, _, h => by
    cases h with
    | v h => exact .v (h.mono s)
  | .c _ as, _, h => by
    cases h with
    | c h1 h2 h3 => exact .c (h1.mono s) (h2.mono s) (RpL.mono s h3)
  | .t as, _, h => by
    cases h with
    | t h1 h2 h3 => exact .t (h1.mono s) (h2.mono s) (RpL.mono s h3)
  | .f a b, _, h => by
    cases h with
    | f h1 h2 h3 => exact .f (h1.mono s) (Rp.mono s h2) (Rp.mono s h3)
theorem RpL.mono (s : ST H H') : ∀ {ds : List D} {vs : List V}, RpL K H vs ds → RpL K H' vs ds
  | [], _, h => by
    cases h
    exact .nil
  | d :: r, _, h => by
    cases h with
    | cons h1 h2 => exact .cons (Rp.mono s h1) (RpL.mono s h2)
end
theorem Rp.same (s : Same H H') {d : D} {v : V} (h : Rp K H v d) : Rp K H' v d := h.mono (ST.same s)
theorem RpL.same (s : Same H H') {d : List D} {v : List V} (h : RpL K H v d) : RpL K H' v d := h.mono (ST.same s)
mutual
theorem Rp.dp : ∀ {d : D} {v : V}, Rp K H v d → Dp K H v d.py
  | .v n, _, h => by
    cases h with
    | v h => rw [D.py]; exact .tup h.sq (.cons (.str _) (.cons (.int _) .nil))
  | .c _ as, _, h => by
    cases h with
    | c h1 h2 h3 => rw [D.py]; exact .tup h1.sq (.cons (.str _) (.cons (.int _) (.cons (.tup h2.sq (RpL.dp h3)) .nil)))
  | .t as, _, h => by
    cases h with
    | t h1 h2 h3 => rw [D.py]; exact .tup h1.sq (.cons (.str _) (.cons (.tup h2.sq (RpL.dp h3)) .nil))
  | .f a b, _, h => by
    cases h with
    | f h1 h2 h3 => rw [D.py]; exact .tup h1.sq (.cons (.str _) (.cons (Rp.dp h2) (.cons (Rp.dp h3) .nil)))
theorem RpL.dp : ∀ {ds : List D} {vs : List V}, RpL K H vs ds → DpAll K H vs (D.pyL ds)
  | [], _, h => by
    cases h
    exact .nil
  | d :: r, _, h => by
    cases h with
    | cons h1 h2 => rw [D.pyL]; exact .cons (Rp.dp h1) (RpL.dp h2)
end
theorem RpL.len : ∀ {ds : List D} {vs : List V}, RpL K H vs ds → vs.length = ds.length
  | [], _, h => by cases h; rfl
  | d :: r, _, h => by
    cases h with
    | cons h1 h2 => rw [List.length_cons, List.length_cons, RpL.len h2]
theorem RpL.get : ∀ {ds : List D} {vs : List V} {i : Nat} {x : V}, RpL K H vs ds → vs[i]? = some x → ∃ d, ds[i]? = some d ∧ Rp K H x d
  | [], _, i, x, h, e => by cases h; cases e
  | d :: r, _, 0, x, h, e => by
    cases h with
    | cons h1 h2 => cases e; exact ⟨_, rfl, h1⟩
  | d :: r, _, i + 1, x, h, e => by
    cases h with
    | cons h1 h2 => exact RpL.get (i := i) h2 e
theorem RpL.at : ∀ {ds : List D} {vs : List V} {i : Nat} {d : D}, RpL K H vs ds → ds[i]? = some d → ∃ x, vs[i]? = some x ∧ Rp K H x d
  | [], _, i, x, h, e => by cases e
  | d :: r, _, 0, x, h, e => by
    cases h with
    | cons h1 h2 => cases e; exact ⟨_, rfl, h1⟩
  | d :: r, _, i + 1, x, h, e => by
    cases h with
    | cons h1 h2 => exact RpL.at (i := i) h2 e
theorem RpL.app : ∀ {ds es : List D} {vs ws : List V}, RpL K H vs ds → RpL K H ws es → RpL K H (vs ++ ws) (ds ++ es)
  | [], _, _, _, h, g => by cases h; exact g
  | d :: r, _, _, _, h, g => by
    cases h with
    | cons h1 h2 => exact .cons h1 (RpL.app h2 g)
/-- what stands first in a shape's tuple -/
theorem Rp.tag : ∀ {d : D} {v : V}, Rp K H v d → ∃ p k rest, v = .ref p ∧ TA K H p (.str k :: rest) ∧ (d.isV = true ↔ k = "v") ∧ ((∃ a b, d = .f a b) ↔ k = "f")
  | .v n, _, h => by
    cases h with
    | v h => exact ⟨_, _, _, rfl, h, ⟨fun _ => rfl, fun _ => rfl⟩, ⟨fun ⟨_, _, e⟩ => (by cases e), fun e => absurd e (by decide +kernel)⟩⟩
  | .c _ as, _, h => by
    cases h with
    | c h1 h2 h3 => exact ⟨_, _, _, rfl, h1, ⟨fun e => (by cases e), fun e => absurd e (by decide +kernel)⟩, ⟨fun ⟨_, _, e⟩ => (by cases e), fun e => absurd e (by decide +kernel)⟩⟩
  | .t as, _, h => by
    cases h with
    | t h1 h2 h3 => exact ⟨_, _, _, rfl, h1, ⟨fun e => (by cases e), fun e => absurd e (by decide +kernel)⟩, ⟨fun ⟨_, _, e⟩ => (by cases e), fun e => absurd e (by decide +kernel)⟩⟩
  | .f a b, _, h => by
    cases h with
    | f h1 h2 h3 => exact ⟨_, _, _, rfl, h1, ⟨fun e => (by cases e), fun e => absurd e (by decide +kernel)⟩, ⟨fun _ => rfl, fun _ => ⟨_, _, rfl⟩⟩⟩
end

theorem zbig {n : Nat} (h : n ≤ 100000) : n < sizeLine := Nat.lt_of_le_of_lt h (by decide)
theorem iteY {A B : Prop} {x : V} (h : A) : if decide (x = x) = true then A else B := by
  rw [decide_eq_true rfl, if_pos rfl]
  exact h
theorem iteN {A B : Prop} {x y : V} (hne : x ≠ y) (h : B) : if decide (x = y) = true then A else B := by
  rw [decide_eq_false hne, if_neg Bool.false_ne_true]
  exact h
/-! ### the stack of a walk -/
def szS : List (D × Nat) → Nat
  | [] => 0
  | x :: r => x.1.size + szS r
def dpS : List (D × Nat) → Nat
  | [] => 0
  | x :: r => max (x.2 + x.1.depth - 1) (dpS r)
theorem szS_app : ∀ a b : List (D × Nat), szS (a ++ b) = szS a + szS b
  | [], b => by rw [List.nil_append, szS, Nat.zero_add]
  | x :: r, b => by rw [List.cons_append, szS, szS, szS_app r b, Nat.add_assoc]
theorem dpS_app : ∀ a b : List (D × Nat), dpS (a ++ b) = max (dpS a) (dpS b)
  | [], b => by rw [List.nil_append, dpS, Nat.zero_max]
  | x :: r, b => by rw [List.cons_append, dpS, dpS, dpS_app r b, Nat.max_assoc]
def push (l : Nat) (ds : List D) : List (D × Nat) := ds.map fun d => (d, l)
theorem szS_push (l : Nat) : ∀ ds : List D, szS (push l ds) = D.sizeL ds
  | [] => rfl
  | x :: r => by
    show x.size + szS (push l r) = x.size + D.sizeL r
    rw [szS_push l r]
theorem dpS_push (l : Nat) : ∀ ds : List D, ds ≠ [] → dpS (push l ds) = l + D.depthL ds - 1
  | [], h => absurd rfl h
  | [x], _ => by
    show max (l + x.depth - 1) 0 = l + D.depthL [x] - 1
    simp only [D.depthL]
    omega
  | x :: y :: r, _ => by
    show max (l + x.depth - 1) (dpS (push l (y :: r))) = l + D.depthL (x :: y :: r) - 1
    rw [dpS_push l (y :: r) (List.cons_ne_nil _ _)]
    have e : D.depthL (x :: y :: r) = max x.depth (D.depthL (y :: r)) := by simp only [D.depthL]
    rw [e]
    have h1 := depth_pos x
    have h2 : 1 ≤ D.depthL (y :: r) := by
      rw [D.depthL]
      have := depth_pos y
      omega
    omega
theorem len_szS : ∀ its : List (D × Nat), its.length ≤ szS its
  | [] => Nat.le_refl _
  | x :: r => by
    have h1 := len_szS r
    have h2 := size_pos x.1
    show r.length + 1 ≤ x.1.size + szS r
    omega
inductive Stk (K : PySem.W.Frag) (H : Hp) : List V → List (D × Nat) → Prop
  | nil : Stk K H [] []
  | cons {p : Addr} {x : V} {d : D} {l : Nat} {ws : List V} {its : List (D × Nat)} : H p = some (.tup [x, .int (l : Int)]) → Rp K H x d → Stk K H ws its → Stk K H (.ref p :: ws) ((d, l) :: its)
section
variable {K : PySem.W.Frag} {H H' : Hp}
theorem Stk.mono (s : ST H H') {ws : List V} {its : List (D × Nat)} (h : Stk K H ws its) : Stk K H' ws its := by
  induction h with
  | nil => exact .nil
  | cons h1 h2 _ ih => exact .cons (s _ _ h1) (h2.mono s) ih
theorem Stk.len {ws : List V} {its : List (D × Nat)} (h : Stk K H ws its) : ws.length = its.length := by
  induction h with
  | nil => rfl
  | cons h1 h2 _ ih => rw [List.length_cons, List.length_cons, ih]
theorem Stk.app {ws vs : List V} {its jts : List (D × Nat)} (h : Stk K H ws its) (g : Stk K H vs jts) : Stk K H (ws ++ vs) (its ++ jts) := by
  induction h with
  | nil => exact g
  | cons h1 h2 _ ih => exact .cons h1 h2 ih
/-- the last of the stack -/
theorem Stk.last {ws : List V} {its : List (D × Nat)} (h : Stk K H ws its) : (ws = [] ∧ its = []) ∨ ∃ ws' its' p x d l, ws = ws' ++ [.ref p] ∧ its = its' ++ [(d, l)] ∧ Stk K H ws' its' ∧ H p = some (.tup [x, .int ((l : Nat) : Int)]) ∧ Rp K H x d := by
  induction h with
  | nil => exact .inl ⟨rfl, rfl⟩
  | @cons p x d l ws its h1 h2 h3 ih =>
    rcases ih with ⟨rfl, rfl⟩ | ⟨ws', its', p', x', d', l', rfl, rfl, h4, h5, h6⟩
    · exact .inr ⟨[], [], p, x, d, l, rfl, rfl, .nil, h1, h2⟩
    · exact .inr ⟨.ref p :: ws', (d, l) :: its', p', x', d', l', rfl, rfl, .cons h1 h2 h4, h5, h6⟩
end
theorem last_get (xs : List V) (y : V) : (xs ++ [y])[(xs ++ [y]).length - 1]? = some y := by
  rw [List.length_append, List.length_singleton, Nat.add_sub_cancel, List.getElem?_append_right (Nat.le_refl _), Nat.sub_self]
  rfl
structure Own (P : Program) (w : World) (K : PySem.W.Frag) (mg : Str → Option Value) (base : Heap) (CX : CXT) (n : Nat) (x : Str) (f : Addr) (fd : FuncData) (ps : List Str) (sp : Sp) : Prop where
  ok : FnOk P w K mg base CX n f fd ps sp
  bd : Binds K fd ps []
  kp : PySem.W.keepIn K (.ref f) = true
  at_ : mg x = some (.ref f)
/-! ### promises of the program's functions -/
def spParts (K : PySem.W.Frag) : Sp := fun vs H Q _ => ∃ (x : V) (d : D), vs = [x] ∧ Rp K H x d ∧ ∀ H' q ws, Same H H' → TA K H' q ws → RpL K H' ws d.kids → Q (.ref q) H'
def spWith (K : PySem.W.Frag) : Sp := fun vs H Q _ => ∃ (x : V) (d : D) (L : Addr) (ws : List V) (ds : List D), vs = [x, .ref L] ∧ Rp K H x d ∧ d.isV = false ∧ H L = some (.lst ws) ∧ RpL K H ws ds ∧ ds.length = d.kids.length ∧
  ∀ H' v', Same H H' → Rp K H' v' (d.with ds) → Q v' H'
def spMeas (K : PySem.W.Frag) : Sp := fun vs H Q _ => ∃ (x : V) (d : D), vs = [x] ∧ Rp K H x d ∧ d.size ≤ 90000 ∧ ∀ H' r, Same H H' → H' r = some (.tup [.int (d.size : Int), .int (d.depth : Int)]) → Q (.ref r) H'

/-! ### mappings -/
def lk (ms : List (Int × D)) (n : Int) : Option D := (ms.find? fun p => decide (p.1 = n)).map (·.2)
theorem lk_nil (n : Int) : lk [] n = none := rfl
theorem lk_pos {p : Int × D} {r : List (Int × D)} {n : Int} (e : p.1 = n) : lk (p :: r) n = some p.2 := by simp [lk, List.find?_cons, e]
theorem lk_neg {p : Int × D} {r : List (Int × D)} {n : Int} (e : ¬ p.1 = n) : lk (p :: r) n = lk r n := by simp [lk, List.find?_cons, e]
theorem lk_mem {ms : List (Int × D)} {n : Int} {e : D} (h : lk ms n = some e) : (n, e) ∈ ms := by
  induction ms with
  | nil => cases h
  | cons p r ih =>
    by_cases c : p.1 = n
    · rw [lk_pos c] at h
      cases h
      subst c
      exact List.mem_cons_self
    · rw [lk_neg c] at h
      exact List.mem_cons_of_mem _ (ih h)
inductive MpL (K : PySem.W.Frag) (H : Hp) : List (Key × V) → List (Int × D) → Prop
  | nil : MpL K H [] []
  | cons {n : Int} {v : V} {d : D} {kvs : List (Key × V)} {ms : List (Int × D)} : Rp K H v d → MpL K H kvs ms → MpL K H ((.inl n, v) :: kvs) ((n, d) :: ms)
section
variable {K : PySem.W.Frag} {H H' : Hp}
theorem MpL.mono (s : ST H H') {kvs : List (Key × V)} {ms : List (Int × D)} (h : MpL K H kvs ms) : MpL K H' kvs ms := by
  induction h with
  | nil => exact .nil
  | cons h1 _ ih => exact .cons (h1.mono s) ih
theorem MpL.get (n : Int) {kvs : List (Key × V)} {ms : List (Int × D)} (h : MpL K H kvs ms) : (valV kvs (.inl n) = none ∧ lk ms n = none) ∨ ∃ v d, valV kvs (.inl n) = some v ∧ lk ms n = some d ∧ Rp K H v d := by
  induction h with
  | nil => exact .inl ⟨rfl, rfl⟩
  | @cons k v d kvs ms h1 _ ih =>
    by_cases c : k = n
    · subst c
      exact .inr ⟨v, d, valV_pos rfl, lk_pos rfl, h1⟩
    · have c' : ¬ (Sum.inl k : Key) = Sum.inl n := fun z => c (Sum.inl.inj z)
      rw [valV_neg c', lk_neg c]
      exact ih
theorem MpL.len {kvs : List (Key × V)} {ms : List (Int × D)} (h : MpL K H kvs ms) : kvs.length = ms.length := by
  induction h with
  | nil => rfl
  | cons h1 _ ih => rw [List.length_cons, List.length_cons, ih]
theorem MpL.app {kvs kvs' : List (Key × V)} {ms ms' : List (Int × D)} (h : MpL K H kvs ms) (g : MpL K H kvs' ms') : MpL K H (kvs ++ kvs') (ms ++ ms') := by
  induction h with
  | nil => exact g
  | cons h1 _ ih => exact .cons h1 ih
end
def MpAt (K : PySem.W.Frag) (H : Hp) (m : Addr) (ms : List (Int × D)) : Prop := ∃ kvs, H m = some (.dK kvs) ∧ MpL K H kvs ms
theorem MpAt.same {K : PySem.W.Frag} {H H' : Hp} (s : Same H H') {m : Addr} {ms : List (Int × D)} (h : MpAt K H m ms) : MpAt K H' m ms := by
  obtain ⟨kvs, h1, h2⟩ := h
  exact ⟨kvs, s _ _ h1, h2.mono (ST.same s)⟩
def big (r : D) : Prop := r.size > 2000 ∨ r.depth > 100
def subS (m : Int → Option D) (its : List (D × Nat)) : List (D × Nat) := its.map fun it => (it.1.sub m, it.2)
theorem subS_app (m : Int → Option D) (a b : List (D × Nat)) : subS m (a ++ b) = subS m a ++ subS m b := List.map_append
theorem subS_push (m : Int → Option D) (l : Nat) (ds : List D) : subS m (push l ds) = push l (D.subL m ds) := by
  unfold subS push
  rw [subL_map, List.map_map, List.map_map]
  rfl
def KnOk (H : Hp) (kvs : List (Key × V)) (m : Int → Option D) : Prop := ∀ n v, valV kvs (.inl n) = some v → ∃ p e, v = .ref p ∧ m n = some e ∧ H p = some (.tup [.int (e.size : Int), .int (e.depth : Int)])
theorem KnOk.mono {H H' : Hp} (s : ST H H') {kvs : List (Key × V)} {m : Int → Option D} (h : KnOk H kvs m) : KnOk H' kvs m := fun n v e => by
  obtain ⟨p, d, e1, e2, e3⟩ := h n v e
  exact ⟨p, d, e1, e2, s _ _ e3⟩
theorem sub_size_v {m : Int → Option D} {n : Int} {e : D} (h : m n = some e) : (D.v n).sub m = e := by
  rw [D.sub, h]
  rfl
theorem sub_v_none {m : Int → Option D} {n : Int} (h : m n = none) : (D.v n).sub m = .v n := by
  rw [D.sub, h]
  rfl
/-- what an exception class of the program's own is known by -/
structure ExcT (K : PySem.W.Frag) (mg : Str → Option Value) (x : Str) (C : Addr) : Prop where
  gP : mg x = some (.ref C)
  xP : PySem.W.excIn K C [.type "ValueError", .type "Exception", .type "BaseException", .type "object"] "ValueError.__new__" = true
  kP : PySem.W.keepIn K (.ref C) = true
  bP : PySem.W.subIn K (.ref C) (.type "BaseException") = some true
  tP : PySem.W.typeIn K (.ref C) = some (.type "type")
  iP : PySem.W.isClsIn K C = true
  sP : PySem.W.subIn K (.ref C) (.ref C) = some true
def spCheck (K : PySem.W.Frag) (C : Addr) : Sp := fun vs H Q E => ∃ (x : V) (d : D) (m : Addr) (ms : List (Int × D)), vs = [x, .ref m] ∧ Rp K H x d ∧ MpAt K H m ms ∧ d.size ≤ 90000 ∧ (∀ n e, lk ms n = some e → e.size ≤ 90000) ∧
  (big (d.sub (lk ms)) → ∀ H', Same H H' → E (.ref C) none H') ∧ (¬ big (d.sub (lk ms)) → ∀ H', Same H H' → Q .non H')

mutual
theorem depth_sub (m : Int → Option D) : ∀ d : D, d.depth ≤ (d.sub m).depth
  | .v n => by
    show 1 ≤ _
    exact depth_pos _
  | .c s as => by
    have := depthL_sub m as
    simp only [D.sub, D.depth]
    omega
  | .t as => by
    have := depthL_sub m as
    simp only [D.sub, D.depth]
    omega
  | .f a b => by
    have := depth_sub m a
    have := depth_sub m b
    simp only [D.sub, D.depth]
    omega
theorem depthL_sub (m : Int → Option D) : ∀ as : List D, D.depthL as ≤ D.depthL (D.subL m as)
  | [] => Nat.le_refl _
  | x :: r => by
    have := depth_sub m x
    have := depthL_sub m r
    simp only [D.subL, D.depthL]
    omega
end
theorem kids_len (d : D) : d.kids.length ≤ d.size := by
  rw [size_kids]
  have t6 := len_szS (push 0 d.kids)
  rw [szS_push] at t6
  have t7 : (push 0 d.kids).length = d.kids.length := List.length_map _
  omega
theorem kid_size {d x : D} (h : x ∈ d.kids) : x.size < d.size := by
  rw [size_kids d]
  have : ∀ l : List D, x ∈ l → x.size ≤ D.sizeL l := by
    intro l
    induction l with
    | nil => intro z; cases z
    | cons y r ih =>
      intro z
      rw [D.sizeL]
      rcases List.mem_cons.mp z with rfl | z
      · omega
      · have := ih z
        omega
  have := this _ h
  omega
theorem kid_depth {d x : D} (h : x ∈ d.kids) : x.depth < d.depth := by
  rw [depth_kids d]
  have := depthL_mem h
  omega
def spRepl (K : PySem.W.Frag) (b : Nat) : Sp := fun vs H Q _ => ∃ (x : V) (d : D) (m : Addr) (ms : List (Int × D)), vs = [x, .ref m] ∧ Rp K H x d ∧ MpAt K H m ms ∧ d.size ≤ 90000 ∧ d.depth ≤ b ∧ ∀ H' v', Same H H' → Rp K H' v' (d.sub (lk ms)) → Q v' H'
def spSubst (K : PySem.W.Frag) (C : Addr) : Sp := fun vs H Q E => ∃ (x : V) (d : D) (m : Addr) (ms : List (Int × D)), vs = [x, .ref m] ∧ Rp K H x d ∧ MpAt K H m ms ∧ d.size ≤ 90000 ∧ (∀ n e, lk ms n = some e → e.size ≤ 90000) ∧
  (big (d.sub (lk ms)) → ∀ H', Same H H' → E (.ref C) none H') ∧ (¬ big (d.sub (lk ms)) → ∀ H' v', Same H H' → Rp K H' v' (d.sub (lk ms)) → Q v' H')
theorem subL_take (f : Int → Option D) {as : List D} {i : Nat} {x : D} (h : as[i]? = some x) : D.subL f (as.take (i + 1)) = D.subL f (as.take i) ++ [x.sub f] := by
  rw [subL_map, subL_map, List.take_add_one, h, List.map_append]
  rfl

/-! ### drawn shapes -/
inductive GenD (fr : List Int) : Nat → D → Prop
  | leafv {l : Nat} {n : Int} (h : n ∈ fr) : GenD fr l (.v n)
  | leafc {l : Nat} {s : Int} (h : s = 0 ∨ s = 1 ∨ s = 4) : GenD fr l (.c s [])
  | f {l : Nat} {a b : D} (ha : GenD fr l a) (hb : GenD fr l b) : GenD fr (l + 1) (.f a b)
  | one {l : Nat} {s : Int} {a : D} (h : s = 3 ∨ s = 5 ∨ s = 6) (ha : GenD fr l a) : GenD fr (l + 1) (.c s [a])
  | t {l : Nat} {as : List D} (h2 : 2 ≤ as.length) (h4 : as.length ≤ 4) (h : ∀ x ∈ as, GenD fr l x) : GenD fr (l + 1) (.t as)
def sizeOf' : Nat → Nat
  | 0 => 1
  | l + 1 => 1 + 4 * sizeOf' l
theorem sizeOf'_pos : ∀ l, 1 ≤ sizeOf' l
  | 0 => Nat.le_refl _
  | l + 1 => by
    show 1 ≤ 1 + 4 * sizeOf' l
    omega
theorem sizeL_le {n : Nat} : ∀ {as : List D}, (∀ x ∈ as, x.size ≤ n) → D.sizeL as ≤ as.length * n
  | [], _ => by rw [D.sizeL]; omega
  | x :: r, h => by
    have h1 := h x List.mem_cons_self
    have h2 := sizeL_le (as := r) fun y hy => h y (List.mem_cons_of_mem _ hy)
    rw [D.sizeL, List.length_cons, Nat.add_mul, Nat.one_mul]
    omega
theorem depthL_le {n : Nat} : ∀ {as : List D}, (∀ x ∈ as, x.depth ≤ n) → D.depthL as ≤ n
  | [], _ => by rw [D.depthL]; omega
  | x :: r, h => by
    have h1 := h x List.mem_cons_self
    have h2 := depthL_le (as := r) fun y hy => h y (List.mem_cons_of_mem _ hy)
    rw [D.depthL]
    omega
theorem GenD.size {fr : List Int} {l : Nat} {d : D} (h : GenD fr l d) : d.size ≤ sizeOf' l := by
  induction h with
  | leafv h => exact sizeOf'_pos _
  | leafc h => exact sizeOf'_pos _
  | @f l a b ha hb iha ihb =>
    have e : sizeOf' (l + 1) = 1 + 4 * sizeOf' l := rfl
    simp only [D.size]
    omega
  | @one l s a h ha ih =>
    have e : sizeOf' (l + 1) = 1 + 4 * sizeOf' l := rfl
    simp only [D.size, D.sizeL]
    omega
  | @t l as h2 h4 h ih =>
    have e : sizeOf' (l + 1) = 1 + 4 * sizeOf' l := rfl
    have g := sizeL_le ih
    have g2 : as.length * sizeOf' l ≤ 4 * sizeOf' l := Nat.mul_le_mul_right _ h4
    simp only [D.size]
    omega
theorem GenD.depth {fr : List Int} {l : Nat} {d : D} (h : GenD fr l d) : d.depth ≤ l + 1 := by
  induction h with
  | leafv h =>
    simp only [D.depth]
    omega
  | leafc h =>
    simp only [D.depth, D.depthL]
    omega
  | @f l a b ha hb iha ihb =>
    simp only [D.depth]
    omega
  | @one l s a h ha ih =>
    simp only [D.depth, D.depthL]
    omega
  | @t l as h2 h4 h ih =>
    have g := depthL_le ih
    simp only [D.depth]
    omega
/-! ### promises of the law's helpers -/
def spTape (K : PySem.W.Frag) : Sp := fun vs H Q _ => ∃ (a : Addr) (ns : List Int) (many : Int), vs = [.ref a, .int many] ∧ SqL K H a (ns.map V.int) ∧ 0 ≤ many ∧ many ≤ 1000 ∧
  ∀ H' p ts, Same H H' → H' p = some (.lst ((ts : List Int).map V.int)) → ts.length = many.toNat → (∀ t ∈ ts, 0 ≤ t) → Q (.ref p) H'
def spPick (K : PySem.W.Frag) : Sp := fun vs H Q _ => ∃ (a : Addr) (ts : List Int) (at_ many : Int), vs = [.ref a, .int at_, .int many] ∧ SqL K H a (ts.map V.int) ∧ 0 < ts.length ∧ 0 < many ∧ Q (.int (pk ts at_ many)) H
def spLeaf (K : PySem.W.Frag) : Sp := fun vs H Q _ => ∃ (T Fr : Addr) (ts fr : List Int) (at_ : Int), vs = [.ref T, .int at_, .ref Fr] ∧ SqL K H T (ts.map V.int) ∧ 0 < ts.length ∧ SqL K H Fr (fr.map V.int) ∧
  ∀ H' v d, Same H H' → Rp K H' v d → (∀ l, GenD fr l d) → Q v H'
def spShape (K : PySem.W.Frag) (b : Nat) : Sp := fun vs H Q _ => ∃ (T Fr : Addr) (ts fr : List Int) (at_ : Int) (l : Nat), vs = [.ref T, .int at_, .int (l : Int), .ref Fr] ∧ l < b ∧ SqL K H T (ts.map V.int) ∧ 0 < ts.length ∧ SqL K H Fr (fr.map V.int) ∧
  ∀ H' r v d (at' : Int), Same H H' → H' r = some (.tup [v, .int at']) → Rp K H' v d → GenD fr l d → Q (.ref r) H'
/-- a list of pairs (number, shape) -/
inductive PrL (K : PySem.W.Frag) (H : Hp) : List V → List (Int × D) → Prop
  | nil : PrL K H [] []
  | cons {p : Addr} {n : Int} {x : V} {d : D} {ws : List V} {ms : List (Int × D)} : H p = some (.tup [.int n, x]) → Rp K H x d → PrL K H ws ms → PrL K H (.ref p :: ws) ((n, d) :: ms)
section
variable {K : PySem.W.Frag} {H H' : Hp}
theorem PrL.mono (s : ST H H') {ws : List V} {ms : List (Int × D)} (h : PrL K H ws ms) : PrL K H' ws ms := by
  induction h with
  | nil => exact .nil
  | cons h1 h2 _ ih => exact .cons (s _ _ h1) (h2.mono s) ih
theorem PrL.len {ws : List V} {ms : List (Int × D)} (h : PrL K H ws ms) : ws.length = ms.length := by
  induction h with
  | nil => rfl
  | cons h1 h2 _ ih => rw [List.length_cons, List.length_cons, ih]
theorem PrL.app {ws vs : List V} {ms ms' : List (Int × D)} (h : PrL K H ws ms) (g : PrL K H vs ms') : PrL K H (ws ++ vs) (ms ++ ms') := by
  induction h with
  | nil => exact g
  | cons h1 h2 _ ih => exact .cons h1 h2 ih
theorem PrL.get : ∀ {ms : List (Int × D)} {ws : List V} {i : Nat} {x : V}, PrL K H ws ms → ws[i]? = some x → ∃ p n y d, x = .ref p ∧ ms[i]? = some (n, d) ∧ H p = some (.tup [.int n, y]) ∧ Rp K H y d
  | [], _, i, x, h, e => by cases h; cases e
  | m :: r, _, 0, x, h, e => by
    cases h with
    | cons h1 h2 h3 => cases e; exact ⟨_, _, _, _, rfl, rfl, h1, h2⟩
  | m :: r, _, i + 1, x, h, e => by
    cases h with
    | cons h1 h2 h3 => exact PrL.get (i := i) h3 e
end
/-- nothing found among the first i -/
theorem lk_step {ms : List (Int × D)} {i : Nat} {n k : Int} {d : D} (h : ms[i]? = some (n, d)) (e : lk ms k = lk (ms.drop i) k) : if n = k then lk ms k = some d else lk ms k = lk (ms.drop (i + 1)) k := by
  obtain ⟨hi, hh⟩ := List.getElem?_eq_some_iff.mp h
  have dr : ms.drop i = (n, d) :: ms.drop (i + 1) := by rw [← hh]; exact List.drop_eq_getElem_cons hi
  rw [dr] at e
  by_cases c : n = k
  · rw [if_pos c, e, lk_pos c]
  · rw [if_neg c, e, lk_neg c]
def spApply (K : PySem.W.Frag) (b : Nat) : Sp := fun vs H Q _ => ∃ (x : V) (d : D) (Pr : Addr) (ws : List V) (ms : List (Int × D)), vs = [x, .ref Pr] ∧ Rp K H x d ∧ SqL K H Pr ws ∧ PrL K H ws ms ∧ d.size ≤ 90000 ∧ d.depth ≤ b ∧ ∀ H' v', Same H H' → Rp K H' v' (d.sub (lk ms)) → Q v' H'
theorem int_get {ns : List Int} {j : Nat} {x : V} (h : (ns.map V.int)[j]? = some x) : ∃ n, ns[j]? = some n ∧ x = .int n := by
  rw [List.getElem?_map] at h
  cases q : ns[j]? with
  | none =>
    rw [q] at h
    cases h
  | some n =>
    rw [q] at h
    exact ⟨n, rfl, (Option.some.inj h).symm⟩
end Vs

set_option Elab.async false
set_option linter.all false
set_option maxRecDepth 100000
namespace Vs
open PySem PySem.Spec PyProof.Rows L2 Vr
/-! ### variables in the order of their first occurrence -/
mutual
def D.occ : D → List Int
  | .v n => [n]
  | .c _ as => D.occL as
  | .t as => D.occL as
  | .f a b => a.occ ++ (b.occ ++ [])
def D.occL : List D → List Int
  | [] => []
  | x :: r => x.occ ++ D.occL r
end
def addK (ns : List Int) (n : Int) : List Int := if n ∈ ns then ns else ns ++ [n]
def addAll (ns : List Int) (ms : List Int) : List Int := ms.foldl addK ns
def D.vars (d : D) : List Int := addAll [] d.occ
theorem occ_kids : ∀ d : D, d.isV = false → d.occ = D.occL d.kids
  | .v _, h => by cases h
  | .c _ _, _ => by simp only [D.occ, D.kids]
  | .t _, _ => by simp only [D.occ, D.kids]
  | .f a b, _ => by simp only [D.occ, D.kids, D.occL]
theorem occL_app : ∀ a b : List D, D.occL (a ++ b) = D.occL a ++ D.occL b
  | [], b => by rw [List.nil_append, D.occL, List.nil_append]
  | x :: r, b => by rw [List.cons_append, D.occL, D.occL, occL_app r b, List.append_assoc]
theorem addAll_app (ns a b : List Int) : addAll ns (a ++ b) = addAll (addAll ns a) b := List.foldl_append
theorem addK_mem {ns : List Int} {n x : Int} : x ∈ addK ns n ↔ x ∈ ns ∨ x = n := by
  unfold addK
  split
  · rename_i h
    constructor
    · exact .inl
    · rintro (h' | rfl)
      · exact h'
      · exact h
  · rw [List.mem_append, List.mem_singleton]
theorem addAll_mem {x : Int} : ∀ {ms ns : List Int}, x ∈ addAll ns ms ↔ x ∈ ns ∨ x ∈ ms
  | [], ns => by
    show x ∈ ns ↔ _
    simp
  | m :: r, ns => by
    show x ∈ addAll (addK ns m) r ↔ _
    rw [addAll_mem, addK_mem, List.mem_cons]
    constructor
    · rintro ((h | h) | h)
      · exact .inl h
      · exact .inr (.inl h)
      · exact .inr (.inr h)
    · rintro (h | h | h)
      · exact .inl (.inl h)
      · exact .inl (.inr h)
      · exact .inr h
theorem addK_nodup {ns : List Int} {n : Int} (h : ns.Nodup) : (addK ns n).Nodup := by
  unfold addK
  split
  · exact h
  · rename_i hn
    rw [List.nodup_append]
    refine ⟨h, List.nodup_cons.mpr ⟨by simp, List.nodup_nil⟩, fun a ha b hb e => ?_⟩
    rw [List.mem_singleton] at hb
    rw [e, hb] at ha
    exact hn ha
theorem addAll_nodup : ∀ {ms ns : List Int}, ns.Nodup → (addAll ns ms).Nodup
  | [], _, h => h
  | m :: r, ns, h => addAll_nodup (ms := r) (addK_nodup h)
theorem vars_nodup (d : D) : d.vars.Nodup := addAll_nodup List.nodup_nil
theorem addK_len (ns : List Int) (n : Int) : (addK ns n).length ≤ ns.length + 1 := by
  unfold addK
  split
  · omega
  · rw [List.length_append]
    exact Nat.le_refl _
theorem addAll_len : ∀ (ms ns : List Int), (addAll ns ms).length ≤ ns.length + ms.length
  | [], _ => Nat.le_refl _
  | m :: r, ns => by
    have h1 := addAll_len r (addK ns m)
    have h2 := addK_len ns m
    show (addAll (addK ns m) r).length ≤ ns.length + (r.length + 1)
    omega
mutual
theorem occ_len : ∀ d : D, d.occ.length ≤ d.size
  | .v _ => Nat.le_refl _
  | .c _ as => by
    have := occL_len as
    simp only [D.occ, D.size]
    omega
  | .t as => by
    have := occL_len as
    simp only [D.occ, D.size]
    omega
  | .f a b => by
    have := occ_len a
    have := occ_len b
    simp only [D.occ, D.size, List.length_append, List.length_nil]
    omega
theorem occL_len : ∀ as : List D, (D.occL as).length ≤ D.sizeL as
  | [] => Nat.le_refl _
  | x :: r => by
    have := occ_len x
    have := occL_len r
    simp only [D.occL, D.sizeL, List.length_append]
    omega
end
theorem vars_len (d : D) : d.vars.length ≤ d.size := by
  have h1 := addAll_len d.occ []
  have h2 := occ_len d
  have h3 : ([] : List Int).length = 0 := rfl
  show (addAll [] d.occ).length ≤ d.size
  omega
/-- a dict whose keys are these numbers -/
def keysOf (ns : List Int) : List Key := ns.map Sum.inl
theorem put_keys {kvs : List (Key × V)} {ns : List Int} (h : kvs.map (·.1) = keysOf ns) (n : Int) (v : V) : (putK kvs (.inl n) v).map (·.1) = keysOf (addK ns n) := by
  have mem : (kvs.any fun kv => decide (kv.1 = Sum.inl n)) = true ↔ n ∈ ns := by
    rw [List.any_eq_true]
    constructor
    · rintro ⟨kv, hk, e⟩
      have e' : kv.1 = Sum.inl n := of_decide_eq_true e
      have : kv.1 ∈ kvs.map (·.1) := List.mem_map_of_mem hk
      rw [h, e'] at this
      obtain ⟨m, hm, em⟩ := List.mem_map.mp this
      cases em
      exact hm
    · intro hn
      have : (Sum.inl n : Key) ∈ kvs.map (·.1) := by
        rw [h]
        exact List.mem_map_of_mem hn
      obtain ⟨kv, hk, e⟩ := List.mem_map.mp this
      exact ⟨kv, hk, decide_eq_true e⟩
  unfold putK addK
  by_cases c : n ∈ ns
  · rw [if_pos (mem.mpr c), if_pos c, List.map_map, ← h]
    refine List.map_congr_left fun kv _ => ?_
    show (if kv.1 = Sum.inl n then (kv.1, v) else kv).1 = kv.1
    split <;> rfl
  · rw [if_neg (fun z => c (mem.mp z)), if_neg c, List.map_append, h]
    unfold keysOf
    rw [List.map_append]
    rfl
theorem keys_vals {kvs : List (Key × V)} {ns : List Int} (h : kvs.map (·.1) = keysOf ns) : (kvs.map fun kv => kV kv.1) = ns.map V.int := by
  have e : (kvs.map fun kv => kV kv.1) = (kvs.map (·.1)).map kV := by
    rw [List.map_map]
    rfl
  rw [e, h]
  unfold keysOf
  rw [List.map_map]
  rfl
theorem keys_len {kvs : List (Key × V)} {ns : List Int} (h : kvs.map (·.1) = keysOf ns) : kvs.length = ns.length := by
  have := congrArg List.length h
  unfold keysOf at this
  rw [List.length_map, List.length_map] at this
  exact this
section
variable {K : PySem.W.Frag} {H H' : Hp}
theorem RpL.last : ∀ {ds : List D} {ws : List V}, RpL K H ws ds → (ws = [] ∧ ds = []) ∨ ∃ ws' ds' x d, ws = ws' ++ [x] ∧ ds = ds' ++ [d] ∧ RpL K H ws' ds' ∧ Rp K H x d
  | [], _, h => by
    cases h
    exact .inl ⟨rfl, rfl⟩
  | d :: r, _, h => by
    cases h with
    | @cons v vs _ _ h1 h2 =>
      rcases RpL.last h2 with ⟨rfl, rfl⟩ | ⟨ws', ds', x, d', rfl, rfl, h3, h4⟩
      · exact .inr ⟨[], [], v, d, rfl, rfl, .nil, h1⟩
      · exact .inr ⟨v :: ws', d :: ds', x, d', rfl, rfl, .cons h1 h3, h4⟩
theorem RpL.rev : ∀ {ds : List D} {ws : List V}, RpL K H ws ds → RpL K H ws.reverse ds.reverse
  | [], _, h => by
    cases h
    exact .nil
  | d :: r, _, h => by
    cases h with
    | cons h1 h2 =>
      rw [List.reverse_cons, List.reverse_cons]
      exact (RpL.rev h2).app (.cons h1 .nil)
end
theorem sizeL_rev : ∀ ds : List D, D.sizeL ds.reverse = D.sizeL ds
  | [] => rfl
  | x :: r => by
    rw [List.reverse_cons, sizeL_app, sizeL_rev r, D.sizeL, D.sizeL, D.sizeL]
    omega
theorem len_sizeL : ∀ ds : List D, ds.length ≤ D.sizeL ds
  | [] => Nat.le_refl _
  | x :: r => by
    have h1 := len_sizeL r
    have h2 := size_pos x
    rw [D.sizeL, List.length_cons]
    omega
def spVars (K : PySem.W.Frag) : Sp := fun vs H Q _ => ∃ (x : V) (d : D), vs = [x] ∧ Rp K H x d ∧ d.size ≤ 90000 ∧ ∀ H' q, Same H H' → H' q = some (.tup (d.vars.map V.int)) → Q (.ref q) H'
/-! ### numbers for variables -/
def numb (k : Nat) : List Int → List (Int × D)
  | [] => []
  | n :: r => (n, .v (k : Int)) :: numb (k + 1) r
theorem numb_app : ∀ (a b : List Int) (k : Nat), numb k (a ++ b) = numb k a ++ numb (k + a.length) b
  | [], b, k => rfl
  | n :: r, b, k => by
    show (n, D.v (k : Int)) :: numb (k + 1) (r ++ b) = (n, D.v (k : Int)) :: (numb (k + 1) r ++ numb (k + (r.length + 1)) b)
    rw [numb_app r b (k + 1), show k + 1 + r.length = k + (r.length + 1) by omega]
theorem numb_len : ∀ (a : List Int) (k : Nat), (numb k a).length = a.length
  | [], _ => rfl
  | n :: r, k => by
    show (numb (k + 1) r).length + 1 = r.length + 1
    rw [numb_len r]
theorem numb_keys : ∀ (a : List Int) (k : Nat) (p : Int × D), p ∈ numb k a → p.1 ∈ a ∧ ∃ j, p.2 = .v j
  | [], _, p, h => by cases h
  | n :: r, k, p, h => by
    rcases List.mem_cons.mp h with rfl | h
    · exact ⟨List.mem_cons_self, _, rfl⟩
    · have := numb_keys r (k + 1) p h
      exact ⟨List.mem_cons_of_mem _ this.1, this.2⟩
theorem lk_numb_size {a : List Int} {k : Nat} {n : Int} {e : D} (h : lk (numb k a) n = some e) : e.size = 1 ∧ e.depth = 1 := by
  obtain ⟨_, j, rfl⟩ := (numb_keys a k _ (lk_mem h))
  exact ⟨by simp only [D.size], by simp only [D.depth]⟩
def spGen (K : PySem.W.Frag) (C : Addr) : Sp := fun vs H Q E => ∃ (x : V) (d : D) (L : Addr) (ns : List Int), vs = [x, .ref L] ∧ Rp K H x d ∧ SqL K H L (ns.map V.int) ∧ ns.Nodup ∧ ns.length ≤ 1000 ∧ d.size ≤ 90000 ∧
  (big (d.sub (lk (numb 0 ns))) → ∀ H', Same H H' → E (.ref C) none H') ∧ (¬ big (d.sub (lk (numb 0 ns))) → ∀ H' r v', Same H H' → H' r = some (.tup [.int (ns.length : Int), v']) → Rp K H' v' (d.sub (lk (numb 0 ns))) → Q (.ref r) H')
end Vs

set_option Elab.async false
set_option linter.all false
set_option maxRecDepth 100000
namespace Vs
open PySem PySem.Spec PyProof.Rows L2 RT StX Vr
mutual
theorem size_sub_le (m : Int → Option D) (B : Nat) (hB : 1 ≤ B) (h : ∀ n e, m n = some e → e.size ≤ B) : ∀ d : D, (d.sub m).size ≤ d.size * B
  | .v n => by
    rw [D.sub]
    cases q : m n with
    | none =>
      show 1 ≤ 1 * B
      omega
    | some e =>
      show e.size ≤ 1 * B
      have := h n e q
      omega
  | .c s as => by
    have := sizeL_sub_le m B hB h as
    simp only [D.sub, D.size]
    rw [Nat.add_mul]
    omega
  | .t as => by
    have := sizeL_sub_le m B hB h as
    simp only [D.sub, D.size]
    rw [Nat.add_mul]
    omega
  | .f a b => by
    have := size_sub_le m B hB h a
    have := size_sub_le m B hB h b
    simp only [D.sub, D.size]
    rw [Nat.add_mul, Nat.add_mul, Nat.add_mul]
    omega
theorem sizeL_sub_le (m : Int → Option D) (B : Nat) (hB : 1 ≤ B) (h : ∀ n e, m n = some e → e.size ≤ B) : ∀ as : List D, D.sizeL (D.subL m as) ≤ D.sizeL as * B
  | [] => by simp only [D.subL, D.sizeL]; omega
  | x :: r => by
    have := size_sub_le m B hB h x
    have := sizeL_sub_le m B hB h r
    simp only [D.subL, D.sizeL]
    rw [Nat.add_mul]
    omega
end
mutual
theorem depth_sub_le (m : Int → Option D) (B : Nat) (h : ∀ n e, m n = some e → e.depth ≤ B) : ∀ d : D, (d.sub m).depth ≤ d.depth + B
  | .v n => by
    rw [D.sub]
    cases q : m n with
    | none =>
      show 1 ≤ 1 + B
      omega
    | some e =>
      show e.depth ≤ 1 + B
      have := h n e q
      omega
  | .c s as => by
    have := depthL_sub_le m B h as
    simp only [D.sub, D.depth]
    omega
  | .t as => by
    have := depthL_sub_le m B h as
    simp only [D.sub, D.depth]
    omega
  | .f a b => by
    have := depth_sub_le m B h a
    have := depth_sub_le m B h b
    simp only [D.sub, D.depth]
    omega
theorem depthL_sub_le (m : Int → Option D) (B : Nat) (h : ∀ n e, m n = some e → e.depth ≤ B) : ∀ as : List D, D.depthL (D.subL m as) ≤ D.depthL as + B
  | [] => by simp only [D.subL, D.depthL]; omega
  | x :: r => by
    have := depth_sub_le m B h x
    have := depthL_sub_le m B h r
    simp only [D.subL, D.depthL]
    omega
end
theorem lk_one (n : Int) (e : D) : lk [(n, e)] n = some e := lk_pos rfl
/-- keys in turn: each is found -/
theorem lk_at {c : Int} : ∀ {ms : List (Int × D)} {k i : Nat} {n : Int} {d : D}, (∀ j p, ms[j]? = some p → p.1 = c + ((k + j : Nat) : Int)) → ms[i]? = some (n, d) → lk ms n = some d
  | [], _, _, _, _, _, h => by cases h
  | p :: r, k, 0, n, d, hk, h => by
    cases h
    exact lk_pos rfl
  | p :: r, k, i + 1, n, d, hk, h => by
    have h' : r[i]? = some (n, d) := h
    have e0 := hk 0 p rfl
    have e1 := hk (i + 1) (n, d) h
    have ne : ¬ p.1 = n := by
      have e1' : n = c + ((k + (i + 1) : Nat) : Int) := e1
      omega
    rw [lk_neg ne]
    refine lk_at (c := c) (k := k + 1) (i := i) (fun j p hj => ?_) h'
    have := hk (j + 1) p hj
    rw [this]
    omega
theorem Rp.ref {K : PySem.W.Frag} {H : Hp} {v : V} {d : D} (h : Rp K H v d) : ∃ p, v = .ref p := by
  obtain ⟨p, _, _, e, _⟩ := h.tag
  exact ⟨p, e⟩
/-- a shape is what it is, for == and != -/
theorem Rp.eqd {K : PySem.W.Frag} {H : Hp} {v : V} {d : D} (h : Rp K H v d) (hd : d.depth ≤ 32) : Dp K H v d.py ∧ SeqAt.shaped d.py = true ∧ PyData.eqv d.py d.py = true := by
  refine ⟨h.dp, ?_, py_self d⟩
  have := py_depth d
  unfold SeqAt.shaped
  rw [py_lay d, decide_eq_true (by omega)]
  rfl

/-! ### == of deep data -/
def rEqP (K : PySem.W.Frag) : R2 := fun x y H Q => ∃ d e, Dp K H x d ∧ Dp K H y e ∧ d.canLay0 = true ∧ e.canLay0 = true ∧ d.depth ≤ 300 ∧ Q (.bl (PyData.eqv d e)) H
theorem op_eqP {X : Cx} (hu : X.A.units + 300 < cLine) : OpR X (compareOp .Eq) (rEqP X.K) := by
  intro pins s σ H x y v u Q I rx ry h
  obtain ⟨d, e, hd, he, sd, se, dd, q⟩ := h
  obtain ⟨as, r1⟩ := Dp.reads I d x v hd rx
  obtain ⟨bs, r2⟩ := Dp.reads I e y u he ry
  have room : X.A.units + min d.depth e.depth < cLine := by
    have := Nat.min_le_left d.depth e.depth
    omega
  exact SeqAt.compareEq_reads r1 r2 sd se room ⟨.bl _, H, I, rfl, q⟩
theorem exm_mine {K : PySem.W.Frag} {mg : Str → Option Value} {x : Str} {C : Addr} (T : ExcT K mg x C) : PySem.W.exmOne K (.ref C) (.ref C) = some true := by
  have h1 := T.bP
  have h2 := T.iP
  have h3 := T.tP
  have h4 := T.sP
  have h2' : (PySem.W.clsIn K C).isSome = true := h2
  unfold PySem.W.exmOne PySem.W.kitCls
  simp only [h1, h3, h4, h2', beq_self_eq_true, Bool.and_self, if_true]
/-! ### more of the order of first occurrence -/
theorem addAll_disj : ∀ (b a : List Int), (a ++ b).Nodup → addAll a b = a ++ b
  | [], a, _ => (List.append_nil a).symm
  | m :: r, a, h => by
    have hm : m ∉ a := fun z => (List.nodup_append.mp h).2.2 m z m List.mem_cons_self rfl
    have e : (a ++ [m]) ++ r = a ++ m :: r := by rw [List.append_assoc]; rfl
    show addAll (addK a m) r = _
    unfold addK
    rw [if_neg hm, addAll_disj r (a ++ [m]) (by rw [e]; exact h), e]
theorem inV_int {n : Int} : ∀ {ns : List Int}, inV (.int n) (ns.map V.int) = decide (n ∈ ns)
  | [] => by
    rw [decide_eq_false (by simp)]
    rfl
  | m :: r => by
    have ih := inV_int (n := n) (ns := r)
    show (m == n || inV (.int n) (r.map V.int)) = _
    rw [ih]
    by_cases c : m = n
    · rw [c]
      simp
    · have c' : ¬ n = m := fun z => c z.symm
      simp [c, c']
theorem flat_ints : ∀ ns : List Int, (ns.map V.int).all flatV = true
  | [] => rfl
  | m :: r => flat_ints r
mutual
theorem sub_idn (m : Int → Option D) : ∀ d : D, (∀ n ∈ d.occ, m n = none ∨ m n = some (.v n)) → d.sub m = d
  | .v n, h => by
    rw [D.sub]
    rcases h n (by rw [D.occ]; exact List.mem_cons_self) with e | e
    · rw [e]; rfl
    · rw [e]; rfl
  | .c s as, h => by rw [D.sub, subL_idn m as (fun n hn => h n (by rw [D.occ]; exact hn))]
  | .t as, h => by rw [D.sub, subL_idn m as (fun n hn => h n (by rw [D.occ]; exact hn))]
  | .f a b, h => by
    rw [D.sub, sub_idn m a (fun n hn => h n (by rw [D.occ]; exact List.mem_append_left _ hn)), sub_idn m b (fun n hn => h n (by rw [D.occ]; exact List.mem_append_right _ (List.mem_append_left _ hn)))]
theorem subL_idn (m : Int → Option D) : ∀ as : List D, (∀ n ∈ D.occL as, m n = none ∨ m n = some (.v n)) → D.subL m as = as
  | [], _ => rfl
  | x :: r, h => by
    rw [D.subL, sub_idn m x (fun n hn => h n (by rw [D.occL]; exact List.mem_append_left _ hn)), subL_idn m r (fun n hn => h n (by rw [D.occL]; exact List.mem_append_right _ hn))]
end
theorem occL_mem {n : Int} : ∀ {as : List D}, n ∈ D.occL as → ∃ x ∈ as, n ∈ x.occ
  | [], h => by
    rw [D.occL] at h
    cases h
  | x :: r, h => by
    rw [D.occL, List.mem_append] at h
    rcases h with h | h
    · exact ⟨x, List.mem_cons_self, h⟩
    · obtain ⟨y, hy, h⟩ := occL_mem h
      exact ⟨y, List.mem_cons_of_mem _ hy, h⟩
theorem GenD.occ {fr : List Int} {l : Nat} {d : D} (h : GenD fr l d) : ∀ n ∈ d.occ, n ∈ fr := by
  induction h with
  | leafv h =>
    intro n hn
    rw [D.occ, List.mem_singleton] at hn
    rw [hn]
    exact h
  | leafc h =>
    intro n hn
    rw [D.occ, D.occL] at hn
    cases hn
  | f ha hb iha ihb =>
    intro n hn
    rw [D.occ, List.append_nil, List.mem_append] at hn
    exact hn.elim (iha n) (ihb n)
  | one h ha ih =>
    intro n hn
    rw [D.occ, D.occL, D.occL, List.append_nil] at hn
    exact ih n hn
  | t h2 h4 h ih =>
    intro n hn
    rw [D.occ] at hn
    obtain ⟨x, hx, hn⟩ := occL_mem hn
    exact ih x hx n hn
theorem vars_mem {d : D} {n : Int} : n ∈ d.vars ↔ n ∈ d.occ := by
  unfold D.vars
  rw [addAll_mem]
  simp
theorem lk_numb {n : Int} : ∀ {ns : List Int} {k i : Nat}, ns.Nodup → ns[i]? = some n → lk (numb k ns) n = some (.v ((k + i : Nat) : Int))
  | [], _, _, _, h => by cases h
  | m :: r, k, 0, _, h => by
    cases h
    exact lk_pos rfl
  | m :: r, k, i + 1, nd, h => by
    have h' : r[i]? = some n := h
    have nm : ¬ m = n := fun z => (List.nodup_cons.mp nd).1 (z ▸ List.mem_of_getElem? h')
    show lk ((m, D.v (k : Int)) :: numb (k + 1) r) n = _
    rw [lk_neg nm, lk_numb (List.nodup_cons.mp nd).2 h', show k + 1 + i = k + (i + 1) by omega]
theorem lk_numb_none {n : Int} : ∀ {ns : List Int} {k : Nat}, n ∉ ns → lk (numb k ns) n = none
  | [], _, _ => rfl
  | m :: r, k, h => by
    have nm : ¬ m = n := fun z => h (z ▸ List.mem_cons_self)
    show lk ((m, D.v (k : Int)) :: numb (k + 1) r) n = _
    rw [lk_neg nm, lk_numb_none (fun z => h (List.mem_cons_of_mem _ z))]
/-- the numbers 0 to m - 1 -/
def iota (m : Nat) : List Int := (List.range m).map fun k : Nat => (k : Int)
theorem iota_nodup (m : Nat) : (iota m).Nodup := by
  unfold iota List.Nodup
  rw [List.pairwise_map]
  exact List.Pairwise.imp (fun h e => h (Int.ofNat.inj e)) List.nodup_range
theorem iota_get {m i : Nat} (h : i < m) : (iota m)[i]? = some (i : Int) := by
  unfold iota
  rw [List.getElem?_map, List.getElem?_range h]
  rfl
theorem iota_mem {m : Nat} {n : Int} : n ∈ iota m ↔ 0 ≤ n ∧ n < (m : Int) := by
  unfold iota
  rw [List.mem_map]
  constructor
  · rintro ⟨k, hk, rfl⟩
    have := List.mem_range.mp hk
    omega
  · rintro ⟨h0, h1⟩
    exact ⟨n.toNat, List.mem_range.mpr (by omega), by omega⟩
theorem iota_len (m : Nat) : (iota m).length = m := by
  unfold iota
  rw [List.length_map, List.length_range]
theorem lk_iota {m : Nat} (n : Int) : lk (numb 0 (iota m)) n = none ∨ lk (numb 0 (iota m)) n = some (.v n) := by
  by_cases c : n ∈ iota m
  · obtain ⟨h0, h1⟩ := iota_mem.mp c
    right
    have := lk_numb (k := 0) (iota_nodup m) (iota_get (i := n.toNat) (m := m) (by omega))
    rw [show (((n.toNat : Nat) : Int)) = n by omega] at this
    rw [this]
    congr 2
    omega
  · exact .inl (lk_numb_none c)
theorem occL_vs : ∀ ns : List Int, D.occL (ns.map D.v) = ns
  | [] => by rw [List.map_nil, D.occL]
  | n :: r => by
    rw [List.map_cons, D.occL, occL_vs r, D.occ]
    rfl
end Vs

set_option Elab.async false
set_option linter.all false
set_option maxRecDepth 100000
namespace Vs
open PySem PySem.Spec PyProof.Rows L2 RT StX Vr
open C8 (pss_cut tCut)
/-! ### the text -/
def topS (i : Nat) : Stmt := PySem.Challenge.pw_shapewright_k25_schemes_of_constructors.main.body.getD i (.Pass ⟨0, 0, 0, 0⟩)
abbrev sPartsOfShape : Stmt := topS 7
theorem scPartsOfShape : FnScope ["shape"] ["shape"] (defScope sPartsOfShape) := ⟨rfl, rfl, rfl, by decide +kernel, rfl, by decide +kernel, by decide +kernel⟩
abbrev sWithParts : Stmt := topS 8
theorem scWithParts : FnScope ["shape", "parts"] ["shape", "parts"] (defScope sWithParts) := ⟨rfl, rfl, rfl, by decide +kernel, rfl, by decide +kernel, by decide +kernel⟩
abbrev sMeasures : Stmt := topS 9
theorem scMeasures : FnScope ["shape", "count", "deepest", "waiting", "part", "level", "inner"] ["shape"] (defScope sMeasures) := ⟨rfl, rfl, rfl, by decide +kernel, rfl, by decide +kernel, by decide +kernel⟩
abbrev sVariables : Stmt := topS 10
theorem scVariables : FnScope ["shape", "found", "waiting", "part"] ["shape"] (defScope sVariables) := ⟨rfl, rfl, rfl, by decide +kernel, rfl, by decide +kernel, by decide +kernel⟩
abbrev sSubstitute : Stmt := topS 11
theorem scSubstitute : FnScope ["shape", "mapping"] ["shape", "mapping"] (defScope sSubstitute) := ⟨rfl, rfl, rfl, by decide +kernel, rfl, by decide +kernel, by decide +kernel⟩
abbrev sCheckResult : Stmt := topS 12
theorem scCheckResult : FnScope ["shape", "mapping", "known", "count", "waiting", "part", "level", "deepest", "number", "inner"] ["shape", "mapping"] (defScope sCheckResult) := ⟨rfl, rfl, rfl, by decide +kernel, rfl, by decide +kernel, by decide +kernel⟩
abbrev sReplaced : Stmt := topS 13
theorem scReplaced : FnScope ["shape", "mapping", "parts", "part"] ["shape", "mapping"] (defScope sReplaced) := ⟨rfl, rfl, rfl, by decide +kernel, rfl, by decide +kernel, by decide +kernel⟩
abbrev sGeneralized : Stmt := topS 15
theorem scGeneralized : FnScope ["shape", "numbers", "mapping", "index", "number"] ["shape", "numbers"] (defScope sGeneralized) := ⟨rfl, rfl, rfl, by decide +kernel, rfl, by decide +kernel, by decide +kernel⟩
abbrev sConstructorScheme : Stmt := topS 17
theorem scConstructorScheme : FnScope ["entry", "count", "argument", "result", "shape", "number"] ["entry"] (defScope sConstructorScheme) := ⟨rfl, rfl, rfl, by decide +kernel, rfl, by decide +kernel, by decide +kernel⟩
abbrev sLawTape : Stmt := topS 19
theorem scLawTape : FnScope ["script", "many", "cells", "cell", "big", "value", "tape", "k"] ["script", "many"] (defScope sLawTape) := ⟨rfl, rfl, rfl, by decide +kernel, rfl, by decide +kernel, by decide +kernel⟩
abbrev sLawPick : Stmt := topS 20
theorem scLawPick : FnScope ["tape", "at", "many"] ["tape", "at", "many"] (defScope sLawPick) := ⟨rfl, rfl, rfl, by decide +kernel, rfl, by decide +kernel, by decide +kernel⟩
abbrev sLawLeaf : Stmt := topS 21
theorem scLawLeaf : FnScope ["tape", "at", "free", "pick"] ["tape", "at", "free"] (defScope sLawLeaf) := ⟨rfl, rfl, rfl, by decide +kernel, rfl, by decide +kernel, by decide +kernel⟩
abbrev sLawShape : Stmt := topS 22
theorem scLawShape : FnScope ["tape", "at", "level", "free", "pick", "left", "right", "inner", "parts", "many", "k", "part"] ["tape", "at", "level", "free"] (defScope sLawShape) := ⟨rfl, rfl, rfl, by decide +kernel, rfl, by decide +kernel, by decide +kernel⟩
abbrev sLawParts : Stmt := topS 23
theorem scLawParts : FnScope ["shape"] ["shape"] (defScope sLawParts) := ⟨rfl, rfl, rfl, by decide +kernel, rfl, by decide +kernel, by decide +kernel⟩
abbrev sLawRebuilt : Stmt := topS 24
theorem scLawRebuilt : FnScope ["shape", "parts"] ["shape", "parts"] (defScope sLawRebuilt) := ⟨rfl, rfl, rfl, by decide +kernel, rfl, by decide +kernel, by decide +kernel⟩
abbrev sLawApply : Stmt := topS 25
theorem scLawApply : FnScope ["shape", "pairs", "number", "due", "part"] ["shape", "pairs"] (defScope sLawApply) := ⟨rfl, rfl, rfl, by decide +kernel, rfl, by decide +kernel, by decide +kernel⟩
abbrev sLawVariables : Stmt := topS 26
theorem scLawVariables : FnScope ["shape", "found", "part"] ["shape", "found"] (defScope sLawVariables) := ⟨rfl, rfl, rfl, by decide +kernel, rfl, by decide +kernel, by decide +kernel⟩
abbrev sLawDue : Stmt := topS 27
theorem scLawDue : FnScope ["shape", "pairs", "number"] ["shape"] (defScope sLawDue) := ⟨rfl, rfl, rfl, by decide +kernel, rfl, by decide +kernel, by decide +kernel⟩
abbrev sLawScheme : Stmt := topS 28
theorem scLawScheme : FnScope ["entry"] ["entry"] (defScope sLawScheme) := ⟨rfl, rfl, rfl, by decide +kernel, rfl, by decide +kernel, by decide +kernel⟩
abbrev sLawDeep : Stmt := topS 29
theorem scLawDeep : FnScope ["tape", "level", "argument", "k", "entry", "actual"] ["tape"] (defScope sLawDeep) := ⟨rfl, rfl, rfl, by decide +kernel, rfl, by decide +kernel, by decide +kernel⟩
abbrev sLaw : Stmt := topS 30
theorem scLaw : FnScope ["script", "tape", "many", "result", "inner", "at", "family", "place", "bare", "entry", "free", "k"] ["script"] (defScope sLaw) := ⟨rfl, rfl, rfl, by decide +kernel, rfl, by decide +kernel, by decide +kernel⟩
section
variable {P : Program} {w : World} {K : PySem.W.Frag} {mg : Str → Option Value} {base : Heap}
theorem ok_parts {f : Addr} {fd : FuncData} {k : Nat} (F : Fun K "parts_of_shape" "parts_of_shape" sPartsOfShape f fd) : FnOk P w K mg base CX0 (k + 1) f fd ["shape"] (spParts K) := by
  refine F.ok scPartsOfShape (fun vs H Q E h => ?_) (fun cdv A outer s H vs Q E hr h => ?_)
  · obtain ⟨x, d, rfl, _⟩ := h
    rfl
  obtain ⟨x, d, rfl, R, q⟩ := h
  refine ⟨_, pss_cons (ps_if (pt_cmpR op_eq (pe_ix ix_tup (pv 0) pe_int (fun _ _ => rfl)) pe_str (nomark _)) (pss_one (ps_ret (pe_tup pa_nil))) pss_nil)
      (pss_cons (ps_if (pt_cmpR op_eq (pe_ix ix_tup (pv 0) pe_int (fun _ _ => rfl)) pe_str (nomark _)) (pss_one (ps_ret (pe_slice sl_tupA (pv 0) (po_some pe_int) po_none))) pss_nil)
      (pss_one (ps_ret (pe_ix ix_tup (pv 0) (pe_un un_neg pe_int) (fun _ _ => rfl))))), ?_⟩
  cases R with
  | @v p n h1 =>
    refine ⟨_, rfl, p, _, _, _, rfl, rfl, h1.sq, atI_nat (j := 0) rfl, rfl, _, rfl, iteY ?_⟩
    exact ⟨zz 0, fun c hc => q _ c [] (same_upd hc) (.of upd_same) .nil⟩
  | @c p qa s vs as h1 h2 h3 =>
    refine ⟨_, rfl, p, _, _, _, rfl, rfl, h1.sq, atI_nat (j := 0) rfl, rfl, _, rfl, iteN (by decide +kernel) ?_⟩
    refine ⟨_, rfl, p, _, _, _, rfl, rfl, h1.sq, atI_nat (j := 0) rfl, rfl, _, rfl, iteN (by decide +kernel) ?_⟩
    exact ⟨_, rfl, 1, rfl, p, _, _, _, rfl, rfl, h1.sq, atI_last [_, _] _, q _ qa vs (Same.refl _) h2 h3⟩
  | @t p qa vs as h1 h2 h3 =>
    refine ⟨_, rfl, p, _, _, _, rfl, rfl, h1.sq, atI_nat (j := 0) rfl, rfl, _, rfl, iteN (by decide +kernel) ?_⟩
    refine ⟨_, rfl, p, _, _, _, rfl, rfl, h1.sq, atI_nat (j := 0) rfl, rfl, _, rfl, iteN (by decide +kernel) ?_⟩
    exact ⟨_, rfl, 1, rfl, p, _, _, _, rfl, rfl, h1.sq, atI_last [_] _, q _ qa vs (Same.refl _) h2 h3⟩
  | @f p x y a b h1 h2 h3 =>
    refine ⟨_, rfl, p, _, _, _, rfl, rfl, h1.sq, atI_nat (j := 0) rfl, rfl, _, rfl, iteN (by decide +kernel) ?_⟩
    refine ⟨_, rfl, p, _, _, _, rfl, rfl, h1.sq, atI_nat (j := 0) rfl, rfl, _, rfl, iteY ?_⟩
    refine ⟨_, rfl, 1, rfl, p, _, rfl, h1.sq, fun hw => absurd hw.1 (by show ¬ (HT.sIx 3 0 (some 1) = 0); decide), fun _ c hc => ?_⟩
    have S1 := same_upd hc (o := .tup (cutV [.str "f", x, y] (some 1) none))
    refine q _ c [x, y] S1 (.of ?_) (.cons (h2.same S1) (.cons (h3.same S1) .nil))
    rw [upd_same]
    rfl
theorem ok_with {f : Addr} {fd : FuncData} {k : Nat} (F : Fun K "with_parts" "with_parts" sWithParts f fd) (m_tuple : mg "tuple" = none) : FnOk P w K mg base CX0 (k + 1) f fd ["shape", "parts"] (spWith K) := by
  refine F.ok scWithParts (fun vs H Q E h => ?_) (fun cdv A outer s H vs Q E hr h => ?_)
  · obtain ⟨x, d, L, ws, ds, rfl, _⟩ := h
    rfl
  obtain ⟨x, d, L, ws, ds, rfl, R, nv, hL, RL, hl, q⟩ := h
  have lw := RL.len
  refine ⟨_, pss_cons (ps_if (pt_cmpR op_eq (pe_ix ix_tup (pv 0) pe_int (fun _ _ => rfl)) pe_str (nomark _)) (pss_one (ps_ret (pv 0))) pss_nil)
      (pss_cons (ps_if (pt_cmpR op_eq (pe_ix ix_tup (pv 0) pe_int (fun _ _ => rfl)) pe_str (nomark _)) (pss_one (ps_ret (pe_tup (pa_cons pe_str (pa_cons (pe_ix ix_list (pv 1) pe_int (fun _ _ => rfl)) (pa_cons (pe_ix ix_list (pv 1) pe_int (fun _ _ => rfl)) pa_nil)))))) pss_nil)
      (pss_one (ps_ret (pe_tup (pa_star (pe_slice sl_tupA (pv 0) po_none (po_some (pe_un un_neg pe_int))) (pa_cons (pe_callTy call_tuple_of (by rfl) m_tuple (by decide +kernel) (pa_cons (pv 1) pa_nil)) pa_nil)))))), ?_⟩
  cases R with
  | @v p n h1 => cases nv
  | @c p qa s vs as h1 h2 h3 =>
    refine ⟨_, rfl, p, _, _, _, rfl, rfl, h1.sq, atI_nat (j := 0) rfl, rfl, _, rfl, iteN (by decide +kernel) ?_⟩
    refine ⟨_, rfl, p, _, _, _, rfl, rfl, h1.sq, atI_nat (j := 0) rfl, rfl, _, rfl, iteN (by decide +kernel) ?_⟩
    obtain ⟨c1, c2⟩ := cut_last [.str "c", .int s] (.ref qa)
    refine ⟨_, rfl, 1, rfl, _, rfl, p, _, rfl, h1.sq, fun hw => absurd hw c2, fun _ c hc => ?_⟩
    refine ⟨c, _, rfl, .inl (SqT.of upd_same), _, rfl, L, ws, rfl, .inl ⟨SqL.of (same_upd hc _ _ hL), fun l hl1 => ⟨zz 3, fun r hr1 => ?_⟩⟩⟩
    have S3 := (same_upd hc (o := .tup (cutV [.str "c", .int s, .ref qa] none (some (-1))))).trans ((same_upd hl1 (o := .tup ws)).trans (same_upd hr1 (o := .tup [.str "c", .int s, .ref l])))
    exact q _ (.ref r) S3 (.c (.of upd_same) (.of (same_upd hr1 _ _ upd_same)) (RL.same S3))
  | @t p qa vs as h1 h2 h3 =>
    refine ⟨_, rfl, p, _, _, _, rfl, rfl, h1.sq, atI_nat (j := 0) rfl, rfl, _, rfl, iteN (by decide +kernel) ?_⟩
    refine ⟨_, rfl, p, _, _, _, rfl, rfl, h1.sq, atI_nat (j := 0) rfl, rfl, _, rfl, iteN (by decide +kernel) ?_⟩
    obtain ⟨c1, c2⟩ := cut_last [.str "t"] (.ref qa)
    refine ⟨_, rfl, 1, rfl, _, rfl, p, _, rfl, h1.sq, fun hw => absurd hw c2, fun _ c hc => ?_⟩
    refine ⟨c, _, rfl, .inl (SqT.of upd_same), _, rfl, L, ws, rfl, .inl ⟨SqL.of (same_upd hc _ _ hL), fun l hl1 => ⟨zz 2, fun r hr1 => ?_⟩⟩⟩
    have S3 := (same_upd hc (o := .tup (cutV [.str "t", .ref qa] none (some (-1))))).trans ((same_upd hl1 (o := .tup ws)).trans (same_upd hr1 (o := .tup [.str "t", .ref l])))
    exact q _ (.ref r) S3 (.t (.of upd_same) (.of (same_upd hr1 _ _ upd_same)) (RL.same S3))
  | @f p x y a b h1 h2 h3 =>
    refine ⟨_, rfl, p, _, _, _, rfl, rfl, h1.sq, atI_nat (j := 0) rfl, rfl, _, rfl, iteN (by decide +kernel) ?_⟩
    refine ⟨_, rfl, p, _, _, _, rfl, rfl, h1.sq, atI_nat (j := 0) rfl, rfl, _, rfl, iteY ?_⟩
    obtain ⟨d1, d2, rfl⟩ : ∃ d1 d2, ds = [d1, d2] := by
      match ds, hl with
      | [d1, d2], _ => exact ⟨d1, d2, rfl⟩
    obtain ⟨x1, e1, r1⟩ := RL.at (i := 0) rfl
    obtain ⟨x2, e2, r2⟩ := RL.at (i := 1) rfl
    refine ⟨_, rfl, L, _, _, _, rfl, rfl, SqL.of hL, atI_nat (j := 0) e1, _, rfl, L, _, _, _, rfl, rfl, SqL.of hL, atI_nat (j := 1) e2, zz 3, fun r hr1 => ?_⟩
    have S3 := same_upd hr1 (o := .tup [.str "f", x1, x2])
    exact q _ (.ref r) S3 (.f (.of upd_same) (r1.same S3) (r2.same S3))
/-- measures: the walk's word -/
def MeasW (K : PySem.W.Frag) (H : Hp) (x : V) (d : D) (L : Addr) : Nat → L2.St → Hp → Prop := fun m σ H' => ∃ (cn dp : Nat) (ws : List V) (its : List (D × Nat)) (y4 y5 y6 : Option V),
  σ = [some x, some (.int (cn : Int)), some (.int (dp : Int)), some (.ref L), y4, y5, y6] ∧ Same H H' ∧ H' L = some (.lst ws) ∧ Stk K H' ws its ∧ m = szS its ∧ cn + szS its = d.size ∧ max dp (dpS its) = d.depth
theorem max_int (dp l : Nat) : (if ((l : Nat) : Int) > ((dp : Nat) : Int) then ((l : Nat) : Int) else ((dp : Nat) : Int)) = ((max dp l : Nat) : Int) := by
  by_cases h : ((l : Nat) : Int) > ((dp : Nat) : Int)
  · rw [if_pos h]
    omega
  · rw [if_neg h]
    omega
theorem ok_meas {f f2 : Addr} {fd d2 : FuncData} {k : Nat} (F : Fun K "measures" "measures" sMeasures f fd) (Oq : Own P w K mg base CX0 k "parts_of_shape" f2 d2 ["shape"] (spParts K)) (m_max : mg "max" = none) : FnOk P w K mg base CX0 (k + 1) f fd ["shape"] (spMeas K) := by
  refine F.ok scMeasures (fun vs H Q E h => ?_) (fun cdv A outer s H vs Q E hr h => ?_)
  · obtain ⟨x, d, rfl, _⟩ := h
    rfl
  obtain ⟨x, d, rfl, R, big, q⟩ := h
  refine ⟨_, pss_cons (ps_set (i := 1) scMeasures.nd rfl (.inl rfl) pe_int)
      (pss_cons (ps_set (i := 2) scMeasures.nd rfl (.inl rfl) pe_int)
      (pss_cons (ps_set (i := 3) scMeasures.nd rfl (.inl rfl) (pe_lst (pa_cons (pe_tup (pa_cons (pv 0) (pa_cons pe_int pa_nil))) pa_nil)))
      (pss_cons (ps_while PassesOwn.never (pt_truth (pv 3) (by intro _; rfl)) (pss_cons (ps_asg (pe_bm0 PySem.F.plainAttrs_list PySem.F.slot_list_pop PySem.F.type_list_pop mt_pop (pv 3)) (pg_tup rfl (pgs_cons (pg_name (i := 4) scMeasures.nd rfl (.inl rfl)) (pgs_cons (pg_name (i := 5) scMeasures.nd rfl (.inl rfl)) pgs_nil))))
      (pss_cons (ps_aug (i := 1) scMeasures.nd rfl (.inl rfl) pe_int ip_add)
      (pss_cons (ps_set (i := 2) scMeasures.nd rfl (.inl rfl) (pe_callB (call_max2 rfl) (by rfl) m_max (by decide +kernel) (pa_cons (pv 2) (pa_cons (pv 5) pa_nil))))
      (pss_one (ps_for PassesOwn.never rfl (pi_tup (pe_call Oq.ok hr rfl Oq.at_ Oq.kp Oq.bd .nil pass0 (pa_cons (pv 4) pa_nil))) (pg_name (i := 6) scMeasures.nd rfl (.inl rfl)) (pss_one (ps_expr (pe_bm PySem.F.plainAttrs_list PySem.F.slot_list_append PySem.F.type_list_append mt_append (pv 3) (pa_cons (pe_tup (pa_cons (pv 6) (pa_cons (pe_op op_add (pv 5) pe_int) pa_nil))) pa_nil))))))))))
      (pss_one (ps_ret (pe_tup (pa_cons (pv 1) (pa_cons (pv 2) pa_nil)))))))), ?_⟩
  refine ⟨_, rfl, zz 2, fun p hp => ⟨zz 1, fun L hL => ?_⟩⟩
  have S0 := (same_upd hp (o := .tup [x, .int 1])).trans (same_upd hL (o := .lst [.ref p]))
  have nL : H L = none := (same_upd hp (o := .tup [x, .int 1])).free hL
  refine ⟨MeasW K H x d L, ⟨_, 0, 0, [.ref p], [(d, 1)], _, _, _, rfl, S0, upd_same, .cons (same_upd hL _ _ upd_same) (R.same S0) .nil, rfl, ?_, ?_⟩, fun m σ H' h => ?_⟩
  · simp only [szS]
    omega
  · simp only [dpS]
    omega
  obtain ⟨cn, dp, ws, its, y4, y5, y6, rfl, S1, hL1, ST1, rfl, e1, e2⟩ := h
  rcases ST1.last with ⟨rfl, rfl⟩ | ⟨ws', its', p', x', d', l, rfl, rfl, ST2, hp', R'⟩
  · refine ⟨_, rfl, false, .inl ⟨_, SqL.of hL1, rfl⟩, iteF ?_⟩
    have g1 : cn = d.size := e1
    have g2 : dp = d.depth := by
      have : max dp 0 = d.depth := e2
      omega
    subst g1 g2
    exact ⟨_, rfl, _, rfl, zz 2, fun r hr1 => q _ r (S1.trans (same_upd hr1)) upd_same⟩
  · rw [szS_app] at e1
    rw [dpS_app] at e2
    have len1 := (ST2.app (.cons hp' R' .nil)).len
    have len2 := len_szS (its' ++ [(d', l)])
    rw [szS_app] at len2
    have e1' : cn + (szS its' + (d'.size + 0)) = d.size := e1
    have e2' : max dp (max (dpS its') (max (l + d'.depth - 1) 0)) = d.depth := e2
    refine ⟨_, rfl, true, .inl ⟨_, SqL.of hL1, by cases ws' <;> rfl⟩, iteT ⟨fun σ' H'' => ∃ m', m' < szS (its' ++ [(d', l)]) ∧ MeasW K H x d L m' σ' H'', fun _ _ h => h, ?_⟩⟩
    refine ⟨_, rfl, .inl ⟨rfl, _, SqL.of hL1⟩, L, _, _, rfl, rfl, hL1, last_get _ _, ?_⟩
    rw [List.dropLast_concat]
    have X1 : ST H' (upd H' L (.lst ws')) := ST.lst hL1 _
    refine ⟨p', _, rfl, SqT.of (X1 _ _ hp'), rfl, _, _, rfl, _, _, rfl, rfl, ?_⟩
    refine ⟨_, rfl, _, _, rfl, rfl, ?_⟩
    refine ⟨_, rfl, _, rfl, _, _, rfl, ?_⟩
    have SL : Same H (upd H' L (.lst ws')) := same_skip S1 nL
    refine ⟨_, rfl, x', d', rfl, R'.mono X1, fun H2 qa vs2 S2 h2 RL => ⟨qa, rfl, ⟨_, h2.sq⟩, ?_⟩⟩
    have lv := RL.len
    refine for_tup (K := K) (a := qa) (xs := vs2) (fun j σ H'' => ∃ y6 ps, σ = [some x, some (.int ((cn : Int) + 1)), some (.int (if ((l : Nat) : Int) > ((dp : Nat) : Int) then ((l : Nat) : Int) else ((dp : Nat) : Int))), some (.ref L), some x', some (.int ((l : Nat) : Int)), y6] ∧ Same H H'' ∧ ST H2 H'' ∧ H'' L = some (.lst (ws' ++ ps)) ∧ Stk K H'' ps (push (l + 1) (d'.kids.take j)))
      ⟨_, [], rfl, SL.trans S2, ST.refl _, by rw [List.append_nil]; exact S2 _ _ upd_same, .nil⟩ (fun i σ H'' _ h => ?_) (fun i z σ H'' hz h => ?_) (fun σ H'' h => ?_)
    · obtain ⟨y6, ps, _, _, X2, _⟩ := h
      exact (h2.mono X2).sq
    · obtain ⟨y6, ps, rfl, S3, X2, hL3, SP⟩ := h
      obtain ⟨dz, hdz, Rz⟩ := RL.get hz
      have hi : i < d'.kids.length := (List.getElem?_eq_some_iff.mp hdz).1
      refine ⟨_, rfl, .inl ⟨rfl, _, SqL.of hL3⟩, _, rfl, _, rfl, _, _, rfl, rfl, zz 2, fun pt hpt => ?_⟩
      have Sp := same_upd hpt (o := .tup [z, .int (((l : Nat) : Int) + 1)])
      have hL4 := Sp _ _ hL3
      have bound : (ws' ++ ps).length ≤ 100000 := by
        have t1 := SP.len
        have t2 := ST2.len
        have t3 := len_szS its'
        have t4 := len_szS (push (l + 1) (d'.kids.take i))
        have t5 : (push (l + 1) (d'.kids.take i)).length ≤ d'.size := by
          show ((d'.kids.take i).map _).length ≤ _
          rw [List.length_map, List.length_take, size_kids]
          have t6 := len_szS (push 0 d'.kids)
          rw [szS_push] at t6
          have t7 : (push 0 d'.kids).length = d'.kids.length := List.length_map _
          omega
        rw [List.length_append]
        omega
      refine ⟨L, _, _, rfl, rfl, hL4, zbig bound, ?_⟩
      have X3 : ST (upd H'' pt (.tup [z, .int (((l : Nat) : Int) + 1)])) (upd (upd H'' pt (.tup [z, .int (((l : Nat) : Int) + 1)])) L (.lst (ws' ++ ps ++ [.ref pt]))) := ST.lst hL4 _
      refine ⟨_, ps ++ [.ref pt], rfl, same_skip (S3.trans Sp) nL, X2.trans ((ST.same Sp).trans X3), by rw [upd_same, List.append_assoc], ?_⟩
      have e3 : push (l + 1) (d'.kids.take (i + 1)) = push (l + 1) (d'.kids.take i) ++ [(dz, l + 1)] := by
        rw [List.take_add_one, hdz]
        exact List.map_append
      rw [e3]
      refine (SP.mono ((ST.same Sp).trans X3)).app (.cons (X3 _ _ upd_same) ?_ .nil)
      exact Rz.mono (X2.trans ((ST.same Sp).trans X3))
    · obtain ⟨y6, ps, rfl, S3, X2, hL3, SP⟩ := h
      rw [lv, List.take_length] at SP
      refine ⟨szS (its' ++ push (l + 1) d'.kids), ?_, cn + 1, max dp l, ws' ++ ps, its' ++ push (l + 1) d'.kids, some x', some (.int ((l : Nat) : Int)), y6, ?_, S3, hL3, (ST2.mono ((X1.trans (ST.same S2)).trans X2)).app SP, rfl, ?_, ?_⟩
      · rw [szS_app, szS_app, szS_push]
        show _ < _ + (d'.size + 0)
        rw [size_kids d']
        omega
      · rw [max_int]
        rfl
      · rw [szS_app, szS_push]
        rw [size_kids d'] at e1'
        omega
      · rw [dpS_app]
        rw [depth_kids d'] at e2'
        by_cases hk : d'.kids = []
        · rw [hk] at e2' ⊢
          have e4 : dpS (push (l + 1) []) = 0 := rfl
          have e5 : D.depthL [] = 0 := by simp only [D.depthL]
          rw [e4]
          rw [e5] at e2'
          omega
        · have e4 := dpS_push (l + 1) d'.kids hk
          obtain ⟨z, hz, e5⟩ := depthL_ex hk
          have := depth_pos z
          omega
/-- check_result: the walk's word -/
def CheckW (K : PySem.W.Frag) (H : Hp) (x : V) (d : D) (m kn L : Addr) (f : Int → Option D) : Nat → L2.St → Hp → Prop := fun mm σ H' => ∃ (cn : Nat) (ws : List V) (its : List (D × Nat)) (kvs : List (Key × V)) (y5 y6 y7 y8 y9 : Option V),
  σ = [some x, some (.ref m), some (.ref kn), some (.int (cn : Int)), some (.ref L), y5, y6, y7, y8, y9] ∧ Same H H' ∧ H' L = some (.lst ws) ∧ Stk K H' ws its ∧ H' kn = some (.dK kvs) ∧ KnOk H' kvs f ∧ kvs.length ≤ cn ∧ cn ≤ 2000 ∧
  mm = szS its ∧ szS its ≤ d.size ∧ cn + szS (subS f its) = (d.sub f).size ∧ dpS (subS f its) ≤ (d.sub f).depth ∧ ((d.sub f).depth ≤ 100 ∨ dpS (subS f its) = (d.sub f).depth)
theorem ok_check {f f2 f3 C : Addr} {fd d2 d3 : FuncData} {k : Nat} {u1 u2 : Tok} (F : Fun K "check_result" "check_result" sCheckResult f fd) (Oq : Own P w K mg base CX0 k "parts_of_shape" f2 d2 ["shape"] (spParts K)) (Om : Own P w K mg base CX0 k "measures" f3 d3 ["shape"] (spMeas K))
    (T : ExcT K mg "TooLarge" C) (eMS : mg "MAX_SIZE" = some (.int 2000 u1)) (eMD : mg "MAX_DEPTH" = some (.int 100 u2)) : FnOk P w K mg base (L2.CX P w) (k + 1) f fd ["shape", "mapping"] (spCheck K C) := by
  refine F.okX scCheckResult (fun vs H Q E h => ?_) (fun cdv A outer s H vs Q E hr h => ?_)
  · obtain ⟨x, d, m, ms, rfl, _⟩ := h
    rfl
  obtain ⟨x, d, m, ms, rfl, R, M, sz, szm, qE, qQ⟩ := h
  refine ⟨_, pss_cons (ps_set (i := 2) scCheckResult.nd rfl (.inl rfl) pe_dnewK)
      (pss_cons (ps_set (i := 3) scCheckResult.nd rfl (.inl rfl) pe_int)
      (pss_cons (ps_set (i := 4) scCheckResult.nd rfl (.inl rfl) (pe_lst (pa_cons (pe_tup (pa_cons (pv 0) (pa_cons pe_int pa_nil))) pa_nil)))
      (pss_one (ps_while (passes_of rfl) (pt_truth (pv 4) (by intro _; rfl)) (pss_cons (ps_asg (pe_bm0 PySem.F.plainAttrs_list PySem.F.slot_list_pop PySem.F.type_list_pop mt_pop (pv 4)) (pg_tup rfl (pgs_cons (pg_name (i := 5) scCheckResult.nd rfl (.inl rfl)) (pgs_cons (pg_name (i := 6) scCheckResult.nd rfl (.inl rfl)) pgs_nil))))
      (pss_cons (ps_aug (i := 3) scCheckResult.nd rfl (.inl rfl) pe_int ip_add)
      (pss_cons (ps_set (i := 7) scCheckResult.nd rfl (.inl rfl) (pv 6))
      (pss_cut (ps_if (PW.pt (pw_and (pt_cmpR op_eq (pe_ix ix_tup (pv 5) pe_int (fun _ _ => rfl)) pe_str (nomark _)) (pw_and1 (pt_cmp (pc_din (hu_of hr) (pe_ix ix_tup (pv 5) pe_int (fun _ _ => rfl)) (pv 1)))))) (pss_cons (ps_set (i := 8) scCheckResult.nd rfl (.inl rfl) (pe_ix ix_tup (pv 5) pe_int (fun _ _ => rfl)))
      (pss_cut (ps_if (pt_cmp (pc_dnotin (hu_of hr) (pv 8) (pv 2))) (pss_one (ps_dput (hu_of hr) (pv 2) (pv 8) (pe_call Om.ok hr rfl Om.at_ Om.kp Om.bd .nil pass0 (pa_cons (pe_dget (hu_of hr) (pv 1) (pv 8) (fun _ _ => rfl)) pa_nil)) rfl)) pss_nil)
      (pss_cons (ps_aug (i := 3) scCheckResult.nd rfl (.inl rfl) (pe_op op_sub (pe_ix ix_tup (pe_dget (hu_of hr) (pv 2) (pv 8) (fun _ _ => rfl)) pe_int (fun _ _ => rfl)) pe_int) ip_add)
      (pss_one (ps_aug (i := 7) scCheckResult.nd rfl (.inl rfl) (pe_op op_sub (pe_ix ix_tup (pe_dget (hu_of hr) (pv 2) (pv 8) (fun _ _ => rfl)) pe_int (fun _ _ => rfl)) pe_int) ip_add))))) pss_nil)
      (pss_cut (ps_if (PW.pt (pw_or (pt_cmpR op_gt (pv 3) (pe_glob (v := .int 2000) rfl eMS ⟨_, rfl⟩) (nomark _)) (pw_or1 (pt_cmpR op_gt (pv 7) (pe_glob (v := .int 100) rfl eMD ⟨_, rfl⟩) (nomark _))))) (pss_one (ps_raise rfl (takes_of rfl rfl rfl rfl) (pmk_own PySem.F.excBase_ValueError T.xP T.gP T.kP (raises_own T.bP T.tP) rfl))) pss_nil)
      (pss_one (ps_for (passes_of rfl) rfl (pi_tup (pe_call Oq.ok hr rfl Oq.at_ Oq.kp Oq.bd .nil pass0 (pa_cons (pv 5) pa_nil))) (pg_name (i := 9) scCheckResult.nd rfl (.inl rfl)) (pss_one (ps_expr (pe_bm PySem.F.plainAttrs_list PySem.F.slot_list_append PySem.F.type_list_append mt_append (pv 4) (pa_cons (pe_tup (pa_cons (pv 9) (pa_cons (pe_op op_add (pv 6) pe_int) pa_nil))) pa_nil))))))))))))))), ?_⟩
  refine fun kn hkn => ?_
  have Sk := same_upd hkn (o := .dK [])
  refine ⟨_, rfl, zz 2, fun p hp => ⟨zz 1, fun L hL => ?_⟩⟩
  have Sp := same_upd hp (o := .tup [x, .int 1])
  have SL0 := same_upd hL (o := .lst [.ref p])
  have S0 := Sk.trans (Sp.trans SL0)
  have nL : H L = none := Sk.free (Sp.free hL)
  have hknL := SL0 _ _ (Sp _ _ (upd_same (H := H) (a := kn) (o := .dK [])))
  refine ⟨CheckW K H x d m kn L (lk ms), ⟨_, 0, [.ref p], [(d, 1)], [], _, _, _, _, _, rfl, S0, upd_same, .cons (SL0 _ _ upd_same) (R.same S0) .nil, hknL, fun n v e => (by cases e), Nat.le_refl _, by omega, rfl, ?_, ?_, ?_, ?_⟩, fun mm σ H' h => ?_⟩
  · simp only [szS]
    omega
  · simp only [subS, szS, List.map]
    omega
  · simp only [subS, dpS, List.map]
    omega
  · simp only [subS, dpS, List.map]
    omega
  obtain ⟨cn, ws, its, kvs, y5, y6, y7, y8, y9, rfl, S1, hL1, ST1, hk1, kn1, lk1, c2000, rfl, z0, e1, e2, e3⟩ := h
  rcases ST1.last with ⟨rfl, rfl⟩ | ⟨ws', its', p', x', d', l, rfl, rfl, ST2, hp', R'⟩
  · refine ⟨_, rfl, false, .inl ⟨_, SqL.of hL1, rfl⟩, iteF ?_⟩
    have g1 : cn + 0 = (d.sub (lk ms)).size := e1
    have g2 : (d.sub (lk ms)).depth ≤ 100 := by
      rcases e3 with h | h
      · exact h
      · have h' : 0 = (d.sub (lk ms)).depth := h
        have := depth_pos (d.sub (lk ms))
        omega
    refine qQ (fun hb => ?_) _ S1
    rcases hb with h | h <;> omega
  · rw [subS_app, szS_app] at e1
    rw [subS_app, dpS_app] at e2 e3
    have e1' : cn + (szS (subS (lk ms) its') + ((d'.sub (lk ms)).size + 0)) = (d.sub (lk ms)).size := e1
    have e2' : max (dpS (subS (lk ms) its')) (max (l + (d'.sub (lk ms)).depth - 1) 0) ≤ (d.sub (lk ms)).depth := e2
    have e3' : (d.sub (lk ms)).depth ≤ 100 ∨ max (dpS (subS (lk ms) its')) (max (l + (d'.sub (lk ms)).depth - 1) 0) = (d.sub (lk ms)).depth := e3
    have z1 := z0
    rw [szS_app] at z1
    have z1' : szS its' + (d'.size + 0) ≤ d.size := z1
    refine ⟨_, rfl, true, .inl ⟨_, SqL.of hL1, by cases ws' <;> rfl⟩, iteT ⟨fun σ' H'' => ∃ m', m' < szS (its' ++ [(d', l)]) ∧ CheckW K H x d m kn L (lk ms) m' σ' H'', fun _ _ h => h, ?_⟩⟩
    refine ⟨_, rfl, .inl ⟨rfl, _, SqL.of hL1⟩, L, _, _, rfl, rfl, hL1, last_get _ _, ?_⟩
    rw [List.dropLast_concat]
    have X1 : ST H' (upd H' L (.lst ws')) := ST.lst hL1 _
    have SL : Same H (upd H' L (.lst ws')) := same_skip S1 nL
    have nkL : kn ≠ L := ne_of hk1 hL1 (fun z => by cases z)
    have hk2 : upd H' L (.lst ws') kn = some (.dK kvs) := by rw [upd_ne nkL]; exact hk1
    have hL2 : upd H' L (.lst ws') L = some (.lst ws') := upd_same
    have kn2 := kn1.mono X1
    have ST3 := ST2.mono X1
    have R2 := R'.mono X1
    refine ⟨p', _, rfl, SqT.of (X1 _ _ hp'), rfl, _, _, rfl, _, _, rfl, rfl, ?_⟩
    generalize upd H' L (.lst ws') = H2 at SL hk2 hL2 kn2 ST3 R2
    refine ⟨_, rfl, _, _, rfl, rfl, ?_⟩
    refine ⟨_, rfl, ?_⟩
    -- the node's own measure
    refine ⟨fun σ' H3 => ∃ (cn' dp' : Nat) (kvs' : List (Key × V)) (y8 y9 : Option V), σ' = [some x, some (.ref m), some (.ref kn), some (.int (cn' : Int)), some (.ref L), some x', some (.int ((l : Nat) : Int)), some (.int (dp' : Int)), y8, y9] ∧ Same H H3 ∧ ST H2 H3 ∧ H3 L = some (.lst ws') ∧ H3 kn = some (.dK kvs') ∧
      KnOk H3 kvs' (lk ms) ∧ kvs'.length ≤ cn' ∧ cn' + D.sizeL (D.subL (lk ms) d'.kids) = cn + (d'.sub (lk ms)).size ∧ dp' ≤ l + (d'.sub (lk ms)).depth - 1 ∧ (d'.kids = [] → dp' = l + (d'.sub (lk ms)).depth - 1) ∧ (d'.kids ≠ [] → d'.isV = false), ?_, ?_⟩
    · have plain : (∀ n, d' = .v n → lk ms n = none) → (d'.kids ≠ [] → d'.isV = false) ∧ (cn + 1) + D.sizeL (D.subL (lk ms) d'.kids) = cn + (d'.sub (lk ms)).size ∧ l ≤ l + (d'.sub (lk ms)).depth - 1 ∧ (d'.kids = [] → l = l + (d'.sub (lk ms)).depth - 1) := by
        intro hn
        have hp1 := depth_pos (d'.sub (lk ms))
        cases hv : d'.isV with
        | true =>
          cases d' with
          | v n =>
            rw [sub_v_none (hn n rfl)]
            refine ⟨fun z => absurd rfl z, ?_, (by show l ≤ l + 1 - 1; omega), fun _ => ?_⟩
            · show (cn + 1) + 0 = cn + 1
              omega
            · show l = l + 1 - 1
              omega
          | c _ _ => cases hv
          | t _ => cases hv
          | f _ _ => cases hv
        | false =>
          refine ⟨fun _ => rfl, ?_, by omega, fun hk => ?_⟩
          · rw [size_kids (d'.sub (lk ms)), sub_kids _ _ hv]
            omega
          · rw [depth_kids (d'.sub (lk ms)), sub_kids _ _ hv, hk]
            show l = l + (1 + 0) - 1
            omega
      have skip : (∀ n, d' = .v n → lk ms n = none) → ∃ (cn' dp' : Nat) (kvs' : List (Key × V)) (y8' y9' : Option V), [some x, some (.ref m), some (.ref kn), some (.int ((cn : Int) + 1)), some (.ref L), some x', some (.int ((l : Nat) : Int)), some (.int ((l : Nat) : Int)), y8, y9] = [some x, some (.ref m), some (.ref kn), some (.int (cn' : Int)), some (.ref L), some x', some (.int ((l : Nat) : Int)), some (.int (dp' : Int)), y8', y9'] ∧ Same H H2 ∧ ST H2 H2 ∧ H2 L = some (.lst ws') ∧ H2 kn = some (.dK kvs') ∧
          KnOk H2 kvs' (lk ms) ∧ kvs'.length ≤ cn' ∧ cn' + D.sizeL (D.subL (lk ms) d'.kids) = cn + (d'.sub (lk ms)).size ∧ dp' ≤ l + (d'.sub (lk ms)).depth - 1 ∧ (d'.kids = [] → dp' = l + (d'.sub (lk ms)).depth - 1) ∧ (d'.kids ≠ [] → d'.isV = false) := by
        intro hn
        obtain ⟨p1, p2, p3, p4⟩ := plain hn
        exact ⟨cn + 1, l, kvs, y8, y9, rfl, SL, ST.refl _, hL2, hk2, kn2, by omega, p2, p3, p4, p1⟩
      obtain ⟨pa, ka, ra, rfl, hta, hva, _⟩ := R2.tag
      refine ⟨_, rfl, pa, _, _, _, rfl, rfl, hta.sq, atI_nat (j := 0) rfl, rfl, _, rfl, ite2 (fun c1 => ?_) (fun c1 => ?_)⟩
      · have k1 : ka = "v" := V.str.inj (of_decide_eq_true c1)
        cases R2 with
        | c h1 h2 h3 => exact absurd (hva.mpr k1) (by intro z; cases z)
        | t h1 h2 h3 => exact absurd (hva.mpr k1) (by intro z; cases z)
        | f h1 h2 h3 => exact absurd (hva.mpr k1) (by intro z; cases z)
        | @v _ n h1 =>
          obtain ⟨kvm, hm, Mm⟩ := M
          have hm2 := SL _ _ hm
          refine ⟨_, rfl, pa, _, _, _, rfl, rfl, h1.sq, atI_nat (j := 1) rfl, _, rfl, m, _, rfl, DGet.k (k := Sum.inl n) hm2, _, rfl, ?_⟩
          rcases Mm.get n with ⟨g1, g2⟩ | ⟨v, e, g1, g2, Re⟩
          · rw [g1]
            refine iteF ?_
            exact skip (fun n' hn => by cases hn; exact g2)
          · rw [g1]
            refine iteT ?_
            have Re2 := Re.mono (ST.same SL)
            refine ⟨_, rfl, pa, _, _, _, rfl, rfl, h1.sq, atI_nat (j := 1) rfl, ?_⟩
            refine ⟨fun σ' H3 => ∃ (kvs' : List (Key × V)) (py : Addr), σ' = [some x, some (.ref m), some (.ref kn), some (.int ((cn : Int) + 1)), some (.ref L), some (.ref pa), some (.int ((l : Nat) : Int)), some (.int ((l : Nat) : Int)), some (.int n), y9] ∧ Same H H3 ∧ ST H2 H3 ∧ H3 L = some (.lst ws') ∧ H3 kn = some (.dK kvs') ∧
              KnOk H3 kvs' (lk ms) ∧ kvs'.length ≤ cn + 1 ∧ valV kvs' (.inl n) = some (.ref py) ∧ H3 py = some (.tup [.int (e.size : Int), .int (e.depth : Int)]), ?_, ?_⟩
            · refine ⟨_, rfl, _, rfl, kn, _, rfl, DGet.k (k := Sum.inl n) hk2, _, rfl, ?_⟩
              cases gk : valV kvs (.inl n) with
              | none =>
                refine iteT ?_
                refine ⟨_, rfl, _, rfl, m, _, rfl, (by have g := DGet.k (k := Sum.inl n) hm2; rw [g1] at g; exact g), v, e, rfl, Re2, szm n e g2, fun H3 r S3 hr3 => ?_⟩
                have hk3 := S3 _ _ hk2
                refine ⟨_, rfl, _, rfl, kn, _, rfl, DPut.k (k := Sum.inl n) hk3 (zbig (n := kvs.length) (by omega)), ?_⟩
                have X3 : ST H3 (upd H3 kn (.dK (putK kvs (.inl n) (.ref r)))) := ST.dct hk3 _
                have nk : H kn = none := hkn
                refine ⟨_, r, rfl, same_skip (SL.trans S3) nk, (ST.same S3).trans X3, ?_, upd_same, fun n' v' ev => ?_, ?_, ?_, X3 _ _ hr3⟩
                · rw [upd_ne nkL.symm]
                  exact S3 _ _ hL2
                · rw [valV_put] at ev
                  by_cases cc : (Sum.inl n' : Key) = Sum.inl n
                  · rw [if_pos cc] at ev
                    cases ev
                    cases cc
                    exact ⟨r, e, rfl, g2, X3 _ _ hr3⟩
                  · rw [if_neg cc] at ev
                    exact (kn2.mono ((ST.same S3).trans X3)) n' v' ev
                · have := length_putK kvs (Sum.inl n : Key) (.ref r)
                  omega
                · rw [valV_put, if_pos rfl]
              | some vk =>
                refine iteF ?_
                obtain ⟨py, e', rfl, g3, g4⟩ := kn2 n vk gk
                have ee : e' = e := Option.some.inj (g3.symm.trans g2)
                subst ee
                exact ⟨kvs, py, rfl, SL, ST.refl _, hL2, hk2, kn2, by omega, gk, g4⟩
            · rintro σ' H3 ⟨kvs', py, rfl, S3, X3, hL3, hk3, kn3, lk3, gy, hy⟩
              have dg : DGet H3 kn (.int n) (some (.ref py)) := by
                have g := DGet.k (k := Sum.inl n) hk3
                rw [gy] at g
                exact g
              refine ⟨_, rfl, _, rfl, _, rfl, kn, _, rfl, dg, py, _, _, _, rfl, rfl, SqT.of hy, atI_nat (j := 0) rfl, _, _, rfl, rfl, _, _, rfl, rfl, ?_⟩
              refine ⟨_, rfl, _, rfl, _, rfl, kn, _, rfl, dg, py, _, _, _, rfl, rfl, SqT.of hy, atI_nat (j := 1) rfl, _, _, rfl, rfl, _, _, rfl, rfl, ?_⟩
              have ps := size_pos e
              have pd := depth_pos e
              have i1 : ((cn : Int) + 1 + ((e.size : Int) - 1)) = ((cn + e.size : Nat) : Int) := by omega
              have i2 : (((l : Nat) : Int) + ((e.depth : Int) - 1)) = ((l + e.depth - 1 : Nat) : Int) := by omega
              refine ⟨cn + e.size, l + e.depth - 1, kvs', some (.int n), y9, ?_, S3, X3, hL3, hk3, kn3, by omega, ?_, ?_, fun _ => ?_, fun z => absurd rfl z⟩
              · rw [← i1, ← i2]
                rfl
              · rw [sub_size_v g2]
                show cn + e.size + 0 = _
                omega
              · rw [sub_size_v g2]
                exact Nat.le_refl _
              · rw [sub_size_v g2]
      · have k1 : ¬ ka = "v" := fun z => c1 (decide_eq_true (congrArg V.str z))
        refine skip (fun n hn => ?_)
        subst hn
        exact absurd (hva.mp rfl) k1
    · rintro σ' H3 ⟨cn', dp', kvs', y8', y9', rfl, S3, X3, hL3, hk3, kn3, lk3, f1, f2, f3, f4⟩
      have R3 := R2.mono X3
      -- the bounds
      have cnN : cn' ≤ (d.sub (lk ms)).size := by omega
      have dpN : dp' ≤ (d.sub (lk ms)).depth := by omega
      refine ⟨fun σ' H4 => σ' = [some x, some (.ref m), some (.ref kn), some (.int (cn' : Int)), some (.ref L), some x', some (.int ((l : Nat) : Int)), some (.int (dp' : Int)), y8', y9'] ∧ H4 = H3 ∧ cn' ≤ 2000 ∧ dp' ≤ 100, ?_, ?_⟩
      · refine ⟨_, rfl, _, _, rfl, rfl, _, rfl, ite2 (fun b1 => ?_) (fun b1 => ?_)⟩
        · have b1' : (2000 : Int) < (cn' : Int) := of_decide_eq_true b1
          exact qE (.inl (by omega)) _ S3
        · have b1' : ¬ (2000 : Int) < (cn' : Int) := fun z => b1 (decide_eq_true z)
          refine ⟨_, rfl, _, _, rfl, rfl, _, rfl, ite2 (fun b2 => ?_) (fun b2 => ?_)⟩
          · have b2' : (100 : Int) < (dp' : Int) := of_decide_eq_true b2
            exact qE (.inr (by omega)) _ S3
          · have b2' : ¬ (100 : Int) < (dp' : Int) := fun z => b2 (decide_eq_true z)
            exact ⟨rfl, rfl, by omega, by omega⟩
      · rintro σ' H4 ⟨rfl, rfl, b1, b2⟩
        refine ⟨_, rfl, x', d', rfl, R3, fun H5 qa vs2 S5 h5 RL => ⟨qa, rfl, ⟨_, h5.sq⟩, ?_⟩⟩
        have lv := RL.len
        refine for_tup (K := K) (a := qa) (xs := vs2) (fun j σ H'' => ∃ y9 ps, σ = [some x, some (.ref m), some (.ref kn), some (.int (cn' : Int)), some (.ref L), some x', some (.int ((l : Nat) : Int)), some (.int (dp' : Int)), y8', y9] ∧ Same H H'' ∧ ST H5 H'' ∧ H'' L = some (.lst (ws' ++ ps)) ∧ H'' kn = some (.dK kvs') ∧ Stk K H'' ps (push (l + 1) (d'.kids.take j)))
          ⟨_, [], rfl, S3.trans S5, ST.refl _, by rw [List.append_nil]; exact S5 _ _ hL3, S5 _ _ hk3, .nil⟩ (fun i σ H'' _ h => ?_) (fun i z σ H'' hz h => ?_) (fun σ H'' h => ?_)
        · obtain ⟨y9, ps, _, _, X4, _⟩ := h
          exact (h5.mono X4).sq
        · obtain ⟨y9, ps, rfl, S6, X4, hL4, hk4, SP⟩ := h
          obtain ⟨dz, hdz, Rz⟩ := RL.get hz
          have hi : i < d'.kids.length := (List.getElem?_eq_some_iff.mp hdz).1
          refine ⟨_, rfl, .inl ⟨rfl, _, SqL.of hL4⟩, _, rfl, _, rfl, _, _, rfl, rfl, zz 2, fun pt hpt => ?_⟩
          have Sp := same_upd hpt (o := .tup [z, .int (((l : Nat) : Int) + 1)])
          have hL5 := Sp _ _ hL4
          have bound : (ws' ++ ps).length ≤ 100000 := by
            have t1 := SP.len
            have t2 := ST2.len
            have t3 := len_szS its'
            have t5 : (push (l + 1) (d'.kids.take i)).length ≤ d'.size := by
              show ((d'.kids.take i).map _).length ≤ _
              rw [List.length_map, List.length_take, size_kids]
              have t6 := len_szS (push 0 d'.kids)
              rw [szS_push] at t6
              have t7 : (push 0 d'.kids).length = d'.kids.length := List.length_map _
              omega
            rw [List.length_append]
            omega
          refine ⟨L, _, _, rfl, rfl, hL5, zbig bound, ?_⟩
          have X5 : ST (upd H'' pt (.tup [z, .int (((l : Nat) : Int) + 1)])) (upd (upd H'' pt (.tup [z, .int (((l : Nat) : Int) + 1)])) L (.lst (ws' ++ ps ++ [.ref pt]))) := ST.lst hL5 _
          refine ⟨_, ps ++ [.ref pt], rfl, same_skip (S6.trans Sp) nL, X4.trans ((ST.same Sp).trans X5), by rw [upd_same, List.append_assoc], by rw [upd_ne nkL]; exact Sp _ _ hk4, ?_⟩
          have e5 : push (l + 1) (d'.kids.take (i + 1)) = push (l + 1) (d'.kids.take i) ++ [(dz, l + 1)] := by
            rw [List.take_add_one, hdz]
            exact List.map_append
          rw [e5]
          refine (SP.mono ((ST.same Sp).trans X5)).app (.cons (X5 _ _ upd_same) ?_ .nil)
          exact Rz.mono (X4.trans ((ST.same Sp).trans X5))
        · obtain ⟨y9, ps, rfl, S6, X4, hL4, hk4, SP⟩ := h
          rw [lv, List.take_length] at SP
          have X45 := (ST.same S5).trans X4
          refine ⟨szS (its' ++ push (l + 1) d'.kids), ?_, cn', ws' ++ ps, its' ++ push (l + 1) d'.kids, kvs', some x', some (.int ((l : Nat) : Int)), some (.int (dp' : Int)), y8', y9, rfl, S6, hL4, ((ST3.mono X3).mono X45).app SP, hk4, kn3.mono X45, lk3, b1, rfl, ?_, ?_, ?_, ?_⟩
          · rw [szS_app, szS_app, szS_push]
            show _ < _ + (d'.size + 0)
            rw [size_kids d']
            omega
          · rw [szS_app, szS_push]
            rw [size_kids d'] at z1'
            omega
          · rw [subS_app, subS_push, szS_app, szS_push]
            omega
          · rw [subS_app, subS_push, dpS_app]
            by_cases hk : d'.kids = []
            · rw [hk]
              show max _ 0 ≤ _
              omega
            · have hne : D.subL (lk ms) d'.kids ≠ [] := by
                rw [subL_map]
                intro z
                exact hk (List.map_eq_nil_iff.mp z)
              have e4 := dpS_push (l + 1) _ hne
              have e5 := depth_kids (d'.sub (lk ms))
              rw [sub_kids _ _ (f4 hk)] at e5
              omega
          · rw [subS_app, subS_push, dpS_app]
            by_cases hk : d'.kids = []
            · rw [hk]
              have e6 := f3 hk
              show _ ∨ max _ 0 = _
              omega
            · have hne : D.subL (lk ms) d'.kids ≠ [] := by
                rw [subL_map]
                intro z
                exact hk (List.map_eq_nil_iff.mp z)
              have e4 := dpS_push (l + 1) _ hne
              have e5 := depth_kids (d'.sub (lk ms))
              rw [sub_kids _ _ (f4 hk)] at e5
              omega
/-- replaced -/
theorem repl_none {f : Addr} {fd : FuncData} : FnOk P w K mg base CX0 1 f fd ["shape", "mapping"] (spRepl K 0) := by
  have no : ∀ vs H Q E, ¬ spRepl K 0 vs H Q E := fun vs H Q E h => by
    obtain ⟨x, d, m, ms, _, _, _, _, h, _⟩ := h
    have := depth_pos d
    omega
  exact ⟨fun vs H Q E h => absurd h (no vs H Q E), fun A outer s H args us vs Q E _ _ _ _ h => absurd h (no vs H Q E)⟩
theorem ok_repl {f f2 f3 : Addr} {fd d2 d3 : FuncData} {n b : Nat} (F : Fun K "replaced" "replaced" sReplaced f fd) (hn : 1 ≤ n) (Oq : Own P w K mg base CX0 1 "parts_of_shape" f2 d2 ["shape"] (spParts K)) (Ow : Own P w K mg base CX0 1 "with_parts" f3 d3 ["shape", "parts"] (spWith K))
    (Orp : Own P w K mg base CX0 n "replaced" f fd ["shape", "mapping"] (spRepl K b)) : FnOk P w K mg base CX0 (n + 1) f fd ["shape", "mapping"] (spRepl K (b + 1)) := by
  refine F.ok scReplaced (fun vs H Q E h => ?_) (fun cdv A outer s H vs Q E hr h => ?_)
  · obtain ⟨x, d, m, ms, rfl, _⟩ := h
    rfl
  obtain ⟨x, d, m, ms, rfl, R, M, sz, dp, q⟩ := h
  have hr1 := hr.mono hn
  refine ⟨_, pss_cons (ps_if (pt_cmpR op_eq (pe_ix ix_tup (pv 0) pe_int (fun _ _ => rfl)) pe_str (nomark _)) (pss_one (ps_ret (pe_dget2 (hu_of hr) (pv 1) (pe_ix ix_tup (pv 0) pe_int (fun _ _ => rfl)) (pv 0) ⟨rfl, rfl, rfl, rfl⟩))) pss_nil)
      (pss_cons (ps_set (i := 2) scReplaced.nd rfl (.inl rfl) (pe_lst pa_nil))
      (pss_cons (ps_for PassesOwn.never rfl (pi_tup (pe_call Oq.ok hr1 rfl Oq.at_ Oq.kp Oq.bd .nil pass0 (pa_cons (pv 0) pa_nil))) (pg_name (i := 3) scReplaced.nd rfl (.inl rfl)) (pss_one (ps_expr (pe_bm PySem.F.plainAttrs_list PySem.F.slot_list_append PySem.F.type_list_append mt_append (pv 2) (pa_cons (pe_call Orp.ok hr rfl Orp.at_ Orp.kp Orp.bd .nil pass0 (pa_cons (pv 3) (pa_cons (pv 1) pa_nil))) pa_nil)))))
      (pss_one (ps_ret (pe_call Ow.ok hr1 rfl Ow.at_ Ow.kp Ow.bd .nil pass0 (pa_cons (pv 0) (pa_cons (pv 2) pa_nil))))))), ?_⟩
  obtain ⟨pa, ka, ra, rfl, hta, hva, _⟩ := R.tag
  refine ⟨_, rfl, pa, _, _, _, rfl, rfl, hta.sq, atI_nat (j := 0) rfl, rfl, _, rfl, ite2 (fun c1 => ?_) (fun c1 => ?_)⟩
  · have k1 : ka = "v" := V.str.inj (of_decide_eq_true c1)
    cases R with
    | c h1 h2 h3 => exact absurd (hva.mpr k1) (by intro z; cases z)
    | t h1 h2 h3 => exact absurd (hva.mpr k1) (by intro z; cases z)
    | f h1 h2 h3 => exact absurd (hva.mpr k1) (by intro z; cases z)
    | @v _ nn h1 =>
      obtain ⟨kvm, hm, Mm⟩ := M
      refine ⟨_, rfl, m, rfl, .inl ⟨_, .of hm⟩, _, rfl, pa, _, _, _, rfl, rfl, h1.sq, atI_nat (j := 1) rfl, _, rfl, _, DGet.k (k := Sum.inl nn) hm, ?_⟩
      rcases Mm.get nn with ⟨g1, g2⟩ | ⟨v, e, g1, g2, Re⟩
      · rw [g1]
        refine q _ _ (Same.refl _) ?_
        rw [sub_v_none g2]
        exact .v h1
      · rw [g1]
        refine q _ _ (Same.refl _) ?_
        rw [sub_size_v g2]
        exact Re
  · have nv : d.isV = false := by
      cases hv : d.isV with
      | false => rfl
      | true => exact absurd (decide_eq_true (congrArg V.str (hva.mp hv))) c1
    refine ⟨Nat.zero_le _, fun L hL => ?_⟩
    have S0 := same_upd hL (o := .lst [])
    refine ⟨_, rfl, _, d, rfl, R.same S0, fun H2 qa ws S2 h2 RL => ⟨qa, rfl, ⟨_, h2.sq⟩, ?_⟩⟩
    have lv := RL.len
    have kl := kids_len d
    have SS := S0.trans S2
    refine for_tup (K := K) (a := qa) (xs := ws) (fun j σ H' => ∃ y3 ps, σ = [some (.ref pa), some (.ref m), some (.ref L), y3] ∧ Same H H' ∧ ST H2 H' ∧ H' L = some (.lst ps) ∧ RpL K H' ps (D.subL (lk ms) (d.kids.take j)))
      ⟨_, [], rfl, SS, ST.refl _, S2 _ _ upd_same, .nil⟩ (fun i σ H' _ h => ?_) (fun i z σ H' hz h => ?_) (fun σ H' h => ?_)
    · obtain ⟨y3, ps, _, _, X, _⟩ := h
      exact (h2.mono X).sq
    · obtain ⟨y3, ps, rfl, S3, X3, hL3, RP⟩ := h
      obtain ⟨dz, hdz, Rz⟩ := RL.get hz
      have hi : i < d.kids.length := (List.getElem?_eq_some_iff.mp hdz).1
      have hmem := List.mem_of_getElem? hdz
      have k1 := kid_size hmem
      have k2 := kid_depth hmem
      refine ⟨_, rfl, .inl ⟨rfl, _, SqL.of hL3⟩, _, rfl, _, rfl, z, dz, m, ms, rfl, Rz.mono X3, M.same S3, by omega, by omega, fun H4 v4 S4 R4 => ?_⟩
      have hL4 := S4 _ _ hL3
      have l1 := RP.len
      rw [subL_len, List.length_take] at l1
      refine ⟨L, _, _, rfl, rfl, hL4, zbig (n := ps.length) (by omega), ?_⟩
      have X5 : ST H4 (upd H4 L (.lst (ps ++ [v4]))) := ST.lst hL4 _
      refine ⟨_, ps ++ [v4], rfl, same_skip (S3.trans S4) hL, X3.trans ((ST.same S4).trans X5), upd_same, ?_⟩
      rw [subL_take _ hdz]
      exact ((RP.same S4).mono X5).app (.cons (R4.mono X5) .nil)
    · obtain ⟨y3, ps, rfl, S3, X3, hL3, RP⟩ := h
      rw [lv, List.take_length] at RP
      refine ⟨_, rfl, _, rfl, _, d, L, ps, _, rfl, R.same S3, nv, hL3, RP, subL_len _ _, fun H5 v5 S5 R5 => ?_⟩
      rw [with_sub _ _ nv] at R5
      exact q _ _ (S3.trans S5) R5
theorem repl_all {f f2 f3 : Addr} {fd d2 d3 : FuncData} (F : Fun K "replaced" "replaced" sReplaced f fd) (bd : Binds K fd ["shape", "mapping"] []) (at_ : mg "replaced" = some (.ref f)) (Oq : Own P w K mg base CX0 1 "parts_of_shape" f2 d2 ["shape"] (spParts K)) (Ow : Own P w K mg base CX0 1 "with_parts" f3 d3 ["shape", "parts"] (spWith K)) :
    ∀ b : Nat, FnOk P w K mg base CX0 (b + 1) f fd ["shape", "mapping"] (spRepl K b)
  | 0 => repl_none
  | b + 1 => ok_repl F (by omega) Oq Ow ⟨repl_all F bd at_ Oq Ow b, bd, F.kp, at_⟩
theorem ok_subst {f f2 f3 C : Addr} {fd d2 d3 : FuncData} {n : Nat} (F : Fun K "substitute" "substitute" sSubstitute f fd) (Oc : Own P w K mg base (L2.CX P w) n "check_result" f2 d2 ["shape", "mapping"] (spCheck K C)) (hn : n ≤ 101)
    (Orp : Own P w K mg base CX0 101 "replaced" f3 d3 ["shape", "mapping"] (spRepl K 100)) : FnOk P w K mg base (L2.CX P w) 102 f fd ["shape", "mapping"] (spSubst K C) := by
  refine F.okX scSubstitute (fun vs H Q E h => ?_) (fun cdv A outer s H vs Q E hr h => ?_)
  · obtain ⟨x, d, m, ms, rfl, _⟩ := h
    rfl
  obtain ⟨x, d, m, ms, rfl, R, M, sz, szm, qE, qQ⟩ := h
  have hr1 := hr.mono hn
  refine ⟨_, pss_cons (ps_expr (pe_call Oc.ok hr1 rfl Oc.at_ Oc.kp Oc.bd .nil (passes_call (E := E) (takes_of rfl rfl rfl rfl) (fun _ _ _ _ h => h)) (pa_cons (pv 0) (pa_cons (pv 1) pa_nil))))
    (pss_one (ps_ret (pe_call Orp.ok hr rfl Orp.at_ Orp.kp Orp.bd .nil pass0 (pa_cons (pv 0) (pa_cons (pv 1) pa_nil))))), ?_⟩
  refine ⟨_, rfl, _, rfl, x, d, m, ms, rfl, R, M, sz, szm, qE, fun nb H1 S1 => ?_⟩
  have dd := depth_sub (lk ms) d
  have d100 : (d.sub (lk ms)).depth ≤ 100 := Nat.le_of_not_lt fun z => nb (.inr z)
  exact ⟨_, rfl, _, rfl, x, d, m, ms, rfl, R.same S1, M.same S1, sz, by omega, fun H2 v2 S2 R2 => qQ nb _ _ (S1.trans S2) R2⟩
end
end Vs

set_option Elab.async false
set_option linter.all false
set_option maxRecDepth 100000
namespace Vs
open PySem PySem.Spec PyProof.Rows L2 RT StX Vr
open C8 (pss_cut tCut)
section
variable {P : Program} {w : World} {K : PySem.W.Frag} {mg : Str → Option Value} {base : Heap}
theorem ok_vars {f f2 : Addr} {fd d2 : FuncData} {k : Nat} (F : Fun K "variables" "variables" sVariables f fd) (Oq : Own P w K mg base CX0 k "parts_of_shape" f2 d2 ["shape"] (spParts K)) (m_tuple : mg "tuple" = none) : FnOk P w K mg base CX0 (k + 1) f fd ["shape"] (spVars K) := by
  refine F.ok scVariables (fun vs H Q E h => ?_) (fun cdv A outer s H vs Q E hr h => ?_)
  · obtain ⟨x, d, rfl, _⟩ := h
    rfl
  obtain ⟨x, d, rfl, R, sz, q⟩ := h
  refine ⟨_, pss_cons (ps_set (i := 1) scVariables.nd rfl (.inl rfl) pe_dnewK)
      (pss_cons (ps_set (i := 2) scVariables.nd rfl (.inl rfl) (pe_lst (pa_cons (pv 0) pa_nil)))
      (pss_cons (ps_while PassesOwn.never (pt_truth (pv 2) (by intro _; rfl)) (pss_cons (ps_set (i := 3) scVariables.nd rfl (.inl rfl) (pe_bm0 PySem.F.plainAttrs_list PySem.F.slot_list_pop PySem.F.type_list_pop mt_pop (pv 2)))
      (pss_cut (ps_if (pt_cmpR op_eq (pe_ix ix_tup (pv 3) pe_int (fun _ _ => rfl)) pe_str (nomark _)) (pss_one (ps_dput (hu_of hr) (pv 1) (pe_ix ix_tup (pv 3) pe_int (fun _ _ => rfl)) pe_bl rfl)) pss_nil)
      (pss_one (ps_expr (pe_bm PySem.F.plainAttrs_list PySem.F.slot_list_extend PySem.F.type_list_extend mt_extendT (pv 2) (pa_cons (pe_revT (pe_call Oq.ok hr rfl Oq.at_ Oq.kp Oq.bd .nil pass0 (pa_cons (pv 3) pa_nil))) pa_nil)))))))
      (pss_one (ps_ret (pe_callTy (call_tupleD rfl) (by rfl) m_tuple (by decide +kernel) (pa_cons (pv 1) pa_nil)))))), ?_⟩
  refine fun M hM => ?_
  have SM := same_upd hM (o := .dK [])
  refine ⟨_, rfl, zz 1, fun L hL => ?_⟩
  have SL := same_upd hL (o := .lst [x])
  have nLM : M ≠ L := ne_of_none upd_same hL
  have nL : H L = none := SM.free hL
  refine ⟨fun m σ H' => ∃ (ws : List V) (ds : List D) (kvs : List (Key × V)) (ns : List Int) (y3 : Option V), σ = [some x, some (.ref M), some (.ref L), y3] ∧ Same H H' ∧ H' L = some (.lst ws) ∧ RpL K H' ws ds ∧ H' M = some (.dK kvs) ∧ kvs.map (·.1) = keysOf ns ∧
      m = D.sizeL ds ∧ addAll ns (D.occL ds.reverse) = d.vars ∧ ns.length + D.sizeL ds ≤ d.size,
    ⟨_, [x], [d], [], [], _, rfl, SM.trans SL, upd_same, .cons (R.same (SM.trans SL)) .nil, SL _ _ upd_same, rfl, rfl, ?_, ?_⟩, fun m σ H' h => ?_⟩
  · show addAll [] (d.occ ++ []) = d.vars
    rw [List.append_nil]
    rfl
  · show 0 + D.sizeL [d] ≤ d.size
    simp only [D.sizeL]
    omega
  obtain ⟨ws, ds, kvs, ns, y3, rfl, S1, hL1, RL, hM1, hk, rfl, hv, hb⟩ := h
  rcases RL.last with ⟨rfl, rfl⟩ | ⟨ws', ds', x', d', rfl, rfl, RL', R'⟩
  · refine ⟨_, rfl, false, .inl ⟨_, SqL.of hL1, rfl⟩, iteF ?_⟩
    have hv' : ns = d.vars := hv
    subst hv'
    refine ⟨_, rfl, M, kvs, rfl, .of hM1, fun p hp => q _ p (S1.trans (same_upd hp)) ?_⟩
    rw [upd_same, keys_vals hk]
  · rw [sizeL_app] at hb
    have hb' : ns.length + (D.sizeL ds' + (d'.size + 0)) ≤ d.size := hb
    rw [List.reverse_append] at hv
    have hv' : addAll ns (d'.occ ++ D.occL ds'.reverse) = d.vars := hv
    rw [addAll_app] at hv'
    refine ⟨_, rfl, true, .inl ⟨_, SqL.of hL1, by cases ws' <;> rfl⟩, iteT ⟨fun σ' H'' => ∃ m', m' < D.sizeL (ds' ++ [d']) ∧ ∃ (ws : List V) (ds : List D) (kvs : List (Key × V)) (ns : List Int) (y3 : Option V), σ' = [some x, some (.ref M), some (.ref L), y3] ∧ Same H H'' ∧ H'' L = some (.lst ws) ∧ RpL K H'' ws ds ∧ H'' M = some (.dK kvs) ∧ kvs.map (·.1) = keysOf ns ∧
      m' = D.sizeL ds ∧ addAll ns (D.occL ds.reverse) = d.vars ∧ ns.length + D.sizeL ds ≤ d.size, fun _ _ h => h, ?_⟩⟩
    refine ⟨_, rfl, .inl ⟨rfl, _, SqL.of hL1⟩, L, _, _, rfl, rfl, hL1, last_get _ _, ?_⟩
    rw [List.dropLast_concat]
    have X1 : ST H' (upd H' L (.lst ws')) := ST.lst hL1 _
    have S2 : Same H (upd H' L (.lst ws')) := same_skip S1 nL
    have hL2 : upd H' L (.lst ws') L = some (.lst ws') := upd_same
    have hM2 : upd H' L (.lst ws') M = some (.dK kvs) := by
      rw [upd_ne nLM]
      exact hM1
    have RL2 := RL'.mono X1
    have R2 := R'.mono X1
    generalize upd H' L (.lst ws') = H2 at S2 hL2 hM2 RL2 R2
    refine ⟨fun σ' H3 => ∃ (kvs' : List (Key × V)) (ns' : List Int), σ' = [some x, some (.ref M), some (.ref L), some x'] ∧ Same H H3 ∧ H3 L = some (.lst ws') ∧ RpL K H3 ws' ds' ∧ Rp K H3 x' d' ∧ H3 M = some (.dK kvs') ∧ kvs'.map (·.1) = keysOf ns' ∧
      addAll ns' (D.occL d'.kids) = addAll ns d'.occ ∧ ns'.length + D.sizeL d'.kids ≤ ns.length + d'.size, ?_, ?_⟩
    · obtain ⟨pa, ka, ra, rfl, hta, hva, _⟩ := R2.tag
      refine ⟨_, rfl, pa, _, _, _, rfl, rfl, hta.sq, atI_nat (j := 0) rfl, rfl, _, rfl, ite2 (fun c1 => ?_) (fun c1 => ?_)⟩
      · have k1 : ka = "v" := V.str.inj (of_decide_eq_true c1)
        cases R2 with
        | c h1 h2 h3 => exact absurd (hva.mpr k1) (by intro z; cases z)
        | t h1 h2 h3 => exact absurd (hva.mpr k1) (by intro z; cases z)
        | f h1 h2 h3 => exact absurd (hva.mpr k1) (by intro z; cases z)
        | @v _ n h1 =>
          have kl := keys_len hk
          refine ⟨_, rfl, _, rfl, pa, _, _, _, rfl, rfl, h1.sq, atI_nat (j := 1) rfl, M, _, rfl, DPut.k (k := Sum.inl n) hM2 (zbig (n := kvs.length) (by omega)), ?_⟩
          have X3 := ST.dct hM2 (.dK (putK kvs (Sum.inl n) (.bl true)))
          refine ⟨_, addK ns n, rfl, same_skip S2 hM, ?_, RL2.mono X3, .v (h1.mono X3), upd_same, put_keys hk n _, rfl, ?_⟩
          · rw [upd_ne nLM.symm]
            exact hL2
          · have := addK_len ns n
            show (addK ns n).length + 0 ≤ ns.length + 1
            omega
      · have nv : d'.isV = false := by
          cases hv2 : d'.isV with
          | false => rfl
          | true => exact absurd (decide_eq_true (congrArg V.str (hva.mp hv2))) c1
        refine ⟨kvs, ns, rfl, S2, hL2, RL2, R2, hM2, hk, by rw [occ_kids _ nv], ?_⟩
        rw [size_kids d']
        omega
    · rintro σ' H3 ⟨kvs', ns', rfl, S3, hL3, RL3, R3, hM3, hk3, ho, hs⟩
      refine ⟨_, rfl, .inl ⟨rfl, _, SqL.of hL3⟩, _, rfl, x', d', rfl, R3, fun H4 qa us S4 h4 RU => ⟨qa, us, rfl, h4.sq, fun p hp => ?_⟩⟩
      have S5 := same_upd hp (o := .tup us.reverse)
      have hL5 := S5 _ _ (S4 _ _ hL3)
      have lu := RU.len
      have l3 := RL3.len
      have l5 := len_sizeL ds'
      have l6 := kids_len d'
      refine ⟨L, p, ws', us.reverse, rfl, rfl, hL5, SqT.of upd_same, Nat.le_of_lt (zbig (n := ws'.length + us.reverse.length) (by rw [List.length_reverse]; omega)), ?_⟩
      have X6 : ST (upd H4 p (.tup us.reverse)) (upd (upd H4 p (.tup us.reverse)) L (.lst (ws' ++ us.reverse))) := ST.lst hL5 _
      refine ⟨D.sizeL (ds' ++ d'.kids.reverse), ?_, ws' ++ us.reverse, ds' ++ d'.kids.reverse, kvs', ns', _, rfl, same_skip (S3.trans (S4.trans S5)) nL, upd_same, ?_, ?_, hk3, rfl, ?_, ?_⟩
      · rw [sizeL_app, sizeL_app, sizeL_rev]
        show _ < _ + (d'.size + 0)
        rw [size_kids d']
        omega
      · exact ((RL3.same (S4.trans S5)).mono X6).app ((RU.same S5).mono X6).rev
      · rw [upd_ne nLM]
        exact S5 _ _ (S4 _ _ hM3)
      · rw [List.reverse_append, List.reverse_reverse, occL_app, addAll_app, ho]
        exact hv'
      · rw [sizeL_app, sizeL_rev]
        omega
theorem numb_step {ns : List Int} {i : Nat} {n : Int} (h : ns[i]? = some n) : numb 0 (ns.take (i + 1)) = numb 0 (ns.take i) ++ [(n, .v (i : Int))] := by
  have hi : i < ns.length := (List.getElem?_eq_some_iff.mp h).1
  rw [List.take_add_one, h]
  show numb 0 (ns.take i ++ [n]) = _
  rw [numb_app, List.length_take, Nat.min_eq_left (by omega), Nat.zero_add]
  rfl
theorem ok_gen {f f2 C : Addr} {fd d2 : FuncData} (F : Fun K "generalized" "generalized" sGeneralized f fd) (Ou : Own P w K mg base (L2.CX P w) 102 "substitute" f2 d2 ["shape", "mapping"] (spSubst K C)) (m_enumerate : mg "enumerate" = none) (m_len : mg "len" = none) :
    FnOk P w K mg base (L2.CX P w) 103 f fd ["shape", "numbers"] (spGen K C) := by
  refine F.okX scGeneralized (fun vs H Q E h => ?_) (fun cdv A outer s H vs Q E hr h => ?_)
  · obtain ⟨x, d, L, ns, rfl, _⟩ := h
    rfl
  obtain ⟨x, d, L, ns, rfl, R, hN, nd, ln, sz, qE, qQ⟩ := h
  refine ⟨_, pss_cons (ps_setDc (i := 2) (own := [("index", 3), ("number", 4)]) (g := gTup K 2 (gCons (gName 3) (gCons (gName 4) gNil))) (tt := tYes) rfl scGeneralized.nd rfl rfl (sw_trueD rfl rfl rfl (by decide +kernel)) (pi_enum rfl m_enumerate (pa_cons (pv 1) pa_nil)) (blkOk_by (own := [("index", 3), ("number", 4)]) (N := ["shape", "numbers", "mapping", "index", "number"]) (sc := defScope sGeneralized) (by decide +kernel)) (fun _ _ _ _ _ => (pg_tup rfl (pgs_cons (pg_name (i := 3) scGeneralized.nd rfl (.inl rfl)) (pgs_cons (pg_name (i := 4) scGeneralized.nd rfl (.inl rfl)) pgs_nil)))) (fun _ _ _ _ _ => pts_nil) (fun _ _ _ _ _ => (pv 4)) (fun _ _ _ _ _ => (pe_tup (pa_cons pe_str (pa_cons (pv 3) pa_nil)))))
      (pss_one (ps_ret (pe_tup (pa_cons (pe_callB call_len_seq (by rfl) m_len PySem.boot_len (pa_cons (pv 1) pa_nil)) (pa_cons (pe_call Ou.ok hr rfl Ou.at_ Ou.kp Ou.bd .nil (passes_call (E := E) (takes_of rfl rfl rfl rfl) (fun _ _ _ _ h => h)) (pa_cons (pv 0) (pa_cons (pv 2) pa_nil))) pa_nil))))), ?_⟩
  refine ⟨_, rfl, L, _, rfl, hN, fun M hM => ?_⟩
  have SM := same_upd hM (o := .dK [])
  refine dc_enum (K := K) (a := L) (xs := ns.map V.int) (fun i H' => Same H H' ∧ ∃ kvs, H' M = some (.dK kvs) ∧ MpL K H' kvs (numb 0 (ns.take i)))
    ⟨SM, [], upd_same, .nil⟩ (fun i H' _ h => h.1.seq hN) (fun i z T H' hz hT h => ?_) (fun H' h => ?_)
  · obtain ⟨S1, kvs, hM1, ML⟩ := h
    obtain ⟨n, hn, rfl⟩ := int_get hz
    have ST1 := same_upd hT (o := .tup [.int (i : Nat), .int n])
    refine ⟨T, _, rfl, SqT.of upd_same, rfl, _, _, rfl, _, _, rfl, rfl, rfl, ?_⟩
    have hM2 := ST1 _ _ hM1
    refine ⟨_, rfl, _, rfl, zz 2, fun p hp => ?_⟩
    have Sp := same_upd hp (o := .tup [.str "v", .int (i : Nat)])
    have hM3 := Sp _ _ hM2
    have lm := ML.len
    rw [numb_len, List.length_take] at lm
    refine ⟨kvs, Sum.inl n, rfl, hM3, small1000 (by omega), same_skip (S1.trans (ST1.trans Sp)) hM, kvs ++ [(Sum.inl n, .ref p)], ?_, ?_⟩
    · rw [upd_same, putK_new]
      rcases ML.get n with ⟨g, _⟩ | ⟨v', e, _, g, _⟩
      · exact g
      · have := (numb_keys _ _ _ (lk_mem g)).1
        exfalso
        obtain ⟨j, hj⟩ := List.getElem?_of_mem this
        have hj1 : j < (ns.take i).length := (List.getElem?_eq_some_iff.mp hj).1
        rw [List.length_take] at hj1
        rw [List.getElem?_take_of_lt (by omega)] at hj
        have hij : i = j := (List.getElem?_inj (List.getElem?_eq_some_iff.mp hn).1 nd).mp (hn.trans hj.symm)
        omega
    · have X4 : ST (upd (upd H' T (.tup [.int (i : Nat), .int n])) p (.tup [.str "v", .int (i : Nat)])) (upd (upd (upd H' T (.tup [.int (i : Nat), .int n])) p (.tup [.str "v", .int (i : Nat)])) M (.dK (putK kvs (Sum.inl n) (.ref p)))) := ST.dct hM3 _
      rw [numb_step hn]
      exact (ML.mono ((ST.same (ST1.trans Sp)).trans X4)).app (.cons (.v (.of (X4 _ _ upd_same))) .nil)
  · obtain ⟨S1, kvs, hM1, ML⟩ := h
    rw [List.length_map, List.take_length] at ML
    refine ⟨_, rfl, L, _, rfl, .inl (S1.seq hN), _, rfl, _, rfl, x, d, M, numb 0 ns, rfl, R.same S1, ⟨kvs, hM1, ML⟩, sz, fun n e hn => ?_, fun hb H2 S2 => qE hb _ (S1.trans S2), fun nb H2 v2 S2 R2 => ⟨zz 2, fun r hr1 => ?_⟩⟩
    · have := (lk_numb_size hn).1
      omega
    · refine qQ nb _ r v2 (S1.trans (S2.trans (same_upd hr1))) ?_ (R2.same (same_upd hr1))
      rw [upd_same, List.length_map]
end
end Vs

set_option Elab.async false
set_option linter.all false
set_option maxRecDepth 100000
namespace Vs
open PySem PySem.Spec PyProof.Rows L2 RT StX Vr
open C8 (pss_cut tCut)
section
variable {P : Program} {w : World} {K : PySem.W.Frag} {mg : Str → Option Value} {base : Heap}
theorem ok_tape {f : Addr} {fd : FuncData} {k : Nat} (F : Fun K "_law_tape" "_law_tape" sLawTape f fd) (ma : mg "abs" = none) (mm : mg "max" = none) (ml : mg "len" = none) (mr : mg "range" = none) (mi : mg "int" = none) : FnOk P w K mg base CX0 (k + 1) f fd ["script", "many"] (spTape K) := by
  refine F.ok scLawTape (fun vs H Q E h => ?_) (fun cdv A outer s H vs Q E hr h => ?_)
  · obtain ⟨a, ns, many, rfl, _⟩ := h
    rfl
  obtain ⟨a, ns, many, rfl, hS, m0, m1, q⟩ := h
  refine ⟨_, pss_cons (ps_set (i := 2) scLawTape.nd rfl (.inl rfl) (pe_lst (pa_cons pe_int pa_nil)))
    (pss_cons (ps_for PassesOwn.never rfl (pi_list (pe_slice sl_list (pv 0) po_none (po_some pe_int))) (pg_name (i := 3) scLawTape.nd rfl (.inl rfl))
      (pss_one (ps_expr (pe_bm PySem.F.plainAttrs_list PySem.F.slot_list_append PySem.F.type_list_append mt_append (pv 2) (pa_cons (pe_callB call_abs (by rfl) ma (by decide +kernel) (pa_cons (pv 3) pa_nil)) pa_nil)))))
    (pss_cons (ps_set (i := 4) scLawTape.nd rfl (.inl rfl) (pe_callB (cr_max rfl) (by rfl) mm (by decide +kernel) (pa_cons (pv 2) pa_nil)))
    (pss_cons (ps_if (pt_cmpR op_lt (pv 4) (pe_op op_pow pe_int pe_int) (nomark _)) (pss_one (ps_set (i := 4) scLawTape.nd rfl (.inl rfl) pe_int)) pss_nil)
    (pss_cons (ps_set (i := 5) scLawTape.nd rfl (.inl rfl) (pe_op op_add pe_int (pe_callB call_len_seq (by rfl) ml PySem.boot_len (pa_cons (pv 2) pa_nil))))
    (pss_cons (ps_set (i := 6) scLawTape.nd rfl (.inl rfl) (pe_lst pa_nil))
    (pss_cons (ps_for PassesOwn.never rfl (pi_range1 rfl mr (pa_cons (pv 1) pa_nil)) (pg_name (i := 7) scLawTape.nd rfl (.inl rfl))
      (pss_one (ps_if (pt_cmpR op_gt (pv 4) pe_int (nomark _))
        (pss_cons (ps_expr (pe_bm PySem.F.plainAttrs_list PySem.F.slot_list_append PySem.F.type_list_append mt_append (pv 6) (pa_cons (pe_op op_mod (pe_callTy call_int1 (by rfl) mi (by decide +kernel) (pa_cons (pv 4) pa_nil)) pe_int) pa_nil)))
        (pss_one (ps_set (i := 4) scLawTape.nd rfl (.inl rfl) (pe_op op_fdiv (pv 4) pe_int))))
        (pss_cons (ps_set (i := 5) scLawTape.nd rfl (.inl rfl) (pe_op op_mod (pe_callTy call_int1 (by rfl) mi (by decide +kernel) (pa_cons
          (pe_op op_add (pe_op op_add (pe_op op_mul (pv 5) pe_int) (pe_op op_mul (pe_ix ix_list (pv 2) (pe_op op_mod (pe_callTy call_int1 (by rfl) mi (by decide +kernel) (pa_cons (pv 7) pa_nil)) (pe_callB call_len_seq (by rfl) ml PySem.boot_len (pa_cons (pv 2) pa_nil))) (fun _ _ => rfl)) pe_int)) (pv 7)) pa_nil)) pe_int))
        (pss_one (ps_expr (pe_bm PySem.F.plainAttrs_list PySem.F.slot_list_append PySem.F.type_list_append mt_append (pv 6) (pa_cons (pe_op op_mod (pe_callTy call_int1 (by rfl) mi (by decide +kernel) (pa_cons
          (pe_op op_add (pe_op op_mul (pv 5) pe_int) (pe_op op_mul (pv 7) pe_int)) pa_nil)) pe_int) pa_nil))))))))
    (pss_one (ps_ret (pv 6))))))))), ?_⟩
  -- cells = [0]
  refine ⟨(by show 1 ≤ sizeLine; decide), fun ce hce => ?_⟩
  have S1 : Same H (upd H ce (.lst [.int 0])) := same_upd hce
  obtain ⟨ms, ems, lms⟩ := cut_front ns
  refine ⟨_, rfl, 63, rfl, a, _, rfl, S1.seq hS, fun c hc => ?_⟩
  rw [ems]
  have nce : ce ≠ c := ne_of_none upd_same hc
  have S2 : Same (upd H ce (.lst [.int 0])) (upd (upd H ce (.lst [.int 0])) c (.lst (ms.map V.int))) := same_upd hc
  refine ⟨c, rfl, ⟨_, SqL.of upd_same⟩, ?_⟩
  refine for_list (K := K) (a := c) (xs := ms.map V.int) (fun i σ H' => (∃ y3, σ = [some (.ref a), some (.int many), some (.ref ce), y3, none, none, none, none]) ∧ Same H H' ∧ H' c = some (.lst (ms.map V.int)) ∧ ∃ cs : List Int, H' ce = some (.lst (cs.map V.int)) ∧ cs.length = i + 1)
    ⟨⟨_, rfl⟩, S1.trans S2, upd_same, [0], by rw [upd_ne nce, upd_same]; rfl, rfl⟩ (fun i σ H' _ h => SqL.of h.2.2.1) (fun i x σ H' hx h => ?_) (fun σ H' h => ?_)
  · obtain ⟨⟨y3, rfl⟩, s1, hc1, cs, hcs, lcs⟩ := h
    have hi : i < ms.length := by
      have := (List.getElem?_eq_some_iff.mp hx).1
      rw [List.length_map] at this
      exact this
    rw [List.getElem?_map, List.getElem?_eq_getElem hi] at hx
    cases hx
    refine ⟨_, rfl, .inl ⟨rfl, _, SqL.of hcs⟩, _, rfl, _, rfl, ce, _, _, rfl, rfl, hcs, small1000 (by rw [List.length_map]; omega), ?_⟩
    rw [snoc_map]
    refine ⟨⟨_, rfl⟩, same_skip s1 hce, ?_, _, upd_same, ?_⟩
    · rw [upd_ne nce.symm]
      exact hc1
    · rw [List.length_append, lcs]
      rfl
  obtain ⟨⟨y3, rfl⟩, s1, hc1, cs, hcs, lcs⟩ := h
  rw [List.length_map] at lcs
  -- big = max(cells)
  refine ⟨_, rfl, ce, cs, rfl, SqL.of hcs, by omega, fun big _ _ => ?_⟩
  refine ⟨_, rfl, 10, 18, rfl, rfl, ⟨by decide, by decide, by decide⟩, _, _, rfl, rfl, _, rfl, ?_⟩
  have lcs' : (((cs.map V.int).length : Nat) : Int) = (cs.length : Int) := by rw [List.length_map]
  refine ite2 (fun c1 => ?_) (fun c1 => ?_)
  all_goals
    refine ⟨_, rfl, ce, _, rfl, .inl (SqL.of hcs), _, _, rfl, rfl, ?_⟩
    refine ⟨Nat.zero_le _, fun tp htp => ?_⟩
    have ntp : ce ≠ tp := ne_of_none hcs htp
    refine ⟨_, rfl, many, rfl, by omega, by omega, ?_⟩
    refine for_range (n := many.toNat) (fun i σ H' => ∃ bg vl y7 ts, σ = [some (.ref a), some (.int many), some (.ref ce), y3, some (.int bg), some (.int vl), some (.ref tp), y7] ∧ Same H H' ∧ H' ce = some (.lst (cs.map V.int)) ∧ H' tp = some (.lst ((ts : List Int).map V.int)) ∧ ts.length = i ∧ ∀ t ∈ ts, 0 ≤ t)
      ⟨_, _, none, [], rfl, s1.trans (same_upd htp), by rw [upd_ne ntp]; exact hcs, upd_same, rfl, fun t ht => by cases ht⟩ (fun i σ H' hi h => ?_) (fun σ H' h => ?_)
    · obtain ⟨bg, vl, y7, ts, rfl, s2, hcs2, hts, lts, nts⟩ := h
      have lt1 : (ts.map V.int).length < sizeLine := small1000 (by rw [List.length_map]; omega)
      have fresh : H tp = none := s1.free htp
      have nn : ∀ z : Int, ∀ t ∈ ts ++ [z], 0 ≤ z → 0 ≤ t := fun z t ht hz => by
        rcases List.mem_append.mp ht with h | h
        · exact nts t h
        · rw [List.mem_singleton.mp h]
          exact hz
      refine ⟨_, rfl, _, _, rfl, rfl, _, rfl, ite2 (fun c2 => ?_) (fun c2 => ?_)⟩
      · refine ⟨_, rfl, .inl ⟨rfl, _, SqL.of hts⟩, _, rfl, .inl ⟨_, rfl, _, _, rfl, rfl, (by show (0 : Int) < 1009; decide), tp, _, _, rfl, rfl, hts, lt1, ?_⟩⟩
        rw [snoc_map]
        refine ⟨_, rfl, _, _, rfl, rfl, ⟨by decide, by decide⟩, ?_⟩
        refine ⟨_, _, _, _, rfl, same_skip s2 fresh, by rw [upd_ne ntp]; exact hcs2, upd_same, by rw [List.length_append, lts]; rfl, fun t ht => nn _ t ht (Int.emod_nonneg _ (by decide))⟩
      · have pos : 0 < (((cs.map V.int).length : Nat) : Int) := by omega
        obtain ⟨v, hv, _⟩ := int_at (ns := cs) (i := (0 + (i : Int)) % (((cs.map V.int).length : Nat) : Int)) (Int.emod_nonneg _ (by omega)) (by rw [← lcs']; exact Int.emod_lt_of_pos _ pos)
        refine ⟨_, rfl, _, _, rfl, rfl, .inr ⟨by decide, by decide⟩, _, rfl, _, rfl, .inl ⟨_, rfl, _, rfl, ce, _, rfl, .inl (SqL.of hcs2), _, _, rfl, rfl, pos, ce, _, _, _, rfl, rfl, SqL.of hcs2, hv, _, _, rfl, rfl, .inr ⟨by decide, by decide⟩, _, _, rfl, rfl, ?_⟩⟩
        refine ⟨_, rfl, _, _, rfl, rfl, .inl ⟨_, rfl, _, _, rfl, rfl, (by show (0 : Int) < 2147483647; decide), ?_⟩⟩
        refine ⟨_, rfl, .inl ⟨rfl, _, SqL.of hts⟩, _, rfl, _, _, rfl, rfl, .inr ⟨by decide, by decide⟩, _, rfl, _, _, rfl, rfl, .inr ⟨by decide, by decide⟩, _, _, rfl, rfl, .inl ⟨_, rfl, _, _, rfl, rfl, (by show (0 : Int) < 1000003; decide), tp, _, _, rfl, rfl, hts, lt1, ?_⟩⟩
        rw [snoc_map]
        refine ⟨_, _, _, _, rfl, same_skip s2 fresh, by rw [upd_ne ntp]; exact hcs2, upd_same, by rw [List.length_append, lts]; rfl, fun t ht => nn _ t ht (Int.emod_nonneg _ (by decide))⟩
    · obtain ⟨bg, vl, y7, ts, rfl, s2, hcs2, hts, lts, nts⟩ := h
      exact ⟨_, rfl, q _ _ ts s2 hts lts nts⟩
theorem ok_pick {f : Addr} {fd : FuncData} {k : Nat} (F : Fun K "_law_pick" "_law_pick" sLawPick f fd) (m_int : mg "int" = none) (m_len : mg "len" = none) : FnOk P w K mg base CX0 (k + 1) f fd ["tape", "at", "many"] (spPick K) := by
  refine F.ok scLawPick (fun vs H Q E h => ?_) (fun cdv A outer s H vs Q E hr h => ?_)
  · obtain ⟨a, ns, at_, many, rfl, _⟩ := h
    rfl
  obtain ⟨a, ns, at_, many, rfl, hS, hl, hm, q⟩ := h
  refine ⟨_, pss_one (ps_ret (pe_op op_mod (pe_callTy call_int1 (by rfl) m_int (by decide +kernel) (pa_cons (pe_ix ix_list (pv 0) (pe_op op_mod (pe_callTy call_int1 (by rfl) m_int (by decide +kernel) (pa_cons (pv 1) pa_nil)) (pe_callB call_len_seq (by rfl) m_len PySem.boot_len (pa_cons (pv 0) pa_nil))) (fun _ _ => rfl)) pa_nil)) (pv 2))), ?_⟩
  have e0 : (((ns.map V.int).length : Nat) : Int) = (ns.length : Int) := by rw [List.length_map]
  have hl' : 0 < (((ns.map V.int).length : Nat) : Int) := by omega
  have b0 : 0 ≤ at_ % (((ns.map V.int).length : Nat) : Int) := Int.emod_nonneg _ (by omega)
  have b1 : at_ % (((ns.map V.int).length : Nat) : Int) < (((ns.map V.int).length : Nat) : Int) := Int.emod_lt_of_pos _ hl'
  have hj2 : (at_ % (ns.length : Int)).toNat < ns.length := by
    rw [e0] at b0 b1
    omega
  have g : atI (ns.map V.int) (at_ % (((ns.map V.int).length : Nat) : Int)) = some (.int (ns.getD (at_ % (ns.length : Int)).toNat 0)) := by
    rw [e0] at b0 ⊢
    have z : at_ % (ns.length : Int) = (((at_ % (ns.length : Int)).toNat : Nat) : Int) := (Int.toNat_of_nonneg b0).symm
    rw [show atI (ns.map V.int) (at_ % (ns.length : Int)) = atI (ns.map V.int) (((at_ % (ns.length : Int)).toNat : Nat) : Int) from congrArg _ z]
    refine atI_nat ?_
    rw [List.getElem?_map, List.getElem?_eq_getElem hj2, List.getD_eq_getElem?_getD, List.getElem?_eq_getElem hj2]
    rfl
  refine ⟨_, rfl, _, rfl, .inl ⟨_, rfl, _, rfl, a, _, rfl, .inl hS, _, _, rfl, rfl, hl', a, _, _, _, rfl, rfl, hS, g, .inl ⟨_, rfl, _, rfl, _, _, rfl, rfl, hm, ?_⟩⟩⟩
  exact q
theorem leaf_stamp {r : Int} (h0 : 0 ≤ r) (h1 : r < 4) : ∃ s : Int, atI [V.int 0, .int 1, .int 4, .int 0] r = some (.int s) ∧ (s = 0 ∨ s = 1 ∨ s = 4) := by
  have c : r = 0 ∨ r = 1 ∨ r = 2 ∨ r = 3 := by omega
  rcases c with rfl | rfl | rfl | rfl
  · exact ⟨0, atI_nat (j := 0) rfl, .inl rfl⟩
  · exact ⟨1, atI_nat (j := 1) rfl, .inr (.inl rfl)⟩
  · exact ⟨4, atI_nat (j := 2) rfl, .inr (.inr rfl)⟩
  · exact ⟨0, atI_nat (j := 3) rfl, .inl rfl⟩
theorem one_stamp {r : Int} (h0 : 0 ≤ r) (h1 : r < 3) : ∃ s : Int, atI [V.int 3, .int 5, .int 6] r = some (.int s) ∧ (s = 3 ∨ s = 5 ∨ s = 6) := by
  have c : r = 0 ∨ r = 1 ∨ r = 2 := by omega
  rcases c with rfl | rfl | rfl
  · exact ⟨3, atI_nat (j := 0) rfl, .inl rfl⟩
  · exact ⟨5, atI_nat (j := 1) rfl, .inr (.inl rfl)⟩
  · exact ⟨6, atI_nat (j := 2) rfl, .inr (.inr rfl)⟩
theorem ok_leaf {f f2 : Addr} {fd d2 : FuncData} {k : Nat} (F : Fun K "_law_leaf" "_law_leaf" sLawLeaf f fd) (Op : Own P w K mg base CX0 k "_law_pick" f2 d2 ["tape", "at", "many"] (spPick K)) (m_len : mg "len" = none) : FnOk P w K mg base CX0 (k + 1) f fd ["tape", "at", "free"] (spLeaf K) := by
  refine F.ok scLawLeaf (fun vs H Q E h => ?_) (fun cdv A outer s H vs Q E hr h => ?_)
  · obtain ⟨T, Fr, ts, fr, at_, rfl, _⟩ := h
    rfl
  obtain ⟨T, Fr, ts, fr, at_, rfl, hT, hp, hF, q⟩ := h
  refine ⟨_, pss_cons (ps_set (i := 3) scLawLeaf.nd rfl (.inl rfl) (pe_call Op.ok hr rfl Op.at_ Op.kp Op.bd .nil pass0 (pa_cons (pv 0) (pa_cons (pv 1) (pa_cons (pe_op op_add pe_int (pe_callB call_len_seq (by rfl) m_len PySem.boot_len (pa_cons (pv 2) pa_nil))) pa_nil)))))
      (pss_cons (ps_if (pt_cmpR op_ge (pv 3) pe_int (nomark _)) (pss_one (ps_ret (pe_tup (pa_cons pe_str (pa_cons (pe_ix ix_list (pv 2) (pe_op op_sub (pv 3) pe_int) (fun _ _ => rfl)) pa_nil))))) pss_nil)
      (pss_one (ps_ret (pe_tup (pa_cons pe_str (pa_cons (pe_ix ix_tup (pe_tup (pa_cons pe_int (pa_cons pe_int (pa_cons pe_int (pa_cons pe_int pa_nil))))) (pv 3) (fun _ _ => rfl)) (pa_cons (pe_tup pa_nil) pa_nil))))))), ?_⟩
  have e0 : (((fr.map V.int).length : Nat) : Int) = (fr.length : Int) := by rw [List.length_map]
  have many0 : (0 : Int) < 4 + (((fr.map V.int).length : Nat) : Int) := by omega
  refine ⟨_, rfl, _, rfl, _, rfl, Fr, _, rfl, .inl hF, _, _, rfl, rfl, T, ts, _, _, rfl, hT, hp, many0, ?_⟩
  have p0 := pk_lo (ts := ts) (a := at_) many0
  have p1 := pk_hi (ts := ts) (a := at_) many0
  generalize pk ts at_ (4 + (((fr.map V.int).length : Nat) : Int)) = r at p0 p1
  refine ⟨_, rfl, _, _, rfl, rfl, _, rfl, ite2 (fun c1 => ?_) (fun c1 => ?_)⟩
  · have c1' : (4 : Int) ≤ r := of_decide_eq_true c1
    obtain ⟨v, hv, hm⟩ := int_at (ns := fr) (i := r - 4) (by omega) (by omega)
    refine ⟨_, rfl, _, rfl, _, _, rfl, rfl, Fr, _, _, _, rfl, rfl, hF, hv, zz 2, fun p hp1 => ?_⟩
    exact q _ _ (.v v) (same_upd hp1) (.v (.of upd_same)) (fun l => .leafv hm)
  · have c1' : ¬ (4 : Int) ≤ r := fun z => c1 (decide_eq_true z)
    obtain ⟨sv, hs, hk⟩ := leaf_stamp p0 (by omega)
    refine ⟨zz 4, fun p hp1 => ⟨_, rfl, p, _, _, _, rfl, rfl, SqT.of upd_same, hs, zz 0, fun e he => ⟨zz 3, fun p2 hp2 => ?_⟩⟩⟩
    have S := (same_upd hp1 (o := .tup [.int 0, .int 1, .int 4, .int 0])).trans ((same_upd he (o := .tup [])).trans (same_upd hp2 (o := .tup [.str "c", .int sv, .ref e])))
    exact q _ _ (.c sv []) S (.c (.of upd_same) (.of (same_upd hp2 _ _ upd_same)) .nil) (fun l => .leafc hk)
theorem shape_none {f : Addr} {fd : FuncData} : FnOk P w K mg base CX0 2 f fd ["tape", "at", "level", "free"] (spShape K 0) := by
  have no : ∀ vs H Q E, ¬ spShape K 0 vs H Q E := fun vs H Q E h => by
    obtain ⟨T, Fr, ts, fr, at_, l, _, h, _⟩ := h
    omega
  exact ⟨fun vs H Q E h => absurd h (no vs H Q E), fun A outer s H args us vs Q E _ _ _ _ h => absurd h (no vs H Q E)⟩
theorem ok_shape {f f2 f3 : Addr} {fd d2 d3 : FuncData} {n b : Nat} (F : Fun K "_law_shape" "_law_shape" sLawShape f fd) (hn : 2 ≤ n) (Op : Own P w K mg base CX0 1 "_law_pick" f2 d2 ["tape", "at", "many"] (spPick K)) (Ol : Own P w K mg base CX0 2 "_law_leaf" f3 d3 ["tape", "at", "free"] (spLeaf K))
    (Os : Own P w K mg base CX0 n "_law_shape" f fd ["tape", "at", "level", "free"] (spShape K b)) (m_range : mg "range" = none) (m_tuple : mg "tuple" = none) : FnOk P w K mg base CX0 (n + 1) f fd ["tape", "at", "level", "free"] (spShape K (b + 1)) := by
  refine F.ok scLawShape (fun vs H Q E h => ?_) (fun cdv A outer s H vs Q E hr h => ?_)
  · obtain ⟨T, Fr, ts, fr, at_, l, rfl, _⟩ := h
    rfl
  obtain ⟨T, Fr, ts, fr, at_, l, rfl, hl, hT, hp, hF, q⟩ := h
  have hr2 := hr.mono hn
  have hr1 := hr.mono (show 1 ≤ n by omega)
  refine ⟨_, pss_cons (ps_set (i := 4) scLawShape.nd rfl (.inl rfl) (pe_call Op.ok hr1 rfl Op.at_ Op.kp Op.bd .nil pass0 (pa_cons (pv 0) (pa_cons (pv 1) (pa_cons pe_int pa_nil)))))
      (pss_cons (ps_if (PW.pt (pw_or (pt_cmpR op_le (pv 2) pe_int (nomark _)) (pw_or1 (pt_cmpR op_lt (pv 4) pe_int (nomark _))))) (pss_one (ps_ret (pe_tup (pa_cons (pe_call Ol.ok hr2 rfl Ol.at_ Ol.kp Ol.bd .nil pass0 (pa_cons (pv 0) (pa_cons (pe_op op_add (pv 1) pe_int) (pa_cons (pv 3) pa_nil)))) (pa_cons (pe_op op_add (pv 1) pe_int) pa_nil))))) pss_nil)
      (pss_cons (ps_if (pt_cmpR op_lt (pv 4) pe_int (nomark _)) (pss_cons (ps_asg (pe_call Os.ok hr rfl Os.at_ Os.kp Os.bd .nil pass0 (pa_cons (pv 0) (pa_cons (pe_op op_add (pv 1) pe_int) (pa_cons (pe_op op_sub (pv 2) pe_int) (pa_cons (pv 3) pa_nil))))) (pg_tup rfl (pgs_cons (pg_name (i := 5) scLawShape.nd rfl (.inl rfl)) (pgs_cons (pg_name (i := 1) scLawShape.nd rfl (.inl rfl)) pgs_nil))))
      (pss_cons (ps_asg (pe_call Os.ok hr rfl Os.at_ Os.kp Os.bd .nil pass0 (pa_cons (pv 0) (pa_cons (pv 1) (pa_cons (pe_op op_sub (pv 2) pe_int) (pa_cons (pv 3) pa_nil))))) (pg_tup rfl (pgs_cons (pg_name (i := 6) scLawShape.nd rfl (.inl rfl)) (pgs_cons (pg_name (i := 1) scLawShape.nd rfl (.inl rfl)) pgs_nil))))
      (pss_one (ps_ret (pe_tup (pa_cons (pe_tup (pa_cons pe_str (pa_cons (pv 5) (pa_cons (pv 6) pa_nil)))) (pa_cons (pv 1) pa_nil))))))) pss_nil)
      (pss_cons (ps_if (pt_cmpR op_eq (pv 4) pe_int (nomark _)) (pss_cons (ps_asg (pe_call Os.ok hr rfl Os.at_ Os.kp Os.bd .nil pass0 (pa_cons (pv 0) (pa_cons (pe_op op_add (pv 1) pe_int) (pa_cons (pe_op op_sub (pv 2) pe_int) (pa_cons (pv 3) pa_nil))))) (pg_tup rfl (pgs_cons (pg_name (i := 7) scLawShape.nd rfl (.inl rfl)) (pgs_cons (pg_name (i := 1) scLawShape.nd rfl (.inl rfl)) pgs_nil))))
      (pss_one (ps_ret (pe_tup (pa_cons (pe_tup (pa_cons pe_str (pa_cons (pe_ix ix_tup (pe_tup (pa_cons pe_int (pa_cons pe_int (pa_cons pe_int pa_nil)))) (pe_call Op.ok hr1 rfl Op.at_ Op.kp Op.bd .nil pass0 (pa_cons (pv 0) (pa_cons (pv 1) (pa_cons pe_int pa_nil)))) (fun _ _ => rfl)) (pa_cons (pe_tup (pa_cons (pv 7) pa_nil)) pa_nil)))) (pa_cons (pe_op op_add (pv 1) pe_int) pa_nil)))))) pss_nil)
      (pss_cons (ps_set (i := 8) scLawShape.nd rfl (.inl rfl) (pe_lst pa_nil))
      (pss_cons (ps_set (i := 9) scLawShape.nd rfl (.inl rfl) (pe_op op_add pe_int (pe_op op_fdiv (pe_call Op.ok hr1 rfl Op.at_ Op.kp Op.bd .nil pass0 (pa_cons (pv 0) (pa_cons (pe_op op_add (pv 1) pe_int) (pa_cons pe_int pa_nil)))) pe_int)))
      (pss_cons (ps_set (i := 1) scLawShape.nd rfl (.inl rfl) (pe_op op_add (pv 1) pe_int))
      (pss_cons (ps_for PassesOwn.never rfl (pi_range1 rfl m_range (pa_cons (pv 9) pa_nil)) (pg_name (i := 10) scLawShape.nd rfl (.inl rfl)) (pss_cons (ps_asg (pe_call Os.ok hr rfl Os.at_ Os.kp Os.bd .nil pass0 (pa_cons (pv 0) (pa_cons (pv 1) (pa_cons (pe_op op_sub (pv 2) pe_int) (pa_cons (pv 3) pa_nil))))) (pg_tup rfl (pgs_cons (pg_name (i := 11) scLawShape.nd rfl (.inl rfl)) (pgs_cons (pg_name (i := 1) scLawShape.nd rfl (.inl rfl)) pgs_nil))))
      (pss_one (ps_expr (pe_bm PySem.F.plainAttrs_list PySem.F.slot_list_append PySem.F.type_list_append mt_append (pv 8) (pa_cons (pv 11) pa_nil))))))
      (pss_one (ps_ret (pe_tup (pa_cons (pe_tup (pa_cons pe_str (pa_cons (pe_callTy call_tuple_of (by rfl) m_tuple (by decide +kernel) (pa_cons (pv 8) pa_nil)) pa_nil))) (pa_cons (pv 1) pa_nil)))))))))))), ?_⟩
  refine ⟨_, rfl, _, rfl, T, ts, _, _, rfl, hT, hp, by decide, ?_⟩
  have p0 := pk_lo (ts := ts) (a := at_) (show (0 : Int) < 7 by decide)
  have p1 := pk_hi (ts := ts) (a := at_) (show (0 : Int) < 7 by decide)
  generalize pk ts at_ 7 = r at p0 p1
  have leaf : ∀ (D' : Ends) (σ : L2.St), D'.rt = Q → σ = [some (.ref T), some (.int at_), some (.int (l : Int)), some (.ref Fr), some (.int r), none, none, none, none, none, none, none] →
      tRet (tTup (tCons (tCall (spLeaf K) [] E0 (tCons (tVar 0) (tCons (tOp (rI0 fun i j => .int (i + j)) (tVar 1) (tC (.int 1))) (tCons (tVar 3) tNil)))) (tCons (tOp (rI0 fun i j => .int (i + j)) (tVar 1) (tC (.int 2))) tNil))) D' σ H := by
    rintro D' σ hD rfl
    refine ⟨_, rfl, _, rfl, _, _, rfl, rfl, _, rfl, T, Fr, ts, fr, _, rfl, hT, hp, hF, fun H1 v d S1 R1 g => ?_⟩
    refine ⟨_, rfl, _, _, rfl, rfl, zz 2, fun p hp1 => ?_⟩
    rw [hD]
    exact q _ p v d _ (S1.trans (same_upd hp1)) upd_same (R1.same (same_upd hp1)) (g l)
  refine ⟨_, rfl, _, _, rfl, rfl, _, rfl, ite2 (fun c1 => ?_) (fun c1 => ?_)⟩
  · refine iteT ?_
    exact leaf _ _ rfl rfl
  have c1' : ¬ ((l : Nat) : Int) ≤ 0 := fun z => c1 (decide_eq_true z)
  obtain ⟨m, rfl⟩ : ∃ m, l = m + 1 := ⟨l - 1, by omega⟩
  have lv : ((m + 1 : Nat) : Int) - 1 = (m : Int) := by omega
  refine ⟨_, rfl, _, _, rfl, rfl, _, rfl, ite2 (fun c2 => ?_) (fun c2 => ?_)⟩
  · exact leaf _ _ rfl rfl
  -- a function
  refine ⟨_, rfl, _, _, rfl, rfl, _, rfl, ite2 (fun c3 => ?_) (fun c3 => ?_)⟩
  · refine ⟨_, rfl, _, rfl, _, _, rfl, rfl, _, rfl, _, _, rfl, rfl, _, rfl, T, Fr, ts, fr, at_ + 1, m, (by rw [← lv]; rfl), by omega, hT, hp, hF, fun H1 r1 v1 d1 at1 S1 h1 R1 g1 => ?_⟩
    refine ⟨r1, _, rfl, SqT.of h1, rfl, _, _, rfl, _, _, rfl, rfl, ?_⟩
    refine ⟨_, rfl, _, rfl, _, rfl, _, _, rfl, rfl, _, rfl, T, Fr, ts, fr, at1, m, (by rw [← lv]; rfl), by omega, S1.seq hT, hp, S1.seq hF, fun H2 r2 v2 d2 at2 S2 h2 R2 g2 => ?_⟩
    refine ⟨r2, _, rfl, SqT.of h2, rfl, _, _, rfl, _, _, rfl, rfl, ?_⟩
    refine ⟨_, rfl, _, rfl, zz 3, fun p hp1 => ⟨_, rfl, zz 2, fun p2 hp2 => ?_⟩⟩
    have S3 := (same_upd hp1 (o := .tup [.str "f", v1, v2])).trans (same_upd hp2 (o := .tup [.ref p, .int at2]))
    exact q _ p2 _ (.f d1 d2) at2 (S1.trans (S2.trans S3)) upd_same (.f (.of (same_upd hp2 _ _ upd_same)) (R1.same (S2.trans S3)) (R2.same S3)) (.f g1 g2)
  -- one argument
  refine ⟨_, rfl, rfl, _, rfl, ite2 (fun c4 => ?_) (fun c4 => ?_)⟩
  · refine ⟨_, rfl, _, rfl, _, _, rfl, rfl, _, rfl, _, _, rfl, rfl, _, rfl, T, Fr, ts, fr, at_ + 1, m, (by rw [← lv]; rfl), by omega, hT, hp, hF, fun H1 r1 v1 d1 at1 S1 h1 R1 g1 => ?_⟩
    refine ⟨r1, _, rfl, SqT.of h1, rfl, _, _, rfl, _, _, rfl, rfl, ?_⟩
    refine ⟨zz 3, fun p3 hp3 => ?_⟩
    have S3 := same_upd hp3 (o := .tup [.int 3, .int 5, .int 6])
    refine ⟨_, rfl, _, rfl, T, ts, _, _, rfl, S3.seq (S1.seq hT), hp, by decide, ?_⟩
    obtain ⟨sv, hs, hk⟩ := one_stamp (pk_lo (ts := ts) (a := at1) (show (0 : Int) < 3 by decide)) (pk_hi (ts := ts) (a := at1) (show (0 : Int) < 3 by decide))
    refine ⟨p3, _, _, _, rfl, rfl, SqT.of upd_same, hs, _, rfl, zz 1, fun p4 hp4 => ⟨zz 3, fun p5 hp5 => ⟨_, rfl, _, _, rfl, rfl, zz 2, fun p6 hp6 => ?_⟩⟩⟩
    have S4 := same_upd hp4 (o := .tup [v1])
    have S56 := (same_upd hp5 (o := .tup [.str "c", .int sv, .ref p4])).trans (same_upd hp6 (o := .tup [.ref p5, .int (at1 + 1)]))
    exact q _ p6 _ (.c sv [d1]) _ (S1.trans (S3.trans (S4.trans S56))) upd_same (.c (.of (same_upd hp6 _ _ upd_same)) (.of (S56 _ _ upd_same)) (.cons (R1.same (S3.trans (S4.trans S56))) .nil)) (.one hk g1)
  -- a tuple
  refine ⟨Nat.zero_le _, fun L hL => ?_⟩
  have S0 := same_upd hL (o := .lst [])
  refine ⟨_, rfl, _, rfl, _, _, rfl, rfl, T, ts, _, _, rfl, S0.seq hT, hp, by decide, ?_⟩
  have m0 := pk_lo (ts := ts) (a := at_ + 1) (show (0 : Int) < 5 by decide)
  have m1 := pk_hi (ts := ts) (a := at_ + 1) (show (0 : Int) < 5 by decide)
  generalize pk ts (at_ + 1) 5 = r5 at m0 m1
  refine ⟨_, _, rfl, rfl, ⟨by decide, by decide⟩, _, _, rfl, rfl, ?_⟩
  refine ⟨_, rfl, _, _, rfl, rfl, ?_⟩
  have q0 : 0 ≤ r5 / 2 ∧ r5 / 2 ≤ 2 := by omega
  refine ⟨_, rfl, 2 + r5 / 2, rfl, by omega, by omega, ?_⟩
  refine for_range (n := (2 + r5 / 2).toNat) (fun i σ H' => ∃ at' y5 y6 y7 y10 y11 ps ds, σ = [some (.ref T), some (.int at'), some (.int ((m + 1 : Nat) : Int)), some (.ref Fr), some (.int r), y5, y6, y7, some (.ref L), some (.int (2 + r5 / 2)), y10, y11] ∧ Same H H' ∧ H' L = some (.lst ps) ∧ RpL K H' ps ds ∧ ds.length = i ∧ ∀ x ∈ ds, GenD fr m x)
    ⟨_, _, _, _, _, _, [], [], rfl, S0, upd_same, .nil, rfl, fun x h => by cases h⟩ (fun i σ H' hi h => ?_) (fun σ H' h => ?_)
  · obtain ⟨at', y5, y6, y7, y10, y11, ps, ds, rfl, S1, hL1, RP, ld, gd⟩ := h
    refine ⟨_, rfl, _, rfl, _, rfl, _, _, rfl, rfl, _, rfl, T, Fr, ts, fr, at', m, (by rw [← lv]; rfl), by omega, S1.seq hT, hp, S1.seq hF, fun H2 r2 v2 d2 at2 S2 h2 R2 g2 => ?_⟩
    refine ⟨r2, _, rfl, SqT.of h2, rfl, _, _, rfl, _, _, rfl, rfl, ?_⟩
    have hL2 := S2 _ _ hL1
    have lp := RP.len
    refine ⟨_, rfl, .inl ⟨rfl, _, SqL.of hL2⟩, _, rfl, L, _, _, rfl, rfl, hL2, small1000 (by omega), ?_⟩
    have X := ST.lst hL2 (.lst (ps ++ [v2]))
    refine ⟨at2, _, _, _, _, _, ps ++ [v2], ds ++ [d2], rfl, same_skip (S1.trans S2) hL, upd_same, ((RP.same S2).mono X).app (.cons (R2.mono X) .nil), ?_, fun x hx => ?_⟩
    · rw [List.length_append, ld]
      rfl
    · rcases List.mem_append.mp hx with h | h
      · exact gd x h
      · rw [List.mem_singleton.mp h]
        exact g2
  · obtain ⟨at', y5, y6, y7, y10, y11, ps, ds, rfl, S1, hL1, RP, ld, gd⟩ := h
    refine ⟨_, rfl, L, _, rfl, .inl ⟨SqL.of hL1, fun p hp1 => ?_⟩⟩
    refine ⟨zz 2, fun p2 hp2 => ⟨_, rfl, zz 2, fun p3 hp3 => ?_⟩⟩
    have S23 := (same_upd hp2 (o := .tup [.str "t", .ref p])).trans (same_upd hp3 (o := .tup [.ref p2, .int at']))
    have SA := (same_upd hp1 (o := .tup ps)).trans S23
    exact q _ p3 _ (.t ds) at' (S1.trans SA) upd_same (.t (.of (same_upd hp3 _ _ upd_same)) (.of (S23 _ _ upd_same)) (RP.same SA)) (.t (by omega) (by omega) gd)
theorem shape_all {f f2 f3 : Addr} {fd d2 d3 : FuncData} (F : Fun K "_law_shape" "_law_shape" sLawShape f fd) (bd : Binds K fd ["tape", "at", "level", "free"] []) (at_ : mg "_law_shape" = some (.ref f)) (Op : Own P w K mg base CX0 1 "_law_pick" f2 d2 ["tape", "at", "many"] (spPick K))
    (Ol : Own P w K mg base CX0 2 "_law_leaf" f3 d3 ["tape", "at", "free"] (spLeaf K)) (m_range : mg "range" = none) (m_tuple : mg "tuple" = none) : ∀ b : Nat, FnOk P w K mg base CX0 (b + 2) f fd ["tape", "at", "level", "free"] (spShape K b)
  | 0 => shape_none
  | b + 1 => ok_shape F (by omega) Op Ol ⟨shape_all F bd at_ Op Ol m_range m_tuple b, bd, F.kp, at_⟩ m_range m_tuple
end
end Vs

set_option Elab.async false
set_option linter.all false
set_option maxRecDepth 100000
namespace Vs
open PySem PySem.Spec PyProof.Rows L2 RT StX Vr
open C8 (pss_cut tCut)
section
variable {P : Program} {w : World} {K : PySem.W.Frag} {mg : Str → Option Value} {base : Heap}
theorem ok_lparts {f : Addr} {fd : FuncData} {k : Nat} (F : Fun K "_law_parts" "_law_parts" sLawParts f fd) : FnOk P w K mg base CX0 (k + 1) f fd ["shape"] (spParts K) := by
  refine F.ok scLawParts (fun vs H Q E h => ?_) (fun cdv A outer s H vs Q E hr h => ?_)
  · obtain ⟨x, d, rfl, _⟩ := h
    rfl
  obtain ⟨x, d, rfl, R, q⟩ := h
  refine ⟨_, pss_cons (ps_if (pt_cmpR op_eq (pe_ix ix_tup (pv 0) pe_int (fun _ _ => rfl)) pe_str (nomark _)) (pss_one (ps_ret (pe_tup pa_nil))) pss_nil)
      (pss_cons (ps_if (pt_cmpR op_eq (pe_ix ix_tup (pv 0) pe_int (fun _ _ => rfl)) pe_str (nomark _)) (pss_one (ps_ret (pe_ix ix_tup (pv 0) pe_int (fun _ _ => rfl)))) pss_nil)
      (pss_cons (ps_if (pt_cmpR op_eq (pe_ix ix_tup (pv 0) pe_int (fun _ _ => rfl)) pe_str (nomark _)) (pss_one (ps_ret (pe_ix ix_tup (pv 0) pe_int (fun _ _ => rfl)))) pss_nil)
      (pss_one (ps_ret (pe_tup (pa_cons (pe_ix ix_tup (pv 0) pe_int (fun _ _ => rfl)) (pa_cons (pe_ix ix_tup (pv 0) pe_int (fun _ _ => rfl)) pa_nil))))))), ?_⟩
  cases R with
  | @v p n h1 =>
    refine ⟨_, rfl, p, _, _, _, rfl, rfl, h1.sq, atI_nat (j := 0) rfl, rfl, _, rfl, iteY ?_⟩
    exact ⟨zz 0, fun c hc => q _ c [] (same_upd hc) (.of upd_same) .nil⟩
  | @c p qa s vs as h1 h2 h3 =>
    refine ⟨_, rfl, p, _, _, _, rfl, rfl, h1.sq, atI_nat (j := 0) rfl, rfl, _, rfl, iteN (by decide +kernel) ?_⟩
    refine ⟨_, rfl, p, _, _, _, rfl, rfl, h1.sq, atI_nat (j := 0) rfl, rfl, _, rfl, iteY ?_⟩
    exact ⟨_, rfl, p, _, _, _, rfl, rfl, h1.sq, atI_nat (j := 2) rfl, q _ qa vs (Same.refl _) h2 h3⟩
  | @t p qa vs as h1 h2 h3 =>
    refine ⟨_, rfl, p, _, _, _, rfl, rfl, h1.sq, atI_nat (j := 0) rfl, rfl, _, rfl, iteN (by decide +kernel) ?_⟩
    refine ⟨_, rfl, p, _, _, _, rfl, rfl, h1.sq, atI_nat (j := 0) rfl, rfl, _, rfl, iteN (by decide +kernel) ?_⟩
    refine ⟨_, rfl, p, _, _, _, rfl, rfl, h1.sq, atI_nat (j := 0) rfl, rfl, _, rfl, iteY ?_⟩
    exact ⟨_, rfl, p, _, _, _, rfl, rfl, h1.sq, atI_nat (j := 1) rfl, q _ qa vs (Same.refl _) h2 h3⟩
  | @f p x y a b h1 h2 h3 =>
    refine ⟨_, rfl, p, _, _, _, rfl, rfl, h1.sq, atI_nat (j := 0) rfl, rfl, _, rfl, iteN (by decide +kernel) ?_⟩
    refine ⟨_, rfl, p, _, _, _, rfl, rfl, h1.sq, atI_nat (j := 0) rfl, rfl, _, rfl, iteN (by decide +kernel) ?_⟩
    refine ⟨_, rfl, p, _, _, _, rfl, rfl, h1.sq, atI_nat (j := 0) rfl, rfl, _, rfl, iteN (by decide +kernel) ?_⟩
    refine ⟨_, rfl, p, _, _, _, rfl, rfl, h1.sq, atI_nat (j := 1) rfl, _, rfl, p, _, _, _, rfl, rfl, h1.sq, atI_nat (j := 2) rfl, zz 2, fun c hc => ?_⟩
    have S1 := same_upd hc (o := .tup [x, y])
    exact q _ c [x, y] S1 (.of upd_same) (.cons (h2.same S1) (.cons (h3.same S1) .nil))
theorem ok_lreb {f : Addr} {fd : FuncData} {k : Nat} (F : Fun K "_law_rebuilt" "_law_rebuilt" sLawRebuilt f fd) (m_tuple : mg "tuple" = none) : FnOk P w K mg base CX0 (k + 1) f fd ["shape", "parts"] (spWith K) := by
  refine F.ok scLawRebuilt (fun vs H Q E h => ?_) (fun cdv A outer s H vs Q E hr h => ?_)
  · obtain ⟨x, d, L, ws, ds, rfl, _⟩ := h
    rfl
  obtain ⟨x, d, L, ws, ds, rfl, R, nv, hL, RL, hl, q⟩ := h
  refine ⟨_, pss_cons (ps_if (pt_cmpR op_eq (pe_ix ix_tup (pv 0) pe_int (fun _ _ => rfl)) pe_str (nomark _)) (pss_one (ps_ret (pe_tup (pa_cons pe_str (pa_cons (pe_ix ix_tup (pv 0) pe_int (fun _ _ => rfl)) (pa_cons (pe_callTy call_tuple_of (by rfl) m_tuple (by decide +kernel) (pa_cons (pv 1) pa_nil)) pa_nil)))))) pss_nil)
      (pss_cons (ps_if (pt_cmpR op_eq (pe_ix ix_tup (pv 0) pe_int (fun _ _ => rfl)) pe_str (nomark _)) (pss_one (ps_ret (pe_tup (pa_cons pe_str (pa_cons (pe_callTy call_tuple_of (by rfl) m_tuple (by decide +kernel) (pa_cons (pv 1) pa_nil)) pa_nil))))) pss_nil)
      (pss_one (ps_ret (pe_tup (pa_cons pe_str (pa_cons (pe_ix ix_list (pv 1) pe_int (fun _ _ => rfl)) (pa_cons (pe_ix ix_list (pv 1) pe_int (fun _ _ => rfl)) pa_nil))))))), ?_⟩
  cases R with
  | @v p n h1 => cases nv
  | @c p qa s vs as h1 h2 h3 =>
    refine ⟨_, rfl, p, _, _, _, rfl, rfl, h1.sq, atI_nat (j := 0) rfl, rfl, _, rfl, iteY ?_⟩
    refine ⟨_, rfl, p, _, _, _, rfl, rfl, h1.sq, atI_nat (j := 1) rfl, _, rfl, L, ws, rfl, .inl ⟨SqL.of hL, fun l hl1 => ⟨zz 3, fun r hr1 => ?_⟩⟩⟩
    have S3 := (same_upd hl1 (o := .tup ws)).trans (same_upd hr1 (o := .tup [.str "c", .int s, .ref l]))
    exact q _ (.ref r) S3 (.c (.of upd_same) (.of (same_upd hr1 _ _ upd_same)) (RL.same S3))
  | @t p qa vs as h1 h2 h3 =>
    refine ⟨_, rfl, p, _, _, _, rfl, rfl, h1.sq, atI_nat (j := 0) rfl, rfl, _, rfl, iteN (by decide +kernel) ?_⟩
    refine ⟨_, rfl, p, _, _, _, rfl, rfl, h1.sq, atI_nat (j := 0) rfl, rfl, _, rfl, iteY ?_⟩
    refine ⟨_, rfl, L, ws, rfl, .inl ⟨SqL.of hL, fun l hl1 => ⟨zz 2, fun r hr1 => ?_⟩⟩⟩
    have S3 := (same_upd hl1 (o := .tup ws)).trans (same_upd hr1 (o := .tup [.str "t", .ref l]))
    exact q _ (.ref r) S3 (.t (.of upd_same) (.of (same_upd hr1 _ _ upd_same)) (RL.same S3))
  | @f p x y a b h1 h2 h3 =>
    refine ⟨_, rfl, p, _, _, _, rfl, rfl, h1.sq, atI_nat (j := 0) rfl, rfl, _, rfl, iteN (by decide +kernel) ?_⟩
    refine ⟨_, rfl, p, _, _, _, rfl, rfl, h1.sq, atI_nat (j := 0) rfl, rfl, _, rfl, iteN (by decide +kernel) ?_⟩
    obtain ⟨d1, d2, rfl⟩ : ∃ d1 d2, ds = [d1, d2] := by
      match ds, hl with
      | [d1, d2], _ => exact ⟨d1, d2, rfl⟩
    obtain ⟨x1, e1, r1⟩ := RL.at (i := 0) rfl
    obtain ⟨x2, e2, r2⟩ := RL.at (i := 1) rfl
    refine ⟨_, rfl, L, _, _, _, rfl, rfl, SqL.of hL, atI_nat (j := 0) e1, _, rfl, L, _, _, _, rfl, rfl, SqL.of hL, atI_nat (j := 1) e2, zz 3, fun r hr1 => ?_⟩
    have S3 := same_upd hr1 (o := .tup [.str "f", x1, x2])
    exact q _ (.ref r) S3 (.f (.of upd_same) (r1.same S3) (r2.same S3))
theorem apply_none {f : Addr} {fd : FuncData} : FnOk P w K mg base CX0 1 f fd ["shape", "pairs"] (spApply K 0) := by
  have no : ∀ vs H Q E, ¬ spApply K 0 vs H Q E := fun vs H Q E h => by
    obtain ⟨x, d, m, ws, ms, _, _, _, _, _, h, _⟩ := h
    have := depth_pos d
    omega
  exact ⟨fun vs H Q E h => absurd h (no vs H Q E), fun A outer s H args us vs Q E _ _ _ _ h => absurd h (no vs H Q E)⟩
theorem ok_apply {f f2 f3 : Addr} {fd d2 d3 : FuncData} {n b : Nat} (F : Fun K "_law_apply" "_law_apply" sLawApply f fd) (hn : 1 ≤ n) (Oq : Own P w K mg base CX0 1 "_law_parts" f2 d2 ["shape"] (spParts K)) (Ow : Own P w K mg base CX0 1 "_law_rebuilt" f3 d3 ["shape", "parts"] (spWith K))
    (Oa : Own P w K mg base CX0 n "_law_apply" f fd ["shape", "pairs"] (spApply K b)) : FnOk P w K mg base CX0 (n + 1) f fd ["shape", "pairs"] (spApply K (b + 1)) := by
  refine F.ok scLawApply (fun vs H Q E h => ?_) (fun cdv A outer s H vs Q E hr h => ?_)
  · obtain ⟨x, d, m, ws, ms, rfl, _⟩ := h
    rfl
  obtain ⟨x, d, Pr, ws, ms, rfl, R, hP, PL, sz, dp, q⟩ := h
  have hr1 := hr.mono hn
  refine ⟨_, pss_cons (ps_if (pt_cmpR op_eq (pe_ix ix_tup (pv 0) pe_int (fun _ _ => rfl)) pe_str (nomark _)) (pss_cons (ps_for PassesOwn.never rfl (pi_list (pv 1)) (pg_tup rfl (pgs_cons (pg_name (i := 2) scLawApply.nd rfl (.inl rfl)) (pgs_cons (pg_name (i := 3) scLawApply.nd rfl (.inl rfl)) pgs_nil))) (pss_one (ps_if (pt_cmpR op_eq (pv 2) (pe_ix ix_tup (pv 0) pe_int (fun _ _ => rfl)) (nomark _)) (pss_one (ps_ret (pv 3))) pss_nil)))
      (pss_one (ps_ret (pv 0)))) pss_nil)
      (pss_one (ps_ret (pe_call Ow.ok hr1 rfl Ow.at_ Ow.kp Ow.bd .nil pass0 (pa_cons (pv 0) (pa_cons (pe_lc (own := [("part", 4)]) (g := gName 4) (tt := tYes) rfl scLawApply.nd (pi_tup (pe_call Oq.ok hr1 rfl Oq.at_ Oq.kp Oq.bd .nil pass0 (pa_cons (pv 0) pa_nil))) (blkOk_by (own := [("part", 4)]) (N := ["shape", "pairs", "number", "due", "part"]) (sc := defScope sLawApply) (by decide +kernel)) (fun _ _ _ _ _ => (pg_name (i := 4) scLawApply.nd rfl (.inl rfl))) (fun _ _ _ _ _ => pts_nil) (fun _ _ _ _ _ => (pe_call Oa.ok hr rfl Oa.at_ Oa.kp Oa.bd .nil pass0 (pa_cons (pv 4) (pa_cons (pv 1) pa_nil))))) pa_nil))))), ?_⟩
  obtain ⟨pa, ka, ra, rfl, hta, hva, _⟩ := R.tag
  refine ⟨_, rfl, pa, _, _, _, rfl, rfl, hta.sq, atI_nat (j := 0) rfl, rfl, _, rfl, ite2 (fun c1 => ?_) (fun c1 => ?_)⟩
  · have k1 : ka = "v" := V.str.inj (of_decide_eq_true c1)
    cases R with
    | c h1 h2 h3 => exact absurd (hva.mpr k1) (by intro z; cases z)
    | t h1 h2 h3 => exact absurd (hva.mpr k1) (by intro z; cases z)
    | f h1 h2 h3 => exact absurd (hva.mpr k1) (by intro z; cases z)
    | @v _ nn h1 =>
      refine ⟨_, rfl, Pr, rfl, ⟨_, hP⟩, ?_⟩
      refine for_list (K := K) (a := Pr) (xs := ws) (fun i σ H' => H' = H ∧ (∃ y2 y3 y4, σ = [some (.ref pa), some (.ref Pr), y2, y3, y4]) ∧ lk ms nn = lk (ms.drop i) nn)
        ⟨rfl, ⟨_, _, _, rfl⟩, rfl⟩ (fun i σ H' _ h => by rw [h.1]; exact hP) (fun i x σ H' hx h => ?_) (fun σ H' h => ?_)
      · obtain ⟨rfl, ⟨y2, y3, y4, rfl⟩, e⟩ := h
        obtain ⟨p, num, y, dd, rfl, hm, ht, Ry⟩ := PL.get hx
        refine ⟨p, _, rfl, SqT.of ht, rfl, _, _, rfl, _, _, rfl, rfl, ?_⟩
        have st := lk_step hm e
        refine ⟨_, rfl, _, rfl, pa, _, _, _, rfl, rfl, h1.sq, atI_nat (j := 1) rfl, rfl, _, rfl, ite2 (fun c2 => ?_) (fun c2 => ?_)⟩
        · have n1 : num = nn := V.int.inj (of_decide_eq_true c2)
          rw [if_pos n1] at st
          refine ⟨_, rfl, q _ _ (Same.refl _) ?_⟩
          rw [sub_size_v st]
          exact Ry
        · have n1 : ¬ num = nn := fun z => c2 (decide_eq_true (congrArg V.int z))
          rw [if_neg n1] at st
          exact ⟨rfl, ⟨_, _, _, rfl⟩, st⟩
      · obtain ⟨rfl, ⟨y2, y3, y4, rfl⟩, e⟩ := h
        rw [PL.len, List.drop_length] at e
        refine ⟨_, rfl, q _ _ (Same.refl _) ?_⟩
        rw [sub_v_none e]
        exact .v h1
  · have nv : d.isV = false := by
      cases hv : d.isV with
      | false => rfl
      | true => exact absurd (decide_eq_true (congrArg V.str (hva.mp hv))) c1
    refine ⟨_, rfl, _, rfl, _, d, rfl, R, fun H2 qa us S2 h2 RL => ⟨qa, rfl, ⟨_, h2.sq⟩, fun L hL => ?_⟩⟩
    have lv := RL.len
    have kl := kids_len d
    have S0 := same_upd hL (o := .lst [])
    refine lc_tup (K := K) (a := qa) (xs := us) (fun j H' => Same H2 H' ∧ ∃ ps, H' L = some (.lst ps) ∧ RpL K H' ps (D.subL (lk ms) (d.kids.take j)))
      ⟨S0, [], upd_same, .nil⟩ (fun i H' _ h => (h2.mono (ST.same h.1)).sq) (fun i z H' hz h => ?_) (fun H' h => ?_)
    · obtain ⟨S3, ps, hL3, RP⟩ := h
      obtain ⟨dz, hdz, Rz⟩ := RL.get hz
      have hmem := List.mem_of_getElem? hdz
      have hi : i < d.kids.length := (List.getElem?_eq_some_iff.mp hdz).1
      have k1 := kid_size hmem
      have k2 := kid_depth hmem
      have S23 := S2.trans S3
      refine ⟨rfl, ?_⟩
      refine ⟨_, rfl, _, rfl, z, dz, Pr, ws, ms, rfl, Rz.mono (ST.same S3), S23.seq hP, PL.mono (ST.same S23), by omega, by omega, fun H4 v4 S4 R4 => ?_⟩
      have hL4 := S4 _ _ hL3
      have l1 := RP.len
      rw [subL_len, List.length_take] at l1
      refine ⟨ps, hL4, zbig (n := ps.length) (by omega), same_skip (S3.trans S4) hL, ps ++ [v4], upd_same, ?_⟩
      have X5 : ST H4 (upd H4 L (.lst (ps ++ [v4]))) := ST.lst hL4 _
      rw [subL_take _ hdz]
      exact ((RP.same S4).mono X5).app (.cons (R4.mono X5) .nil)
    · obtain ⟨S3, ps, hL3, RP⟩ := h
      rw [lv, List.take_length] at RP
      refine ⟨_, d, L, ps, _, rfl, R.same (S2.trans S3), nv, hL3, RP, subL_len _ _, fun H5 v5 S5 R5 => ?_⟩
      rw [with_sub _ _ nv] at R5
      exact q _ _ (S2.trans (S3.trans S5)) R5
theorem apply_all {f f2 f3 : Addr} {fd d2 d3 : FuncData} (F : Fun K "_law_apply" "_law_apply" sLawApply f fd) (bd : Binds K fd ["shape", "pairs"] []) (at_ : mg "_law_apply" = some (.ref f)) (Oq : Own P w K mg base CX0 1 "_law_parts" f2 d2 ["shape"] (spParts K)) (Ow : Own P w K mg base CX0 1 "_law_rebuilt" f3 d3 ["shape", "parts"] (spWith K)) :
    ∀ b : Nat, FnOk P w K mg base CX0 (b + 1) f fd ["shape", "pairs"] (spApply K b)
  | 0 => apply_none
  | b + 1 => ok_apply F (by omega) Oq Ow ⟨apply_all F bd at_ Oq Ow b, bd, F.kp, at_⟩
end
end Vs

set_option Elab.async false
set_option linter.all false
set_option maxRecDepth 100000
namespace Vs
open PySem PySem.Spec PyProof.Rows L2 RT StX Vr
open C8 (pss_cut tCut)
/-- the entry of a constructor or of an exception, its number of parameters, the shape of its scheme -/
def Ent (K : PySem.W.Frag) (H : Hp) (e : V) (n : Int) (d : D) : Prop :=
  (∃ p nm arg rv dr rest, e = .ref p ∧ H p = some (.tup (.str "con" :: .str nm :: .int n :: arg :: rv :: rest)) ∧ Rp K H rv dr ∧ ((arg = .non ∧ d = dr) ∨ ∃ q da, arg = .ref q ∧ Rp K H arg da ∧ d = .f da dr)) ∨
  (∃ p nm arg, e = .ref p ∧ H p = some (.tup [.str "exn", .str nm, arg]) ∧ n = 0 ∧ ((arg = .non ∧ d = .c 2 []) ∨ ∃ q da, arg = .ref q ∧ Rp K H arg da ∧ d = .f da (.c 2 [])))
def gens (n : Int) (d : D) : List Int := d.vars.filter fun z => decide (z < n)
def sch (n : Int) (d : D) : D := d.sub (lk (numb 0 (gens n d)))
def spCs (K : PySem.W.Frag) (C : Addr) : Sp := fun vs H Q E => ∃ (e : V) (n : Int) (d : D), vs = [e] ∧ Ent K H e n d ∧ d.size ≤ 90000 ∧ (gens n d).length ≤ 1000 ∧
  (big (sch n d) → ∀ H', Same H H' → E (.ref C) none H') ∧ (¬ big (sch n d) → ∀ H' p v', Same H H' → H' p = some (.tup [.int ((gens n d).length : Int), v']) → Rp K H' v' (sch n d) → Q (.ref p) H')
theorem filt_step {ns : List Int} {i : Nat} {m : Int} {p : Int → Bool} (h : ns[i]? = some m) : (ns.take (i + 1)).filter p = (ns.take i).filter p ++ (if p m = true then [m] else []) := by
  rw [List.take_add_one, h, List.filter_append]
  congr 1
  show List.filter p [m] = _
  rw [List.filter_cons, List.filter_nil]
section
variable {P : Program} {w : World} {K : PySem.W.Frag} {mg : Str → Option Value} {base : Heap}
theorem ok_cs {f f2 f3 C ax : Addr} {fd d2 d3 : FuncData} (F : Fun K "constructor_scheme" "constructor_scheme" sConstructorScheme f fd) (Og : Own P w K mg base (L2.CX P w) 103 "generalized" f2 d2 ["shape", "numbers"] (spGen K C)) (Ov : Own P w K mg base CX0 2 "variables" f3 d3 ["shape"] (spVars K))
    (eEX : mg "EXN" = some (.ref ax)) (hEX : ∀ H, Rp K H (.ref ax) (.c 2 [])) : FnOk P w K mg base (L2.CX P w) 104 f fd ["entry"] (spCs K C) := by
  refine F.okX scConstructorScheme (fun vs H Q E h => ?_) (fun cdv A outer s H vs Q E hr h => ?_)
  · obtain ⟨e, n, d, rfl, _⟩ := h
    rfl
  obtain ⟨e, n, d, rfl, T, sz, ln, qE, qQ⟩ := h
  have hr2 := hr.mono (show 2 ≤ 103 by decide)
  refine ⟨_, pss_cut (ps_if (pt_cmpR op_eq (pe_ix ix_tup (pv 0) pe_int (fun _ _ => rfl)) pe_str (nomark _)) (pss_one (ps_asg (pe_tup (pa_cons pe_int (pa_cons (pe_ix ix_tup (pv 0) pe_int (fun _ _ => rfl)) (pa_cons (pe_glob (v := .ref ax) rfl eEX rfl) pa_nil)))) (pg_tup rfl (pgs_cons (pg_name (i := 1) scConstructorScheme.nd rfl (.inr rfl)) (pgs_cons (pg_name (i := 2) scConstructorScheme.nd rfl (.inl rfl)) (pgs_cons (pg_name (i := 3) scConstructorScheme.nd rfl (.inl rfl)) pgs_nil)))))) (pss_one (ps_asg (pe_tup (pa_cons (pe_ix ix_tup (pv 0) pe_int (fun _ _ => rfl)) (pa_cons (pe_ix ix_tup (pv 0) pe_int (fun _ _ => rfl)) (pa_cons (pe_ix ix_tup (pv 0) pe_int (fun _ _ => rfl)) pa_nil)))) (pg_tup rfl (pgs_cons (pg_name (i := 1) scConstructorScheme.nd rfl (.inr rfl)) (pgs_cons (pg_name (i := 2) scConstructorScheme.nd rfl (.inl rfl)) (pgs_cons (pg_name (i := 3) scConstructorScheme.nd rfl (.inl rfl)) pgs_nil)))))))
      (pss_cut (ps_set (i := 4) scConstructorScheme.nd rfl (.inl rfl) (pe_ifExp (pt_cmpR op_isN (pv 2) pe_non (nomark _)) (pv 3) (pe_tup (pa_cons pe_str (pa_cons (pv 2) (pa_cons (pv 3) pa_nil))))))
      (pss_one (ps_ret (pe_call Og.ok hr rfl Og.at_ Og.kp Og.bd .nil (passes_call (E := E) (takes_of rfl rfl rfl rfl) (fun _ _ _ _ h => h)) (pa_cons (pv 4) (pa_cons (pe_lc (own := [("number", 5)]) (g := gName 5) (tt := _) rfl scConstructorScheme.nd (pi_tup (pe_call Ov.ok hr2 rfl Ov.at_ Ov.kp Ov.bd .nil pass0 (pa_cons (pv 4) pa_nil))) (blkOk_by (own := [("number", 5)]) (N := ["entry", "count", "argument", "result", "shape", "number"]) (sc := defScope sConstructorScheme) (by decide +kernel)) (fun _ _ _ _ _ => (pg_name (i := 5) scConstructorScheme.nd rfl (.inl rfl))) (fun _ _ _ _ _ => (pts_one (pt_cmpR op_lt (pv 5) (pv 1) (nomark _)))) (fun _ _ _ _ _ => (pv 5))) pa_nil)))))), ?_⟩
  refine ⟨fun σ' H' => ∃ (arg rv : V) (dr : D) (y4 y5 : Option V), σ' = [some e, some (.int n), some arg, some rv, y4, y5] ∧ Same H H' ∧ Rp K H' rv dr ∧ ((arg = .non ∧ d = dr) ∨ ∃ q da, arg = .ref q ∧ Rp K H' arg da ∧ d = .f da dr), ?_, ?_⟩
  · rcases T with ⟨p, nm, arg, rv, dr, rest, rfl, hp, R, A⟩ | ⟨p, nm, arg, rfl, hp, rfl, A⟩
    · refine ⟨_, rfl, p, _, _, _, rfl, rfl, .inl (.inl hp), atI_nat (j := 0) rfl, rfl, _, rfl, ite2 (fun c => absurd (V.str.inj (of_decide_eq_true c)) (by decide +kernel)) (fun _ => ?_)⟩
      refine ⟨_, rfl, p, _, _, _, rfl, rfl, .inl (.inl hp), atI_nat (j := 2) rfl, ?_⟩
      refine ⟨_, rfl, p, _, _, _, rfl, rfl, .inl (.inl hp), atI_nat (j := 3) rfl, _, rfl, p, _, _, _, rfl, rfl, .inl (.inl hp), atI_nat (j := 4) rfl, zz 3, fun p1 hp1 => ?_⟩
      have S := same_upd hp1 (o := .tup [.int n, arg, rv])
      refine ⟨p1, _, rfl, SqT.of upd_same, rfl, _, _, rfl, _, _, rfl, _, _, rfl, rfl, arg, rv, dr, _, _, rfl, S, R.same S, ?_⟩
      rcases A with A | ⟨q, da, A1, A2, A3⟩
      · exact .inl A
      · exact .inr ⟨q, da, A1, A2.same S, A3⟩
    · refine ⟨_, rfl, p, _, _, _, rfl, rfl, .inl (.inl hp), atI_nat (j := 0) rfl, rfl, _, rfl, ite2 (fun _ => ?_) (fun c => absurd (decide_eq_true rfl) c)⟩
      refine ⟨_, rfl, p, _, _, _, rfl, rfl, .inl (.inl hp), atI_nat (j := 2) rfl, zz 3, fun p1 hp1 => ?_⟩
      have S := same_upd hp1 (o := .tup [.int 0, arg, .ref ax])
      refine ⟨p1, _, rfl, SqT.of upd_same, rfl, _, _, rfl, _, _, rfl, _, _, rfl, rfl, arg, .ref ax, .c 2 [], _, _, rfl, S, hEX _, ?_⟩
      rcases A with A | ⟨q, da, A1, A2, A3⟩
      · exact .inl A
      · exact .inr ⟨q, da, A1, A2.same S, A3⟩
  rintro σ' H' ⟨arg, rv, dr, y4, y5, rfl, S1, R, A⟩
  refine ⟨fun σ' H2 => ∃ (x : V) (y5 : Option V), σ' = [some e, some (.int n), some arg, some rv, some x, y5] ∧ Same H H2 ∧ Rp K H2 x d, ?_, ?_⟩
  · rcases A with ⟨rfl, rfl⟩ | ⟨q, da, rfl, A2, rfl⟩
    · refine ⟨_, rfl, rfl, _, rfl, ite2 (fun _ => ?_) (fun c => absurd (decide_eq_true rfl) c)⟩
      exact ⟨_, rfl, _, _, rfl, S1, R⟩
    · refine ⟨_, rfl, rfl, _, rfl, ite2 (fun c => absurd (of_decide_eq_true c) (fun z => by cases z)) (fun _ => ?_)⟩
      refine ⟨_, rfl, _, rfl, zz 3, fun p1 hp1 => ?_⟩
      have S := same_upd hp1 (o := .tup [.str "f", .ref q, rv])
      exact ⟨_, _, rfl, S1.trans S, .f (.of upd_same) (A2.same S) (R.same S)⟩
  rintro σ2 H2 ⟨x, y5, rfl, S2, Rx⟩
  refine ⟨_, rfl, _, rfl, x, d, rfl, Rx, sz, fun H3 pv S3 hv => ?_⟩
  refine ⟨pv, rfl, ⟨_, SqT.of hv⟩, fun L hL => ?_⟩
  have SL := same_upd hL (o := .lst [])
  have vl := vars_len d
  refine lc_tup (K := K) (a := pv) (xs := d.vars.map V.int) (fun i H' => Same H3 H' ∧ H' L = some (.lst (((d.vars.take i).filter fun z => decide (z < n)).map V.int)))
    ⟨SL, upd_same⟩ (fun i H' _ h => SqT.of (h.1 _ _ hv)) (fun i z H' hz h => ?_) (fun H' h => ?_)
  · obtain ⟨m, hm, rfl⟩ := int_get hz
    obtain ⟨S4, hL4⟩ := h
    refine ⟨rfl, _, rfl, _, rfl, _, _, rfl, rfl, _, rfl, ite2 (fun c => ?_) (fun c => ?_)⟩
    · refine ⟨_, rfl, _, hL4, ?_, same_skip S4 hL, ?_⟩
      · have h1 := List.length_filter_le (fun z => decide (z < n)) (d.vars.take i)
        rw [List.length_take] at h1
        refine zbig ?_
        rw [List.length_map]
        omega
      · rw [upd_same, filt_step hm, if_pos c, List.map_append]
        rfl
    · refine ⟨S4, ?_⟩
      rw [filt_step hm, if_neg c, List.append_nil]
      exact hL4
  · obtain ⟨S4, hL4⟩ := h
    rw [List.length_map, List.take_length] at hL4
    have S24 := S3.trans S4
    exact ⟨x, d, L, gens n d, rfl, Rx.same S24, SqL.of hL4, (vars_nodup d).filter _, ln, sz, fun hb H5 S5 => qE hb _ (S2.trans (S24.trans S5)), fun nb H5 p v' S5 hp5 R5 => qQ nb _ _ _ (S2.trans (S24.trans S5)) hp5 R5⟩
end
end Vs

set_option Elab.async false
set_option linter.all false
set_option maxRecDepth 100000
namespace Vs
open PySem PySem.Spec PyProof.Rows L2 RT StX Vr
theorem hu300 {A : Around} {k : Nat} (hr : Room k A) (hk : 7 ≤ k) : A.units + 300 < cLine := by
  have := hr.un
  omega
/-! ### the law's own shapes -/
def ch0 : Nat → D
  | 0 => .v 0
  | k + 1 => .f (.c 0 []) (ch0 k)
theorem ch0_depth : ∀ k, (ch0 k).depth = k + 1
  | 0 => by simp only [ch0, D.depth]
  | k + 1 => by
    have := ch0_depth k
    simp only [ch0, D.depth, D.depthL]
    omega
theorem ch0_size : ∀ k, (ch0 k).size = 2 * k + 1
  | 0 => by simp only [ch0, D.size]
  | k + 1 => by
    have := ch0_size k
    simp only [ch0, D.size, D.sizeL]
    omega
theorem ch0_occ : ∀ k, (ch0 k).occ = [0]
  | 0 => by simp only [ch0, D.occ]
  | k + 1 => by
    simp only [ch0, D.occ, D.occL]
    rw [ch0_occ k]
    rfl
def deepD (k : Nat) : D := .f (ch0 k) (.c 8 [.v 0])
theorem deep_vars (k : Nat) : (deepD k).vars = [0] := by
  unfold D.vars deepD
  rw [D.occ, ch0_occ, D.occ, D.occL, D.occL, D.occ]
  rfl
theorem deep_gens (k : Nat) : gens 1 (deepD k) = [0] := by
  unfold gens
  rw [deep_vars]
  rfl
theorem sub_vars {m : Int → Option D} {d : D} (h : ∀ n ∈ d.vars, m n = none ∨ m n = some (.v n)) : d.sub m = d := sub_idn m d fun n hn => h n (vars_mem.mpr hn)
theorem deep_sch (k : Nat) : sch 1 (deepD k) = deepD k := by
  unfold sch
  rw [deep_gens]
  refine sub_vars fun n hn => ?_
  rw [deep_vars, List.mem_singleton] at hn
  rw [hn]
  exact .inr rfl
theorem deep_size (k : Nat) : (deepD k).size = 2 * k + 4 := by
  have := ch0_size k
  simp only [deepD, D.size, D.sizeL]
  omega
theorem deep_depth (k : Nat) (h : 1 ≤ k) : (deepD k).depth = k + 2 := by
  have := ch0_depth k
  simp only [deepD, D.depth, D.depthL]
  omega
def resD (s : Int) (m : Nat) : D := .c s ((iota m).map D.v)
theorem res_occ (s : Int) (m : Nat) : (resD s m).occ = iota m := by
  unfold resD
  rw [D.occ, occL_vs]
theorem res_vars (s : Int) (m : Nat) : (resD s m).vars = iota m := by
  unfold D.vars
  rw [res_occ]
  exact addAll_disj _ [] (iota_nodup m)
theorem res_gens (s : Int) (m : Nat) : gens (m : Int) (resD s m) = iota m := by
  unfold gens
  rw [res_vars, List.filter_eq_self]
  intro n hn
  exact decide_eq_true (iota_mem.mp hn).2
theorem res_sch (s : Int) (m : Nat) : sch (m : Int) (resD s m) = resD s m := by
  unfold sch
  rw [res_gens]
  exact sub_vars fun n _ => lk_iota n
theorem sizeL_vs : ∀ ns : List Int, D.sizeL (ns.map D.v) = ns.length
  | [] => by rw [List.map_nil, D.sizeL]; rfl
  | n :: r => by
    rw [List.map_cons, D.sizeL, sizeL_vs r, D.size, List.length_cons]
    omega
theorem depthL_vs : ∀ ns : List Int, D.depthL (ns.map D.v) ≤ 1
  | [] => by rw [List.map_nil, D.depthL]; omega
  | n :: r => by
    have := depthL_vs r
    rw [List.map_cons, D.depthL, D.depth]
    omega
theorem res_size (s : Int) (m : Nat) : (resD s m).size = 1 + m := by
  unfold resD
  rw [D.size, sizeL_vs, iota_len]
theorem res_depth (s : Int) (m : Nat) : (resD s m).depth ≤ 2 := by
  have := depthL_vs (iota m)
  unfold resD
  rw [D.depth]
  omega
/-- the two ways of choosing the general variables -/
theorem gens_same {s : Int} {m : Nat} {l : Nat} {d : D} (hm : m ≤ 10) (g : GenD (iota m ++ [1000003, 1000001]) l d) : gens (m : Int) (.f d (resD s m)) = gens 1000000 (.f d (resD s m)) := by
  unfold gens
  refine List.filter_congr fun n hn => ?_
  have hn' := vars_mem.mp hn
  rw [D.occ, res_occ, List.append_nil, List.mem_append] at hn'
  have : n ∈ iota m ∨ n = 1000003 ∨ n = 1000001 := by
    rcases hn' with h | h
    · rcases List.mem_append.mp (g.occ n h) with h | h
      · exact .inl h
      · exact .inr (by simpa using h)
    · exact .inl h
  rcases this with h | h | h
  · have := iota_mem.mp h
    rw [decide_eq_true this.2, decide_eq_true (by omega)]
  · rw [decide_eq_false (by omega), decide_eq_false (by omega)]
  · rw [decide_eq_false (by omega), decide_eq_false (by omega)]
theorem gens_zero {d : D} (h : ∀ n ∈ d.occ, 0 ≤ n) : gens 0 d = [] := by
  unfold gens
  rw [List.filter_eq_nil_iff]
  intro n hn
  have := h n (vars_mem.mp hn)
  rw [decide_eq_false (by omega)]
  decide
theorem sch_zero {d : D} (h : ∀ n ∈ d.occ, 0 ≤ n) : sch 0 d = d := by
  unfold sch
  rw [gens_zero h]
  exact sub_none _ (fun _ => rfl) d
theorem sch_small {n : Int} {d : D} (h : d.size ≤ 1000) (h' : d.depth ≤ 90) : (sch n d).size ≤ 1000 ∧ (sch n d).depth ≤ d.depth + 1 ∧ ¬ big (sch n d) := by
  have a := size_sub_le (lk (numb 0 (gens n d))) 1 (by decide) (fun k e h => by rw [(lk_numb_size h).1]; omega) d
  have b := depth_sub_le (lk (numb 0 (gens n d))) 1 (fun k e h => by rw [(lk_numb_size h).2]; omega) d
  unfold sch big
  refine ⟨by omega, b, ?_⟩
  rintro (c | c) <;> omega
theorem gens_len (n : Int) (d : D) : (gens n d).length ≤ d.size := by
  have a := List.length_filter_le (fun z => decide (z < n)) d.vars
  have b := vars_len d
  unfold gens
  omega
/-- a pair of a number and a shape, as data -/
def prD (k : Int) (d : D) : PyData := .tuple [.int k, d.py]
theorem prD_lay (k : Int) (d : D) : (prD k d).canLay0 = true := by
  unfold prD
  show (true && (d.py.canLay0 && true)) = true
  rw [py_lay d]
  rfl
theorem prD_depth (k : Int) (d : D) : (prD k d).depth ≤ 2 * d.depth + 1 := by
  have := py_depth d
  have := depth_pos d
  unfold prD
  simp only [PyData.depth, PyData.depthAll]
  omega
theorem prD_self (k : Int) (d : D) : PyData.eqv (prD k d) (prD k d) = true := SeqAt.eqv_refl _ (prD_lay k d)
theorem prD_dp {K : PySem.W.Frag} {H : Hp} {p : Addr} {k : Int} {v : V} {d : D} (h : H p = some (.tup [.int k, v])) (R : Rp K H v d) : Dp K H (.ref p) (prD k d) := .tup (.inl (.inl h)) (.cons (.int _) (.cons R.dp .nil))
theorem prD_shaped {k : Int} {d : D} (h : d.depth ≤ 31) : SeqAt.shaped (prD k d) = true := by
  have := prD_depth k d
  unfold SeqAt.shaped
  rw [prD_lay, decide_eq_true (by omega)]
  rfl
end Vs

set_option Elab.async false
set_option linter.all false
set_option maxRecDepth 100000
namespace Vs
open PySem PySem.Spec PyProof.Rows L2 RT StX Vr
open C8 (pss_cut tCut)
section
variable {P : Program} {w : World} {K : PySem.W.Frag} {mg : Str → Option Value} {base : Heap}
def spLs (K : PySem.W.Frag) : Sp := fun vs H Q _ => ∃ (e : V) (n : Int) (d : D), vs = [e] ∧ Ent K H e n d ∧ d.size ≤ 90000 ∧ (gens n d).length ≤ 1000 ∧
  (big (sch n d) → ∀ H', Same H H' → Q .non H') ∧ (¬ big (sch n d) → ∀ H' p v', Same H H' → H' p = some (.tup [.int ((gens n d).length : Int), v']) → Rp K H' v' (sch n d) → Q (.ref p) H')
theorem ok_ls {f f2 C : Addr} {fd d2 : FuncData} (F : Fun K "_law_scheme" "_law_scheme" sLawScheme f fd) (T : ExcT K mg "TooLarge" C) (Os : Own P w K mg base (L2.CX P w) 104 "constructor_scheme" f2 d2 ["entry"] (spCs K C)) :
    FnOk P w K mg base CX0 105 f fd ["entry"] (spLs K) := by
  refine F.ok scLawScheme (fun vs H Q E h => ?_) (fun cdv A outer s H vs Q E hr h => ?_)
  · obtain ⟨e, n, d, rfl, _⟩ := h
    rfl
  obtain ⟨e, n, d, rfl, N, sz, ln, qE, qQ⟩ := h
  refine ⟨_, pss_one (ps_try_only (tb := fun W => tRet (tCallS (spCs K C) (WE W) (tCons (tVar 0) tNil))) (ts := fun _ _ _ => tRet (tC .non)) (Wout := fun _ _ _ _ => False) rfl rfl ⟨rfl, by decide, .inl T.gP⟩ takes0 (fun W pn xe tk _ => pss_one (ps_ret (pe_callS Os.ok hr rfl Os.at_ Os.kp Os.bd (fun σ => passAt tk σ) (pa_cons (pv 0) pa_nil)))) (fun a oe cls d pn _ _ => pss_one (ps_ret pe_non))), ?_⟩
  refine ⟨_, rfl, e, n, d, rfl, N, sz, ln, fun hb H1 S1 => ?_, fun nb H1 p v1 S1 hp R1 => qQ nb _ _ _ S1 hp R1⟩
  exact ⟨true, exm_mine T, fun _ a _ => qE hb _ S1, fun q => Bool.noConfusion q⟩
/-- all but L stays -/
def Off (L : Addr) (H H' : Hp) : Prop := ∀ c o, c ≠ L → H c = some o → H' c = some o
theorem Off.refl {L : Addr} {H : Hp} : Off L H H := fun _ _ _ h => h
theorem Off.trans {L : Addr} {H H1 H2 : Hp} (a : Off L H H1) (b : Off L H1 H2) : Off L H H2 := fun c o n h => b c o n (a c o n h)
theorem Off.same {L : Addr} {H H' : Hp} (a : Same H H') : Off L H H' := fun c o _ h => a c o h
theorem Off.upd {L : Addr} {H : Hp} {o : HO} : Off L H (upd H L o) := fun c x n h => by
  rw [upd_ne n]
  exact h
theorem Off.st {L : Addr} {H H' : Hp} {xs : List V} (a : Off L H H') (h : H L = some (.lst xs)) : ST H H' := fun b ys e => a b _ (ne_of e h (fun z => by cases z)) e
theorem occL_take {as : List D} {i : Nat} {e : D} (h : as[i]? = some e) : D.occL (as.take (i + 1)) = D.occL (as.take i) ++ e.occ := by
  rw [List.take_add_one, h, occL_app]
  show _ ++ D.occL [e] = _
  rw [D.occL, D.occL, List.append_nil]
theorem sizeL_take {as : List D} {i : Nat} {e : D} (h : as[i]? = some e) : D.sizeL (as.take i) + e.size ≤ D.sizeL as := by
  obtain ⟨hi, hh⟩ := List.getElem?_eq_some_iff.mp h
  have e1 : as = as.take i ++ (e :: as.drop (i + 1)) := by
    rw [← hh, ← List.drop_eq_getElem_cons hi, List.take_append_drop]
  have := congrArg D.sizeL e1
  rw [sizeL_app, D.sizeL] at this
  omega
def spLv (K : PySem.W.Frag) (b : Nat) : Sp := fun vs H Q _ => ∃ (x : V) (d : D) (L : Addr) (ns : List Int), vs = [x, .ref L] ∧ Rp K H x d ∧ H L = some (.lst (ns.map V.int)) ∧ ns.length + d.size ≤ 90000 ∧ d.depth ≤ b ∧
  ∀ H', Off L H H' → H' L = some (.lst ((addAll ns d.occ).map V.int)) → Q (.ref L) H'
theorem lv_none {f : Addr} {fd : FuncData} : FnOk P w K mg base CX0 1 f fd ["shape", "found"] (spLv K 0) := by
  have no : ∀ vs H Q E, ¬ spLv K 0 vs H Q E := fun vs H Q E h => by
    obtain ⟨x, d, L, ns, _, _, _, _, h, _⟩ := h
    have := depth_pos d
    omega
  exact ⟨fun vs H Q E h => absurd h (no vs H Q E), fun A outer s H args us vs Q E _ _ _ _ h => absurd h (no vs H Q E)⟩
theorem ok_lv {f f2 : Addr} {fd d2 : FuncData} {n b : Nat} (F : Fun K "_law_variables" "_law_variables" sLawVariables f fd) (hn : 1 ≤ n) (Oq : Own P w K mg base CX0 1 "_law_parts" f2 d2 ["shape"] (spParts K))
    (Oa : Own P w K mg base CX0 n "_law_variables" f fd ["shape", "found"] (spLv K b)) : FnOk P w K mg base CX0 (n + 1) f fd ["shape", "found"] (spLv K (b + 1)) := by
  refine F.ok scLawVariables (fun vs H Q E h => ?_) (fun cdv A outer s H vs Q E hr h => ?_)
  · obtain ⟨x, d, L, ns, rfl, _⟩ := h
    rfl
  obtain ⟨x, d, L, ns, rfl, R, hL, sz, dp, q⟩ := h
  have hr1 := hr.mono hn
  refine ⟨_, pss_cut (ps_if (pt_cmpR op_eq (pe_ix ix_tup (pv 0) pe_int (fun _ _ => rfl)) pe_str (nomark _)) (pss_one (ps_if (pt_cmpR op_notIn_seq (pe_ix ix_tup (pv 0) pe_int (fun _ _ => rfl)) (pv 1) (by with_unfolding_all rfl)) (pss_one (ps_expr (pe_bm PySem.F.plainAttrs_list PySem.F.slot_list_append PySem.F.type_list_append mt_append (pv 1) (pa_cons (pe_ix ix_tup (pv 0) pe_int (fun _ _ => rfl)) pa_nil)))) pss_nil)) (pss_one (ps_for PassesOwn.never rfl (pi_tup (pe_call Oq.ok hr1 rfl Oq.at_ Oq.kp Oq.bd .nil pass0 (pa_cons (pv 0) pa_nil))) (pg_name (i := 2) scLawVariables.nd rfl (.inl rfl)) (pss_one (ps_expr (pe_call Oa.ok hr rfl Oa.at_ Oa.kp Oa.bd .nil pass0 (pa_cons (pv 2) (pa_cons (pv 1) pa_nil))))))))
      (pss_one (ps_ret (pv 1))), ?_⟩
  refine ⟨fun σ' H' => ∃ y2, σ' = [some x, some (.ref L), y2] ∧ Off L H H' ∧ H' L = some (.lst ((addAll ns d.occ).map V.int)), ?_, ?_⟩
  · obtain ⟨pa, ka, ra, rfl, hta, hva, _⟩ := R.tag
    refine ⟨_, rfl, pa, _, _, _, rfl, rfl, hta.sq, atI_nat (j := 0) rfl, rfl, _, rfl, ite2 (fun c1 => ?_) (fun c1 => ?_)⟩
    · have k1 : ka = "v" := V.str.inj (of_decide_eq_true c1)
      cases R with
      | c h1 h2 h3 => exact absurd (hva.mpr k1) (by intro z; cases z)
      | t h1 h2 h3 => exact absurd (hva.mpr k1) (by intro z; cases z)
      | f h1 h2 h3 => exact absurd (hva.mpr k1) (by intro z; cases z)
      | @v _ nn h1 =>
        refine ⟨_, rfl, pa, _, _, _, rfl, rfl, h1.sq, atI_nat (j := 1) rfl, _, rfl, L, _, rfl, .inl (SqL.of hL), rfl, flat_ints ns, _, rfl, ?_⟩
        rw [inV_int]
        have e : addAll ns (D.v nn).occ = addK ns nn := rfl
        by_cases c : nn ∈ ns
        · rw [decide_eq_true c]
          refine iteF ⟨_, rfl, Off.refl, ?_⟩
          rw [e, addK, if_pos c]
          exact hL
        · rw [decide_eq_false c]
          refine iteT ?_
          refine ⟨_, rfl, .inl ⟨rfl, _, SqL.of hL⟩, _, rfl, pa, _, _, _, rfl, rfl, h1.sq, atI_nat (j := 1) rfl, L, _, _, rfl, rfl, hL, ?_, _, rfl, Off.upd, ?_⟩
          · refine zbig ?_
            have := size_pos (D.v nn)
            rw [List.length_map]
            omega
          · rw [upd_same, e, addK, if_neg c, List.map_append]
            rfl
    · have nv : d.isV = false := by
        cases hv : d.isV with
        | false => rfl
        | true => exact absurd (decide_eq_true (congrArg V.str (hva.mp hv))) c1
      refine ⟨_, rfl, _, d, rfl, R, fun H2 qa us S2 h2 RU => ?_⟩
      refine ⟨qa, rfl, ⟨_, h2.sq⟩, ?_⟩
      have hL2 := S2 _ _ hL
      refine for_tup (K := K) (a := qa) (xs := us) (fun i σ' H' => ∃ y2, σ' = [some (.ref pa), some (.ref L), y2] ∧ Off L H2 H' ∧ H' L = some (.lst ((addAll ns (D.occL (d.kids.take i))).map V.int)))
        ⟨_, rfl, Off.refl, by rw [List.take_zero, D.occL]; exact hL2⟩ (fun i σ' H' _ h => by obtain ⟨_, _, h, _⟩ := h; exact (h2.mono (h.st hL2)).sq) (fun i z σ' H' hz h => ?_) (fun σ' H' h => ?_)
      · obtain ⟨y2, rfl, O3, hL3⟩ := h
        obtain ⟨e, he, Re⟩ := RU.get hz
        have a1 := addAll_len (D.occL (d.kids.take i)) ns
        have a2 := occL_len (d.kids.take i)
        have a3 := sizeL_take he
        have a4 := size_kids d
        have a5 := depth_kids d
        have a6 := depthL_mem (List.mem_of_getElem? he)
        refine ⟨_, rfl, _, rfl, z, e, L, _, rfl, Re.mono (O3.st hL2), hL3, by omega, by omega, fun H4 O4 hL4 => ⟨_, rfl, O3.trans O4, ?_⟩⟩
        rw [hL4, occL_take he, addAll_app]
      · obtain ⟨y2, rfl, O3, hL3⟩ := h
        rw [RU.len, List.take_length, ← occ_kids _ nv] at hL3
        exact ⟨_, rfl, (Off.same S2).trans O3, hL3⟩
  · rintro σ' H' ⟨y2, rfl, O1, hL1⟩
    exact ⟨_, rfl, q _ O1 hL1⟩
end
end Vs

set_option Elab.async false
set_option linter.all false
set_option maxRecDepth 100000
namespace Vs
open PySem PySem.Spec PyProof.Rows L2 RT StX Vr
open C8 (pss_cut tCut)
section
variable {P : Program} {w : World} {K : PySem.W.Frag} {mg : Str → Option Value} {base : Heap}
theorem lv_all {f f2 : Addr} {fd d2 : FuncData} (F : Fun K "_law_variables" "_law_variables" sLawVariables f fd) (bd : Binds K fd ["shape", "found"] []) (at_ : mg "_law_variables" = some (.ref f)) (Oq : Own P w K mg base CX0 1 "_law_parts" f2 d2 ["shape"] (spParts K)) :
    ∀ b : Nat, FnOk P w K mg base CX0 (b + 1) f fd ["shape", "found"] (spLv K b)
  | 0 => lv_none
  | b + 1 => ok_lv F (by omega) Oq ⟨lv_all F bd at_ Oq b, bd, F.kp, at_⟩
def spDue (K : PySem.W.Frag) : Sp := fun vs H Q _ => ∃ (x : V) (d : D), vs = [x] ∧ Rp K H x d ∧ d.size ≤ 900 ∧ d.depth ≤ 10 ∧ ∀ H' p v', Same H H' → H' p = some (.tup [.int ((gens 1000000 d).length : Int), v']) → Rp K H' v' (sch 1000000 d) → Q (.ref p) H'
theorem numb_snoc (a : List Int) (n : Int) : numb 0 (a ++ [n]) = numb 0 a ++ [(n, .v (a.length : Int))] := by
  rw [numb_app, Nat.zero_add]
  rfl
theorem ok_due {f f2 f3 : Addr} {fd d2 d3 : FuncData} (F : Fun K "_law_due" "_law_due" sLawDue f fd) (Ov : Own P w K mg base CX0 11 "_law_variables" f2 d2 ["shape", "found"] (spLv K 10)) (Oa : Own P w K mg base CX0 11 "_law_apply" f3 d3 ["shape", "pairs"] (spApply K 10)) (m_len : mg "len" = none) :
    FnOk P w K mg base CX0 12 f fd ["shape"] (spDue K) := by
  refine F.ok scLawDue (fun vs H Q E h => ?_) (fun cdv A outer s H vs Q E hr h => ?_)
  · obtain ⟨x, d, rfl, _⟩ := h
    rfl
  obtain ⟨x, d, rfl, R, sz, dp, q⟩ := h
  refine ⟨_, pss_cons (ps_set (i := 1) scLawDue.nd rfl (.inl rfl) (pe_lst pa_nil))
      (pss_cons (ps_for PassesOwn.never rfl (pi_list (pe_call Ov.ok hr rfl Ov.at_ Ov.kp Ov.bd .nil pass0 (pa_cons (pv 0) (pa_cons (pe_lst pa_nil) pa_nil)))) (pg_name (i := 2) scLawDue.nd rfl (.inl rfl)) (pss_one (ps_if (pt_cmpR op_lt (pv 2) pe_int (nomark _)) (pss_one (ps_expr (pe_bm PySem.F.plainAttrs_list PySem.F.slot_list_append PySem.F.type_list_append mt_append (pv 1) (pa_cons (pe_tup (pa_cons (pv 2) (pa_cons (pe_tup (pa_cons pe_str (pa_cons (pe_callB call_len_seq (by rfl) m_len PySem.boot_len (pa_cons (pv 1) pa_nil)) pa_nil))) pa_nil))) pa_nil)))) pss_nil)))
      (pss_one (ps_ret (pe_tup (pa_cons (pe_callB call_len_seq (by rfl) m_len PySem.boot_len (pa_cons (pv 1) pa_nil)) (pa_cons (pe_call Oa.ok hr rfl Oa.at_ Oa.kp Oa.bd .nil pass0 (pa_cons (pv 0) (pa_cons (pv 1) pa_nil))) pa_nil)))))), ?_⟩
  refine ⟨zz 0, fun L hL => ?_⟩
  have SL := same_upd hL (o := .lst [])
  refine ⟨_, rfl, zz 0, fun M hM => ?_⟩
  have SM := same_upd hM (o := .lst [])
  have nLM : L ≠ M := ne_of_none upd_same hM
  have h0 : ([] : List Int).length = 0 := rfl
  refine ⟨x, d, M, [], rfl, R.same (SL.trans SM), upd_same, by omega, by omega, fun H2 O2 hM2 => ?_⟩
  have hM2' : H2 M = some (.lst (d.vars.map V.int)) := hM2
  have nM : H M = none := SL.free hM
  have S2 : Same H H2 := fun c o e => O2 c o (ne_of_none e nM) (SM _ _ (SL _ _ e))
  have hL2 : H2 L = some (.lst []) := O2 _ _ nLM (SM _ _ upd_same)
  have nL : H L = none := hL
  have vl := vars_len d
  refine ⟨M, rfl, ⟨_, SqL.of hM2'⟩, ?_⟩
  refine for_list (K := K) (a := M) (xs := d.vars.map V.int) (fun i σ' H' => ∃ (y2 : Option V) (ws : List V), σ' = [some x, some (.ref L), y2] ∧ Same H H' ∧ H' L = some (.lst ws) ∧ PrL K H' ws (numb 0 ((d.vars.take i).filter fun z => decide (z < 1000000))) ∧ H' M = some (.lst (d.vars.map V.int)))
    ⟨_, [], rfl, S2, hL2, .nil, hM2'⟩ (fun i σ' H' _ h => by obtain ⟨_, _, _, _, _, _, h⟩ := h; exact SqL.of h) (fun i z σ' H' hz h => ?_) (fun σ' H' h => ?_)
  · obtain ⟨y2, ws, rfl, S3, hL3, PL, hM3⟩ := h
    obtain ⟨n, hn, rfl⟩ := int_get hz
    have lw := PL.len
    rw [numb_len] at lw
    have lf := List.length_filter_le (fun z => decide (z < (1000000 : Int))) (d.vars.take i)
    rw [List.length_take] at lf
    refine ⟨_, rfl, _, _, rfl, rfl, _, rfl, ite2 (fun c => ?_) (fun c => ?_)⟩
    · refine ⟨_, rfl, .inl ⟨rfl, _, SqL.of hL3⟩, _, rfl, _, rfl, L, ws, rfl, .inl (SqL.of hL3), zz 2, fun p1 hp1 => ⟨zz 2, fun p2 hp2 => ?_⟩⟩
      have S1 := same_upd hp1 (o := .tup [.str "v", .int (ws.length : Int)])
      have S2 := same_upd hp2 (o := .tup [.int n, .ref p1])
      have hL4 := S2 _ _ (S1 _ _ hL3)
      refine ⟨L, _, _, rfl, rfl, hL4, zbig (n := ws.length) (by omega), ?_⟩
      have X := ST.lst hL4 (.lst (ws ++ [.ref p2]))
      refine ⟨_, ws ++ [.ref p2], rfl, same_skip (S3.trans (S1.trans S2)) nL, upd_same, ?_, ?_⟩
      · rw [filt_step hn, if_pos c, numb_snoc, ← lw]
        exact (PL.mono ((ST.same (S1.trans S2)).trans X)).app (.cons (X _ _ upd_same) (.v (.of (X _ _ (S2 _ _ upd_same)))) .nil)
      · rw [upd_ne nLM.symm]
        exact S2 _ _ (S1 _ _ hM3)
    · refine ⟨_, ws, rfl, S3, hL3, ?_, hM3⟩
      rw [filt_step hn, if_neg c, List.append_nil]
      exact PL
  · obtain ⟨y2, ws, rfl, S3, hL3, PL, hM3⟩ := h
    rw [List.length_map, List.take_length] at PL
    have lw := PL.len
    rw [numb_len] at lw
    refine ⟨_, rfl, L, ws, rfl, .inl (SqL.of hL3), _, rfl, _, rfl, x, d, L, ws, _, rfl, R.same S3, SqL.of hL3, PL, by omega, dp, fun H5 v5 S5 R5 => ⟨zz 2, fun p hp => ?_⟩⟩
    have S6 := same_upd hp (o := .tup [.int (ws.length : Int), v5])
    refine q _ p v5 (S3.trans (S5.trans S6)) ?_ (R5.same S6)
    rw [upd_same, lw]
    rfl
end
end Vs

set_option Elab.async false
set_option linter.all false
set_option maxRecDepth 100000
namespace Vs
open PySem PySem.Spec PyProof.Rows L2 RT StX Vr
open C8 (pss_cut tCut)
section
variable {P : Program} {w : World} {K : PySem.W.Frag} {mg : Str → Option Value} {base : Heap}
def spDeep (K : PySem.W.Frag) : Sp := fun vs H Q _ => ∃ (T : Addr) (ts : List Int), vs = [.ref T] ∧ SqL K H T (ts.map V.int) ∧ 0 < ts.length ∧ ∀ H', Same H H' → Q (.bl true) H'
theorem ok_deep {f f1 f2 : Addr} {fd d1 d2 : FuncData} (F : Fun K "_law_deep" "_law_deep" sLawDeep f fd) (Op : Own P w K mg base CX0 1 "_law_pick" f1 d1 ["tape", "at", "many"] (spPick K)) (Os : Own P w K mg base CX0 105 "_law_scheme" f2 d2 ["entry"] (spLs K)) (m_range : mg "range" = none) :
    FnOk P w K mg base CX0 106 f fd ["tape"] (spDeep K) := by
  refine F.ok scLawDeep (fun vs H Q E h => ?_) (fun cdv A outer s H vs Q E hr h => ?_)
  · obtain ⟨T, ts, rfl, _⟩ := h
    rfl
  obtain ⟨T, ts, rfl, hT, hp, q⟩ := h
  have hr1 := hr.mono (show 1 ≤ 105 by decide)
  refine ⟨_, pss_cons (ps_set (i := 1) scLawDeep.nd rfl (.inl rfl) (pe_op op_add pe_int (pe_call Op.ok hr1 rfl Op.at_ Op.kp Op.bd .nil pass0 (pa_cons (pv 0) (pa_cons pe_int (pa_cons pe_int pa_nil))))))
      (pss_cons (ps_set (i := 2) scLawDeep.nd rfl (.inl rfl) (pe_tup (pa_cons pe_str (pa_cons pe_int pa_nil))))
      (pss_cons (ps_for PassesOwn.never rfl (pi_range1 rfl m_range (pa_cons (pe_op op_sub (pv 1) pe_int) pa_nil)) (pg_name (i := 3) scLawDeep.nd rfl (.inl rfl)) (pss_one (ps_set (i := 2) scLawDeep.nd rfl (.inl rfl) (pe_tup (pa_cons pe_str (pa_cons (pe_tup (pa_cons pe_str (pa_cons pe_int (pa_cons (pe_tup pa_nil) pa_nil)))) (pa_cons (pv 2) pa_nil)))))))
      (pss_cons (ps_set (i := 4) scLawDeep.nd rfl (.inl rfl) (pe_tup (pa_cons pe_str (pa_cons pe_str (pa_cons pe_int (pa_cons (pv 2) (pa_cons (pe_tup (pa_cons pe_str (pa_cons pe_int (pa_cons (pe_tup (pa_cons (pe_tup (pa_cons pe_str (pa_cons pe_int pa_nil))) pa_nil)) pa_nil)))) (pa_cons pe_int (pa_cons (pe_tup (pa_cons (pe_tup (pa_cons pe_str (pa_cons pe_bl pa_nil))) pa_nil)) pa_nil)))))))))
      (pss_cons (ps_set (i := 5) scLawDeep.nd rfl (.inl rfl) (pe_call Os.ok hr rfl Os.at_ Os.kp Os.bd .nil pass0 (pa_cons (pv 4) pa_nil)))
      (pss_cons (ps_if (pt_cmpR op_eq (pv 1) pe_int (nomark _)) (pss_one (ps_ret (pe_cmpR op_isN (pv 5) pe_non (nomark _)))) pss_nil)
      (pss_one (ps_ret (pe_cmpR (op_eqP (hu300 hr (by decide))) (pv 5) (pe_tup (pa_cons pe_int (pa_cons (pe_tup (pa_cons pe_str (pa_cons (pv 2) (pa_cons (pe_tup (pa_cons pe_str (pa_cons pe_int (pa_cons (pe_tup (pa_cons (pe_tup (pa_cons pe_str (pa_cons pe_int pa_nil))) pa_nil)) pa_nil)))) pa_nil)))) pa_nil))) (nomark _))))))))), ?_⟩
  refine ⟨_, rfl, T, ts, _, _, rfl, hT, hp, by decide, _, _, rfl, rfl, ?_⟩
  have a0 := pk_lo (ts := ts) (a := 3) (show (0 : Int) < 5 by decide)
  have a1 := pk_hi (ts := ts) (a := 3) (show (0 : Int) < 5 by decide)
  generalize pk ts 3 5 = ra at a0 a1
  refine ⟨zz 2, fun p0 h0 => ?_⟩
  have S0 := same_upd h0 (o := .tup [.str "v", .int 0])
  refine ⟨_, rfl, _, _, rfl, rfl, 96 + ra - 1, rfl, by omega, by omega, ?_⟩
  refine for_range (n := (96 + ra - 1).toNat) (fun i σ H' => ∃ v y3, σ = [some (.ref T), some (.int (96 + ra)), some v, y3, none, none] ∧ Same H H' ∧ Rp K H' v (ch0 i))
    ⟨_, _, rfl, S0, .v (.of upd_same)⟩ (fun i σ H' hi h => ?_) (fun σ H' h => ?_)
  · obtain ⟨v, y3, rfl, S1, R1⟩ := h
    refine ⟨zz 0, fun p1 h1 => ⟨zz 3, fun p2 h2 => ⟨_, rfl, zz 3, fun p3 h3 => ?_⟩⟩⟩
    have S2 := (same_upd h2 (o := .tup [.str "c", .int 0, .ref p1])).trans (same_upd h3 (o := .tup [.str "f", .ref p2, v]))
    have S3 := (same_upd h1 (o := .tup [])).trans S2
    exact ⟨.ref p3, _, rfl, S1.trans S3, .f (.of upd_same) (.c (.of (same_upd h3 _ _ upd_same)) (.of (S2 _ _ upd_same)) .nil) (R1.same S3)⟩
  · obtain ⟨v, y3, rfl, S1, R1⟩ := h
    generalize hk : (96 + ra - 1).toNat = k at R1
    refine ⟨_, rfl, zz 2, fun p1 h1 => ⟨zz 1, fun p2 h2 => ⟨zz 3, fun p3 h3 => ⟨zz 2, fun p4 h4 => ⟨zz 1, fun p5 h5 => ⟨zz 7, fun p6 h6 => ?_⟩⟩⟩⟩⟩⟩
    have T1 := same_upd h1 (o := .tup [.str "v", .int 0])
    have T2 := same_upd h2 (o := .tup [.ref p1])
    have T3 := same_upd h3 (o := .tup [.str "c", .int 8, .ref p2])
    have T4 := same_upd h4 (o := .tup [.str "C", .bl true])
    have T5 := same_upd h5 (o := .tup [.ref p4])
    have T6 := same_upd h6 (o := .tup [.str "con", .str "C", .int 1, v, .ref p3, .int 0, .ref p5])
    have T46 := T4.trans (T5.trans T6)
    have T16 := T1.trans (T2.trans (T3.trans T46))
    have Rr : Rp K _ (.ref p3) (.c 8 [.v 0]) := .c (.of (T46 _ _ upd_same)) (.of (T46 _ _ (T3 _ _ upd_same))) (.cons (.v (.of (T46 _ _ (T3 _ _ (T2 _ _ upd_same))))) .nil)
    obtain ⟨q0, rfl⟩ := R1.ref
    have ds := deep_size k
    have dd := deep_depth k (by omega)
    refine ⟨_, rfl, .ref p6, 1, deepD k, rfl, .inl ⟨p6, _, _, _, _, _, rfl, upd_same, Rr, .inr ⟨q0, _, rfl, R1.same T16, rfl⟩⟩, by omega, by rw [deep_gens]; decide, fun hb H5 S5 => ?_, fun nb H5 p v5 S5 hp5 R5 => ?_⟩
    · rw [deep_sch] at hb
      have : k = 99 := by
        rcases hb with c | c <;> omega
      refine ⟨_, rfl, rfl, _, rfl, ite2 (fun _ => ?_) (fun c => absurd (decide_eq_true (congrArg V.int (show 96 + ra = 100 by omega))) c)⟩
      refine ⟨_, rfl, rfl, ?_⟩
      rw [decide_eq_true rfl]
      exact q _ (S1.trans (T16.trans S5))
    · rw [deep_sch] at nb R5
      rw [deep_gens] at hp5
      refine ⟨_, rfl, rfl, _, rfl, ite2 (fun c => ?_) (fun c => ?_)⟩
      · have c' : 96 + ra = 100 := V.int.inj (of_decide_eq_true c)
        exact absurd (.inr (by omega)) nb
      · refine ⟨_, rfl, _, rfl, zz 2, fun p7 h7 => ⟨zz 1, fun p8 h8 => ⟨zz 3, fun p9 h9 => ⟨zz 3, fun p10 h10 => ⟨zz 2, fun p11 h11 => ?_⟩⟩⟩⟩⟩
        have U1 := same_upd h7 (o := .tup [.str "v", .int 0])
        have U2 := same_upd h8 (o := .tup [.ref p7])
        have U3 := same_upd h9 (o := .tup [.str "c", .int 8, .ref p8])
        have U4 := same_upd h10 (o := .tup [.str "f", .ref q0, .ref p9])
        have U5 := same_upd h11 (o := .tup [.int 1, .ref p10])
        have U35 := U3.trans (U4.trans U5)
        have U15 := U1.trans (U2.trans U35)
        have Rr2 : Rp K _ (.ref p9) (.c 8 [.v 0]) := .c (.of ((U4.trans U5) _ _ upd_same)) (.of (U35 _ _ upd_same)) (.cons (.v (.of (U35 _ _ (U2 _ _ upd_same)))) .nil)
        have Rf : Rp K _ (.ref p10) (deepD k) := .f (.of (U5 _ _ upd_same)) (R1.same (T16.trans (S5.trans U15))) Rr2
        refine ⟨prD 1 (deepD k), prD 1 (deepD k), prD_dp (U15 _ _ hp5) (R5.same U15), prD_dp upd_same Rf, prD_lay _ _, prD_lay _ _, ?_, ?_⟩
        · have := prD_depth 1 (deepD k)
          omega
        · rw [prD_self]
          exact q _ (S1.trans (T16.trans (S5.trans U15)))
end
end Vs

set_option Elab.async false
set_option linter.all false
set_option maxRecDepth 100000
namespace Vs
open PySem PySem.Spec PyProof.Rows L2 RT StX Vr
open C8 (pss_cut tCut)
section
variable {P : Program} {w : World} {K : PySem.W.Frag} {mg : Str → Option Value} {base : Heap}
def spLaw (K : PySem.W.Frag) : Sp := fun vs H Q _ => ∃ (a : Addr) (ns : List Int), vs = [.ref a] ∧ SqL K H a (ns.map V.int) ∧ ns.length ≤ 63 ∧ ∀ H', Q (.bl true) H'
theorem iota_step (i : Nat) : iota (i + 1) = iota i ++ [(i : Int)] := by
  unfold iota
  rw [List.range_succ, List.map_append]
  rfl
theorem ok_law {f f1 f2 f3 f4 f5 f6 : Addr} {fd d1 d2 d3 d4 d5 d6 : FuncData} (F : Fun K "law" "law" sLaw f fd) (Ot : Own P w K mg base CX0 1 "_law_tape" f1 d1 ["script", "many"] (spTape K)) (Op : Own P w K mg base CX0 1 "_law_pick" f2 d2 ["tape", "at", "many"] (spPick K))
    (Od : Own P w K mg base CX0 106 "_law_deep" f3 d3 ["tape"] (spDeep K)) (Os : Own P w K mg base CX0 6 "_law_shape" f4 d4 ["tape", "at", "level", "free"] (spShape K 4)) (Oc : Own P w K mg base CX0 105 "_law_scheme" f5 d5 ["entry"] (spLs K))
    (Oe : Own P w K mg base CX0 12 "_law_due" f6 d6 ["shape"] (spDue K)) (m_range : mg "range" = none) (m_tuple : mg "tuple" = none) : FnOk P w K mg base CX0 107 f fd ["script"] (spLaw K) := by
  refine F.ok scLaw (fun vs H Q E h => ?_) (fun cdv A outer s H vs Q E hr h => ?_)
  · obtain ⟨a, ns, rfl, _⟩ := h
    rfl
  obtain ⟨a, ns, rfl, hS, hlen, q⟩ := h
  have hr1 : Room 1 (A.deeper (envOfC "law" (defScope sLaw) s.heap.objs.size f cdv)) := hr.mono (by decide)
  have hr6 : Room 6 (A.deeper (envOfC "law" (defScope sLaw) s.heap.objs.size f cdv)) := hr.mono (by decide)
  have hr12 : Room 12 (A.deeper (envOfC "law" (defScope sLaw) s.heap.objs.size f cdv)) := hr.mono (by decide)
  have hr105 : Room 105 (A.deeper (envOfC "law" (defScope sLaw) s.heap.objs.size f cdv)) := hr.mono (by decide)
  refine ⟨_, pss_cons (ps_set (i := 1) scLaw.nd rfl (.inl rfl) (pe_call Ot.ok hr1 rfl Ot.at_ Ot.kp Ot.bd .nil pass0 (pa_cons (pv 0) (pa_cons pe_int pa_nil))))
      (pss_cons (ps_set (i := 2) scLaw.nd rfl (.inl rfl) (pe_call Op.ok hr1 rfl Op.at_ Op.kp Op.bd .nil pass0 (pa_cons (pv 1) (pa_cons pe_int (pa_cons pe_int pa_nil)))))
      (pss_cons (ps_set (i := 3) scLaw.nd rfl (.inl rfl) (pe_tup (pa_cons pe_str (pa_cons (pe_op op_add pe_int (pe_call Op.ok hr1 rfl Op.at_ Op.kp Op.bd .nil pass0 (pa_cons (pv 1) (pa_cons pe_int (pa_cons pe_int pa_nil))))) (pa_cons (pe_callTy call_tuple_of (by rfl) m_tuple (by decide +kernel) (pa_cons (pe_lc (own := [("k", 11)]) (g := gName 11) (tt := tYes) rfl scLaw.nd (pi_range1 rfl m_range (pa_cons (pv 2) pa_nil)) (blkOk_by (own := [("k", 11)]) (N := ["script", "tape", "many", "result", "inner", "at", "family", "place", "bare", "entry", "free", "k"]) (sc := defScope sLaw) (by decide +kernel)) (fun _ _ _ _ _ => (pg_name (i := 11) scLaw.nd rfl (.inl rfl))) (fun _ _ _ _ _ => pts_nil) (fun _ _ _ _ _ => (pe_tup (pa_cons pe_str (pa_cons (pv 11) pa_nil))))) pa_nil)) pa_nil)))))
      (pss_cut (ps_if (PW.pt (pw_and (pt_cmpR op_eq (pe_call Op.ok hr1 rfl Op.at_ Op.kp Op.bd .nil pass0 (pa_cons (pv 1) (pa_cons pe_int (pa_cons pe_int pa_nil)))) pe_int (nomark _)) (pw_and1 (pt_not (pt_val (pe_call Od.ok hr rfl Od.at_ Od.kp Od.bd .nil pass0 (pa_cons (pv 1) pa_nil))))))) (pss_one (ps_ret pe_bl)) pss_nil)
      (pss_cons (ps_asg (pe_call Os.ok hr6 rfl Os.at_ Os.kp Os.bd .nil pass0 (pa_cons (pv 1) (pa_cons pe_int (pa_cons (pe_op op_add pe_int (pe_call Op.ok hr1 rfl Op.at_ Op.kp Op.bd .nil pass0 (pa_cons (pv 1) (pa_cons pe_int (pa_cons pe_int pa_nil))))) (pa_cons (pe_op op_cat (pe_lc (own := [("k", 11)]) (g := gName 11) (tt := tYes) rfl scLaw.nd (pi_range1 rfl m_range (pa_cons (pv 2) pa_nil)) (blkOk_by (own := [("k", 11)]) (N := ["script", "tape", "many", "result", "inner", "at", "family", "place", "bare", "entry", "free", "k"]) (sc := defScope sLaw) (by decide +kernel)) (fun _ _ _ _ _ => (pg_name (i := 11) scLaw.nd rfl (.inl rfl))) (fun _ _ _ _ _ => pts_nil) (fun _ _ _ _ _ => (pv 11))) (pe_lst (pa_cons pe_int (pa_cons pe_int pa_nil)))) pa_nil))))) (pg_tup rfl (pgs_cons (pg_name (i := 4) scLaw.nd rfl (.inl rfl)) (pgs_cons (pg_name (i := 5) scLaw.nd rfl (.inl rfl)) pgs_nil))))
      (pss_cons (ps_set (i := 6) scLaw.nd rfl (.inl rfl) (pe_tup (pa_cons (pe_tup (pa_cons pe_str (pa_cons pe_bl pa_nil))) (pa_cons (pe_tup (pa_cons pe_str (pa_cons pe_bl pa_nil))) (pa_cons (pe_tup (pa_cons pe_str (pa_cons (pe_cmpR op_eq (pe_ix ix_tup (pv 4) pe_int (fun _ _ => rfl)) pe_str (nomark _)) pa_nil))) pa_nil)))))
      (pss_cons (ps_set (i := 7) scLaw.nd rfl (.inl rfl) (pe_call Op.ok hr1 rfl Op.at_ Op.kp Op.bd .nil pass0 (pa_cons (pv 1) (pa_cons (pv 5) (pa_cons pe_int pa_nil)))))
      (pss_cons (ps_set (i := 8) scLaw.nd rfl (.inl rfl) (pe_tup (pa_cons pe_str (pa_cons pe_str (pa_cons (pv 2) (pa_cons pe_non (pa_cons (pv 3) (pa_cons (pv 7) (pa_cons (pv 6) pa_nil)))))))))
      (pss_cons (ps_if (pt_cmpR (op_neD hr.units) (pe_call Oc.ok hr105 rfl Oc.at_ Oc.kp Oc.bd .nil pass0 (pa_cons (pv 8) pa_nil)) (pe_tup (pa_cons (pv 2) (pa_cons (pv 3) pa_nil))) (nomark _)) (pss_one (ps_ret pe_bl)) pss_nil)
      (pss_cons (ps_set (i := 9) scLaw.nd rfl (.inl rfl) (pe_tup (pa_cons pe_str (pa_cons pe_str (pa_cons (pv 2) (pa_cons (pv 4) (pa_cons (pv 3) (pa_cons (pv 7) (pa_cons (pv 6) pa_nil)))))))))
      (pss_cons (ps_if (PW.pt (pw_or (pt_cmpR (op_neD hr.units) (pe_call Oc.ok hr105 rfl Oc.at_ Oc.kp Oc.bd .nil pass0 (pa_cons (pv 9) pa_nil)) (pe_call Oe.ok hr12 rfl Oe.at_ Oe.kp Oe.bd .nil pass0 (pa_cons (pe_tup (pa_cons pe_str (pa_cons (pv 4) (pa_cons (pv 3) pa_nil)))) pa_nil)) (nomark _)) (pw_or1 (pt_cmpR (op_neD hr.units) (pe_ix ix_tup (pv 9) pe_int (fun _ _ => rfl)) (pv 4) (nomark _))))) (pss_one (ps_ret pe_bl)) pss_nil)
      (pss_cons (ps_asg (pe_call Os.ok hr6 rfl Os.at_ Os.kp Os.bd .nil pass0 (pa_cons (pv 1) (pa_cons (pe_op op_add (pv 5) pe_int) (pa_cons (pe_op op_add pe_int (pe_call Op.ok hr1 rfl Op.at_ Op.kp Op.bd .nil pass0 (pa_cons (pv 1) (pa_cons pe_int (pa_cons pe_int pa_nil))))) (pa_cons (pe_lst (pa_cons pe_int (pa_cons pe_int (pa_cons pe_int pa_nil)))) pa_nil))))) (pg_tup rfl (pgs_cons (pg_name (i := 10) scLaw.nd rfl (.inl rfl)) (pgs_cons (pg_name (i := 5) scLaw.nd rfl (.inl rfl)) pgs_nil))))
      (pss_cons (ps_if (pt_cmpR (op_neD hr.units) (pe_call Oc.ok hr105 rfl Oc.at_ Oc.kp Oc.bd .nil pass0 (pa_cons (pe_tup (pa_cons pe_str (pa_cons pe_str (pa_cons (pv 10) pa_nil)))) pa_nil)) (pe_tup (pa_cons pe_int (pa_cons (pe_tup (pa_cons pe_str (pa_cons (pv 10) (pa_cons (pe_tup (pa_cons pe_str (pa_cons pe_int (pa_cons (pe_tup pa_nil) pa_nil)))) pa_nil)))) pa_nil))) (nomark _)) (pss_one (ps_ret pe_bl)) pss_nil)
      (pss_one (ps_ret (pe_cmpR (op_eqD hr.units) (pe_call Oc.ok hr105 rfl Oc.at_ Oc.kp Oc.bd .nil pass0 (pa_cons (pe_tup (pa_cons pe_str (pa_cons pe_str (pa_cons pe_non pa_nil)))) pa_nil)) (pe_tup (pa_cons pe_int (pa_cons (pe_tup (pa_cons pe_str (pa_cons pe_int (pa_cons (pe_tup pa_nil) pa_nil)))) pa_nil))) (nomark _)))))))))))))))), ?_⟩
  refine ⟨_, rfl, a, ns, 120, rfl, hS, by decide, by decide, fun H1 tp ts S1 htp lts _ => ?_⟩
  have tpos : 0 < ts.length := by
    rw [lts]
    decide
  refine ⟨_, rfl, tp, ts, _, _, rfl, SqL.of htp, tpos, by decide, ?_⟩
  have b0 := pk_lo (ts := ts) (a := 0) (show (0 : Int) < 5 by decide)
  have b1 := pk_hi (ts := ts) (a := 0) (show (0 : Int) < 5 by decide)
  obtain ⟨m, hm⟩ : ∃ m : Nat, pk ts 0 5 = (m : Int) := ⟨(pk ts 0 5).toNat, by omega⟩
  rw [hm] at b0 b1 ⊢
  -- the result
  refine ⟨_, rfl, tp, ts, _, _, rfl, SqL.of htp, tpos, by decide, _, _, rfl, rfl, ?_⟩
  refine ⟨_, rfl, (m : Int), rfl, by omega, by omega, fun L hL => ?_⟩
  have SL := same_upd hL (o := .lst [])
  refine lc_range (n := (m : Int).toNat) (fun i H' => Same H1 H' ∧ ∃ ws, H' L = some (.lst ws) ∧ RpL K H' ws ((iota i).map D.v))
    ⟨SL, [], upd_same, .nil⟩ (fun i H' hi h => ?_) (fun H' h => ?_)
  · obtain ⟨S2, ws, hL2, RL⟩ := h
    refine ⟨rfl, ?_⟩
    refine ⟨_, rfl, zz 2, fun p hp => ?_⟩
    have Sp := same_upd hp (o := .tup [.str "v", .int (0 + (i : Int))])
    have hL3 := Sp _ _ hL2
    have lw := RL.len
    rw [List.length_map, iota_len] at lw
    have X := ST.lst hL3 (.lst (ws ++ [.ref p]))
    refine ⟨ws, hL3, small1000 (by omega), same_skip (S2.trans Sp) hL, ws ++ [.ref p], upd_same, ?_⟩
    rw [iota_step, List.map_append]
    refine (RL.mono ((ST.same Sp).trans X)).app (.cons (.v (.of ?_)) .nil)
    rw [X _ _ upd_same, Int.zero_add]
  obtain ⟨S2, ws, hL2, RL⟩ := h
  rw [show ((m : Int).toNat) = m from Int.toNat_natCast m] at RL
  refine ⟨L, ws, rfl, .inl ⟨SqL.of hL2, fun p hp => ?_⟩⟩
  refine ⟨zz 3, fun p3 hp3 => ?_⟩
  have Sp := same_upd hp (o := .tup ws)
  have Sp3 := same_upd hp3 (o := .tup [.str "c", .int (8 + pk ts 1 4), .ref p])
  have Rr : Rp K _ (.ref p3) (resD (8 + pk ts 1 4) m) := .c (.of upd_same) (.of (Sp3 _ _ upd_same)) (RL.same (Sp.trans Sp3))
  have S13 := S2.trans (Sp.trans Sp3)
  have htp3 := S13 _ _ htp
  refine ⟨fun σ' H' => σ' = [some (.ref a), some (.ref tp), some (.int (m : Int)), some (.ref p3), none, none, none, none, none, none, none, none] ∧ Same H1 H' ∧ Rp K H' (.ref p3) (resD (8 + pk ts 1 4) m), ?_, ?_⟩
  · refine ⟨_, rfl, tp, ts, _, _, rfl, SqL.of htp3, tpos, by decide, rfl, _, rfl, ite2 (fun _ => ?_) (fun _ => ?_)⟩
    · refine ⟨_, rfl, tp, ts, rfl, SqL.of htp3, tpos, fun H4 S4 => ?_⟩
      refine ⟨_, rfl, ?_⟩
      refine iteF ?_
      exact ⟨rfl, S13.trans S4, Rr.same S4⟩
    · refine iteF ?_
      exact ⟨rfl, S13, Rr⟩
  clear Rr S13 htp3 Sp3 Sp hp hp3 RL hL2 S2
  rintro σ4 H4 ⟨rfl, S4, Rr⟩
  have htp4 := S4 _ _ htp
  generalize 8 + pk ts 1 4 = st at Rr
  -- the shape of the argument
  refine ⟨_, rfl, _, rfl, tp, ts, _, _, rfl, SqL.of htp4, tpos, by decide, _, _, rfl, rfl, ?_⟩
  have c0 := pk_lo (ts := ts) (a := 4) (show (0 : Int) < 3 by decide)
  have c1 := pk_hi (ts := ts) (a := 4) (show (0 : Int) < 3 by decide)
  obtain ⟨l, hl⟩ : ∃ l : Nat, 1 + pk ts 4 3 = (l : Int) := ⟨(1 + pk ts 4 3).toNat, by omega⟩
  have l3 : l ≤ 3 := by omega
  refine ⟨_, rfl, (m : Int), rfl, by omega, by omega, fun G hG => ?_⟩
  have SG := same_upd hG (o := .lst [])
  refine lc_range (n := (m : Int).toNat) (fun i H' => Same H4 H' ∧ H' G = some (.lst ((iota i).map V.int))) ⟨SG, upd_same⟩ (fun i H' hi h => ?_) (fun H' h => ?_)
  · obtain ⟨S5, hG5⟩ := h
    refine ⟨rfl, ?_⟩
    refine ⟨_, rfl, _, hG5, ?_, same_skip S5 hG, ?_⟩
    · rw [List.length_map, iota_len]
      exact small1000 (by omega)
    · rw [upd_same, iota_step, List.map_append, Int.zero_add]
      rfl
  obtain ⟨S5, hG5⟩ := h
  rw [show ((m : Int).toNat) = m from Int.toNat_natCast m] at hG5
  refine ⟨zz 2, fun G2 hG2 => ?_⟩
  have SG2 := same_upd hG2 (o := .lst [.int 1000003, .int 1000001])
  refine ⟨G, G2, _, _, rfl, rfl, SG2 _ _ hG5, upd_same, Nat.le_of_lt (small1000 ?_), fun G3 hG3 => ?_⟩
  · rw [List.length_map, iota_len]
    show m + 2 ≤ _
    omega
  have SG3 := same_upd hG3 (o := .lst ((iota m).map V.int ++ [.int 1000003, .int 1000001]))
  have S6 := S5.trans (SG2.trans SG3)
  refine ⟨tp, G3, ts, iota m ++ [1000003, 1000001], 6, l, by rw [← hl]; rfl, by omega, SqL.of (S6 _ _ htp4), tpos, SqL.of (by rw [upd_same, List.map_append]; rfl), fun H7 r7 x d at1 S7 e7 R7 g7 => ?_⟩
  have S47 := S6.trans S7
  have htp7 := S47 _ _ htp4
  have Rr7 := Rr.same S47
  clear hG5 S5 SG2 SG3 S6 hG2 hG3 hG SG
  refine ⟨r7, _, rfl, SqT.of e7, rfl, _, _, rfl, _, _, rfl, rfl, ?_⟩
  have dsz := g7.size
  have ddp := g7.depth
  have e85 : sizeOf' l ≤ 85 := by
    have : l = 0 ∨ l = 1 ∨ l = 2 ∨ l = 3 := by omega
    rcases this with h | h | h | h <;> subst h <;> decide
  -- the family
  obtain ⟨x0, rfl⟩ := R7.ref
  obtain ⟨_, ka, ra, ex, hta, _, _⟩ := R7.tag
  cases ex
  refine ⟨zz 2, fun p1 h1 => ⟨zz 2, fun p2 h2 => ?_⟩⟩
  have T1 := same_upd h1 (o := .tup [.str "A", .bl false])
  have T2 := same_upd h2 (o := .tup [.str "B", .bl true])
  have T12 := T1.trans T2
  refine ⟨_, rfl, x0, _, _, _, rfl, rfl, (hta.mono (ST.same T12)).sq, atI_nat (j := 0) rfl, rfl, zz 2, fun p4 h4 => ⟨zz 3, fun p5 h5 => ?_⟩⟩
  have T4 := same_upd h4 (o := .tup [.str "C", .bl (decide (V.str ka = V.str "f"))])
  have T5 := same_upd h5 (o := .tup [.ref p1, .ref p2, .ref p4])
  have T15 := T12.trans (T4.trans T5)
  refine ⟨_, rfl, _, rfl, tp, ts, _, _, rfl, SqL.of (T15 _ _ htp7), tpos, by decide, ?_⟩
  -- the bare one
  refine ⟨_, rfl, _, rfl, _, rfl, _, rfl, zz 7, fun p9 h9 => ?_⟩
  have T9 := same_upd h9 (o := .tup [.str "con", .str "A", .int (m : Int), .non, .ref p3, .int (pk ts at1 3), .ref p5])
  have T19 := T15.trans T9
  have R9 := R7.same T19
  have Rr9 := Rr7.same T19
  have rsz := res_size st m
  have rdp := res_depth st m
  have nbr : ¬ big (sch (m : Int) (resD st m)) := by
    rw [res_sch]
    rintro (c | c) <;> omega
  refine ⟨_, rfl, .ref p9, m, resD st m, rfl, .inl ⟨p9, _, _, _, _, _, rfl, upd_same, Rr9, .inl ⟨rfl, rfl⟩⟩, by omega, by rw [res_gens, iota_len]; omega, fun hb => absurd hb nbr, fun _ H10 pa va S10 ha Ra => ?_⟩
  rw [res_gens, iota_len] at ha
  rw [res_sch] at Ra
  refine ⟨_, rfl, _, rfl, zz 2, fun p11 h11 => ?_⟩
  have T11 := same_upd h11 (o := .tup [.int (m : Int), .ref p3])
  have T711 := T19.trans (S10.trans T11)
  have Rr11 := Rr7.same T711
  have R11 := R7.same T711
  refine ⟨_, _, prD_dp (T11 _ _ ha) (Ra.same T11), prD_dp upd_same Rr11, prD_shaped (by omega), prD_shaped (by omega), _, rfl, ?_⟩
  rw [prD_self]
  refine iteF ?_
  have htp11 := T711 _ _ htp7
  have hfam := T711
  clear ha Ra T11 S10 T9 h11 h9 T19 R9 Rr9
  -- the one with an argument
  generalize hdd : D.f d (resD st m) = dd
  have ds : dd.size ≤ 100 := by
    rw [← hdd, D.size]
    omega
  have dp : dd.depth ≤ 5 := by
    rw [← hdd, D.depth]
    omega
  have eg : gens (m : Int) dd = gens 1000000 dd := by
    rw [← hdd]
    exact gens_same (by omega) g7
  have es : sch (m : Int) dd = sch 1000000 dd := by
    unfold sch
    rw [eg]
  obtain ⟨ss1, ss2, nb⟩ := sch_small (n := (m : Int)) (d := dd) (by omega) (by omega)
  have gl := gens_len (m : Int) dd
  refine ⟨_, rfl, _, rfl, _, rfl, _, rfl, _, rfl, zz 7, fun p12 h12 => ?_⟩
  have T12 := same_upd h12 (o := .tup [.str "con", .str "B", .int (m : Int), .ref x0, .ref p3, .int (pk ts at1 3), .ref p5])
  refine ⟨_, rfl, .ref p12, m, dd, rfl, .inl ⟨p12, _, _, _, _, _, rfl, upd_same, Rr11.same T12, .inr ⟨x0, d, rfl, R11.same T12, hdd.symm⟩⟩, by omega, by omega, fun hb => absurd hb nb, fun _ H13 pa va S13 ha Ra => ?_⟩
  refine ⟨_, rfl, _, rfl, zz 3, fun p14 h14 => ?_⟩
  have T14 := same_upd h14 (o := .tup [.str "f", .ref x0, .ref p3])
  have T1214 := T12.trans (S13.trans T14)
  refine ⟨.ref p14, dd, rfl, by rw [← hdd]; exact .f (.of upd_same) (R11.same T1214) (Rr11.same T1214), by omega, by omega, fun H15 pb vb S15 hb Rb => ?_⟩
  rw [eg] at ha
  rw [es] at Ra
  rw [es] at ss2
  refine ⟨_, _, prD_dp (S15 _ _ (T14 _ _ ha)) (Ra.same (T14.trans S15)), prD_dp hb Rb, prD_shaped (by omega), prD_shaped (by omega), _, rfl, ?_⟩
  rw [prD_self]
  have T15' := T1214.trans S15
  have R15 := R11.same T15'
  obtain ⟨w1, w2, w3⟩ := R15.eqd (by omega)
  have h12' := (S13.trans (T14.trans S15)) _ _ (upd_same (H := _) (a := p12) (o := .tup [.str "con", .str "B", .int (m : Int), .ref x0, .ref p3, .int (pk ts at1 3), .ref p5]))
  refine iteF ?_
  refine ⟨_, rfl, p12, _, _, _, rfl, rfl, .inl (.inl h12'), atI_nat (j := 3) rfl, _, rfl, _, _, w1, w1, w2, w2, _, rfl, ?_⟩
  rw [w3]
  refine iteF ?_
  have htp15 := T15' _ _ htp11
  clear h12' ha Ra hb Rb T1214 T14 T12 S13 S15 h14 h12 hfam htp11 Rr11 R11 T711
  -- the free one
  refine ⟨_, rfl, _, rfl, _, _, rfl, rfl, _, rfl, tp, ts, _, _, rfl, SqL.of htp15, tpos, by decide, _, _, rfl, rfl, zz 3, fun G hG => ?_⟩
  have SG := same_upd hG (o := .lst [.int 1000003, .int 1000001, .int 1000050])
  have e0 := pk_lo (ts := ts) (a := 5) (show (0 : Int) < 2 by decide)
  have e1 := pk_hi (ts := ts) (a := 5) (show (0 : Int) < 2 by decide)
  obtain ⟨l2, hl2⟩ : ∃ l2 : Nat, 1 + pk ts 5 2 = (l2 : Int) := ⟨(1 + pk ts 5 2).toNat, by omega⟩
  refine ⟨tp, G, ts, [1000003, 1000001, 1000050], at1 + 1, l2, by rw [← hl2]; rfl, by omega, SqL.of (SG _ _ htp15), tpos, SqL.of upd_same, fun H16 r16 x16 d2 at2 S16 e16 R16 g16 => ?_⟩
  refine ⟨r16, _, rfl, SqT.of e16, rfl, _, _, rfl, _, _, rfl, rfl, ?_⟩
  obtain ⟨x2, rfl⟩ := R16.ref
  have dsz2 := g16.size
  have ddp2 := g16.depth
  have e21 : sizeOf' l2 ≤ 21 := by
    have : l2 = 0 ∨ l2 = 1 ∨ l2 = 2 := by omega
    rcases this with h | h | h <;> subst h <;> decide
  have pos2 : ∀ n ∈ (D.f d2 (.c 2 [])).occ, 0 ≤ n := by
    intro n hn
    rw [D.occ, D.occ, D.occL, List.append_nil, List.append_nil] at hn
    have := g16.occ n hn
    simp only [List.mem_cons, List.mem_nil_iff, or_false] at this
    omega
  have fs : (D.f d2 (.c 2 [])).size ≤ 30 := by
    simp only [D.size, D.sizeL]
    omega
  have fd' : (D.f d2 (.c 2 [])).depth ≤ 6 := by
    simp only [D.depth, D.depthL]
    omega
  have nb2 : ¬ big (sch 0 (D.f d2 (.c 2 []))) := by
    rw [sch_zero pos2]
    rintro (c | c) <;> omega
  refine ⟨_, rfl, zz 3, fun p17 h17 => ?_⟩
  have T17 := same_upd h17 (o := .tup [.str "exn", .str "E", .ref x2])
  refine ⟨.ref p17, 0, _, rfl, .inr ⟨p17, _, _, rfl, upd_same, rfl, .inr ⟨x2, d2, rfl, R16.same T17, rfl⟩⟩, by omega, by rw [gens_zero pos2]; decide, fun hb => absurd hb nb2, fun _ H18 pa va S18 ha Ra => ?_⟩
  rw [gens_zero pos2] at ha
  rw [sch_zero pos2] at Ra
  refine ⟨_, rfl, zz 0, fun p19 h19 => ⟨zz 3, fun p20 h20 => ⟨zz 3, fun p21 h21 => ⟨zz 2, fun p22 h22 => ?_⟩⟩⟩⟩
  have U1 := same_upd h19 (o := .tup [])
  have U2 := same_upd h20 (o := .tup [.str "c", .int 2, .ref p19])
  have U3 := same_upd h21 (o := .tup [.str "f", .ref x2, .ref p20])
  have U4 := same_upd h22 (o := .tup [.int 0, .ref p21])
  have U14 := U1.trans (U2.trans (U3.trans U4))
  have Rf : Rp K _ (.ref p21) (.f d2 (.c 2 [])) := .f (.of (U4 _ _ upd_same)) (R16.same (T17.trans (S18.trans U14))) (.c (.of ((U3.trans U4) _ _ upd_same)) (.of ((U2.trans (U3.trans U4)) _ _ upd_same)) .nil)
  refine ⟨prD 0 _, prD 0 _, prD_dp (U14 _ _ ha) (Ra.same U14), prD_dp upd_same Rf, prD_shaped (by omega), prD_shaped (by omega), _, rfl, ?_⟩
  rw [prD_self]
  refine iteF ?_
  clear ha Ra Rf U14 U1 U2 U3 U4
  -- the bare exception
  have posE : ∀ n ∈ (D.c 2 []).occ, 0 ≤ n := by
    intro n hn
    rw [D.occ, D.occL] at hn
    cases hn
  have eS : (D.c 2 []).size = 1 := by simp only [D.size, D.sizeL]
  have eD : (D.c 2 []).depth = 1 := by simp only [D.depth, D.depthL]
  have nbE : ¬ big (sch 0 (D.c 2 [])) := by
    rw [sch_zero posE]
    rintro (c | c) <;> omega
  refine ⟨zz 3, fun p23 h23 => ?_⟩
  refine ⟨.ref p23, 0, _, rfl, .inr ⟨p23, _, _, rfl, upd_same, rfl, .inl ⟨rfl, rfl⟩⟩, by omega, by rw [gens_zero posE]; decide, fun hb => absurd hb nbE, fun _ H24 pa va S24 ha Ra => ?_⟩
  rw [gens_zero posE] at ha
  rw [sch_zero posE] at Ra
  refine ⟨zz 0, fun p25 h25 => ⟨zz 3, fun p26 h26 => ⟨zz 2, fun p27 h27 => ?_⟩⟩⟩
  have U1 := same_upd h25 (o := .tup [])
  have U2 := same_upd h26 (o := .tup [.str "c", .int 2, .ref p25])
  have U3 := same_upd h27 (o := .tup [.int 0, .ref p26])
  have U13 := U1.trans (U2.trans U3)
  have Rc : Rp K _ (.ref p26) (.c 2 []) := .c (.of (U3 _ _ upd_same)) (.of ((U2.trans U3) _ _ upd_same)) .nil
  refine ⟨prD 0 _, prD 0 _, prD_dp (U13 _ _ ha) (Ra.same U13), prD_dp upd_same Rc, prD_shaped (by omega), prD_shaped (by omega), ?_⟩
  rw [prD_self]
  exact q _
end
end Vs

set_option Elab.async false
set_option linter.all false
set_option maxRecDepth 100000
namespace Vs
open PySem PySem.Spec PyProof.Rows L2 RT StX
open C8 (pss_cut tCut)
theorem all_mk {l : PySem.W.OpenLaw} {w : World} {K : PySem.W.Frag} {h : Heap} {mg : Str → Option Value} {fa f1 f2 f3 f4 f5 f6 f7 f8 f9 f10 f11 f12 f13 f14 f15 f16 f17 f18 f19 f20 f21 : Addr} (X : K.In h) (G : h.Ns mainGlobals mg) (hfa : mg "law" = some (.ref fa))
    {od1 an1 od2 an2 od3 an3 od4 an4 od5 an5 od6 an6 od7 an7 od8 an8 od9 an9 od10 an10 od11 an11 od12 an12 od13 an13 od14 an14 od15 an15 od16 an16 od17 an17 od18 an18 od19 an19 od20 an20 od21 an21 : Option Addr} {sl1 sl2 sl3 sl4 sl5 sl6 sl7 sl8 sl9 sl10 sl11 sl12 sl13 sl14 sl15 sl16 sl17 sl18 sl19 sl20 sl21 : Array (Option Value)} {oc1 kV1 dc1 pm1 cd1 ct1 oc2 kV2 dc2 pm2 cd2 ct2 oc3 kV3 dc3 pm3 cd3 ct3 oc4 kV4 dc4 pm4 cd4 ct4 oc5 kV5 dc5 pm5 cd5 ct5 oc6 kV6 dc6 pm6 cd6 ct6 oc7 kV7 dc7 pm7 cd7 ct7 oc8 kV8 dc8 pm8 cd8 ct8 oc9 kV9 dc9 pm9 cd9 ct9 oc10 kV10 dc10 pm10 cd10 ct10 oc11 kV11 dc11 pm11 cd11 ct11 oc12 kV12 dc12 pm12 cd12 ct12 oc13 kV13 dc13 pm13 cd13 ct13 oc14 kV14 dc14 pm14 cd14 ct14 oc15 kV15 dc15 pm15 cd15 ct15 oc16 kV16 dc16 pm16 cd16 ct16 oc17 kV17 dc17 pm17 cd17 ct17 oc18 kV18 dc18 pm18 cd18 ct18 oc19 kV19 dc19 pm19 cd19 ct19 oc20 kV20 dc20 pm20 cd20 ct20 oc21 kV21 dc21 pm21 cd21 ct21 : Value}
    (a1 : PySem.W.nsIn K mainGlobals "parts_of_shape" = some (some (.ref f1))) (l1 : K.lookup f1 = some ⟨oc1, od1, .func (PySem.W.fnOf "parts_of_shape" "parts_of_shape" (defArgs sPartsOfShape) (defBody sPartsOfShape) (defScope sPartsOfShape) .none kV1 dc1 pm1 an1 cd1 ct1), sl1⟩) (c1 : PySem.W.codeIn K cd1 "parts_of_shape" = true) (k1 : PySem.W.keepIn K (.ref f1) = true)
    (a2 : PySem.W.nsIn K mainGlobals "with_parts" = some (some (.ref f2))) (l2 : K.lookup f2 = some ⟨oc2, od2, .func (PySem.W.fnOf "with_parts" "with_parts" (defArgs sWithParts) (defBody sWithParts) (defScope sWithParts) .none kV2 dc2 pm2 an2 cd2 ct2), sl2⟩) (c2 : PySem.W.codeIn K cd2 "with_parts" = true) (k2 : PySem.W.keepIn K (.ref f2) = true)
    (a3 : PySem.W.nsIn K mainGlobals "measures" = some (some (.ref f3))) (l3 : K.lookup f3 = some ⟨oc3, od3, .func (PySem.W.fnOf "measures" "measures" (defArgs sMeasures) (defBody sMeasures) (defScope sMeasures) .none kV3 dc3 pm3 an3 cd3 ct3), sl3⟩) (c3 : PySem.W.codeIn K cd3 "measures" = true) (k3 : PySem.W.keepIn K (.ref f3) = true)
    (a4 : PySem.W.nsIn K mainGlobals "variables" = some (some (.ref f4))) (l4 : K.lookup f4 = some ⟨oc4, od4, .func (PySem.W.fnOf "variables" "variables" (defArgs sVariables) (defBody sVariables) (defScope sVariables) .none kV4 dc4 pm4 an4 cd4 ct4), sl4⟩) (c4 : PySem.W.codeIn K cd4 "variables" = true) (k4 : PySem.W.keepIn K (.ref f4) = true)
    (a5 : PySem.W.nsIn K mainGlobals "substitute" = some (some (.ref f5))) (l5 : K.lookup f5 = some ⟨oc5, od5, .func (PySem.W.fnOf "substitute" "substitute" (defArgs sSubstitute) (defBody sSubstitute) (defScope sSubstitute) .none kV5 dc5 pm5 an5 cd5 ct5), sl5⟩) (c5 : PySem.W.codeIn K cd5 "substitute" = true) (k5 : PySem.W.keepIn K (.ref f5) = true)
    (a6 : PySem.W.nsIn K mainGlobals "check_result" = some (some (.ref f6))) (l6 : K.lookup f6 = some ⟨oc6, od6, .func (PySem.W.fnOf "check_result" "check_result" (defArgs sCheckResult) (defBody sCheckResult) (defScope sCheckResult) .none kV6 dc6 pm6 an6 cd6 ct6), sl6⟩) (c6 : PySem.W.codeIn K cd6 "check_result" = true) (k6 : PySem.W.keepIn K (.ref f6) = true)
    (a7 : PySem.W.nsIn K mainGlobals "replaced" = some (some (.ref f7))) (l7 : K.lookup f7 = some ⟨oc7, od7, .func (PySem.W.fnOf "replaced" "replaced" (defArgs sReplaced) (defBody sReplaced) (defScope sReplaced) .none kV7 dc7 pm7 an7 cd7 ct7), sl7⟩) (c7 : PySem.W.codeIn K cd7 "replaced" = true) (k7 : PySem.W.keepIn K (.ref f7) = true)
    (a8 : PySem.W.nsIn K mainGlobals "generalized" = some (some (.ref f8))) (l8 : K.lookup f8 = some ⟨oc8, od8, .func (PySem.W.fnOf "generalized" "generalized" (defArgs sGeneralized) (defBody sGeneralized) (defScope sGeneralized) .none kV8 dc8 pm8 an8 cd8 ct8), sl8⟩) (c8 : PySem.W.codeIn K cd8 "generalized" = true) (k8 : PySem.W.keepIn K (.ref f8) = true)
    (a9 : PySem.W.nsIn K mainGlobals "constructor_scheme" = some (some (.ref f9))) (l9 : K.lookup f9 = some ⟨oc9, od9, .func (PySem.W.fnOf "constructor_scheme" "constructor_scheme" (defArgs sConstructorScheme) (defBody sConstructorScheme) (defScope sConstructorScheme) .none kV9 dc9 pm9 an9 cd9 ct9), sl9⟩) (c9 : PySem.W.codeIn K cd9 "constructor_scheme" = true) (k9 : PySem.W.keepIn K (.ref f9) = true)
    (a10 : PySem.W.nsIn K mainGlobals "_law_tape" = some (some (.ref f10))) (l10 : K.lookup f10 = some ⟨oc10, od10, .func (PySem.W.fnOf "_law_tape" "_law_tape" (defArgs sLawTape) (defBody sLawTape) (defScope sLawTape) .none kV10 dc10 pm10 an10 cd10 ct10), sl10⟩) (c10 : PySem.W.codeIn K cd10 "_law_tape" = true) (k10 : PySem.W.keepIn K (.ref f10) = true)
    (a11 : PySem.W.nsIn K mainGlobals "_law_pick" = some (some (.ref f11))) (l11 : K.lookup f11 = some ⟨oc11, od11, .func (PySem.W.fnOf "_law_pick" "_law_pick" (defArgs sLawPick) (defBody sLawPick) (defScope sLawPick) .none kV11 dc11 pm11 an11 cd11 ct11), sl11⟩) (c11 : PySem.W.codeIn K cd11 "_law_pick" = true) (k11 : PySem.W.keepIn K (.ref f11) = true)
    (a12 : PySem.W.nsIn K mainGlobals "_law_leaf" = some (some (.ref f12))) (l12 : K.lookup f12 = some ⟨oc12, od12, .func (PySem.W.fnOf "_law_leaf" "_law_leaf" (defArgs sLawLeaf) (defBody sLawLeaf) (defScope sLawLeaf) .none kV12 dc12 pm12 an12 cd12 ct12), sl12⟩) (c12 : PySem.W.codeIn K cd12 "_law_leaf" = true) (k12 : PySem.W.keepIn K (.ref f12) = true)
    (a13 : PySem.W.nsIn K mainGlobals "_law_shape" = some (some (.ref f13))) (l13 : K.lookup f13 = some ⟨oc13, od13, .func (PySem.W.fnOf "_law_shape" "_law_shape" (defArgs sLawShape) (defBody sLawShape) (defScope sLawShape) .none kV13 dc13 pm13 an13 cd13 ct13), sl13⟩) (c13 : PySem.W.codeIn K cd13 "_law_shape" = true) (k13 : PySem.W.keepIn K (.ref f13) = true)
    (a14 : PySem.W.nsIn K mainGlobals "_law_parts" = some (some (.ref f14))) (l14 : K.lookup f14 = some ⟨oc14, od14, .func (PySem.W.fnOf "_law_parts" "_law_parts" (defArgs sLawParts) (defBody sLawParts) (defScope sLawParts) .none kV14 dc14 pm14 an14 cd14 ct14), sl14⟩) (c14 : PySem.W.codeIn K cd14 "_law_parts" = true) (k14 : PySem.W.keepIn K (.ref f14) = true)
    (a15 : PySem.W.nsIn K mainGlobals "_law_rebuilt" = some (some (.ref f15))) (l15 : K.lookup f15 = some ⟨oc15, od15, .func (PySem.W.fnOf "_law_rebuilt" "_law_rebuilt" (defArgs sLawRebuilt) (defBody sLawRebuilt) (defScope sLawRebuilt) .none kV15 dc15 pm15 an15 cd15 ct15), sl15⟩) (c15 : PySem.W.codeIn K cd15 "_law_rebuilt" = true) (k15 : PySem.W.keepIn K (.ref f15) = true)
    (a16 : PySem.W.nsIn K mainGlobals "_law_apply" = some (some (.ref f16))) (l16 : K.lookup f16 = some ⟨oc16, od16, .func (PySem.W.fnOf "_law_apply" "_law_apply" (defArgs sLawApply) (defBody sLawApply) (defScope sLawApply) .none kV16 dc16 pm16 an16 cd16 ct16), sl16⟩) (c16 : PySem.W.codeIn K cd16 "_law_apply" = true) (k16 : PySem.W.keepIn K (.ref f16) = true)
    (a17 : PySem.W.nsIn K mainGlobals "_law_variables" = some (some (.ref f17))) (l17 : K.lookup f17 = some ⟨oc17, od17, .func (PySem.W.fnOf "_law_variables" "_law_variables" (defArgs sLawVariables) (defBody sLawVariables) (defScope sLawVariables) .none kV17 dc17 pm17 an17 cd17 ct17), sl17⟩) (c17 : PySem.W.codeIn K cd17 "_law_variables" = true) (k17 : PySem.W.keepIn K (.ref f17) = true)
    (a18 : PySem.W.nsIn K mainGlobals "_law_due" = some (some (.ref f18))) (l18 : K.lookup f18 = some ⟨oc18, od18, .func (PySem.W.fnOf "_law_due" "_law_due" (defArgs sLawDue) (defBody sLawDue) (defScope sLawDue) .none kV18 dc18 pm18 an18 cd18 ct18), sl18⟩) (c18 : PySem.W.codeIn K cd18 "_law_due" = true) (k18 : PySem.W.keepIn K (.ref f18) = true)
    (a19 : PySem.W.nsIn K mainGlobals "_law_scheme" = some (some (.ref f19))) (l19 : K.lookup f19 = some ⟨oc19, od19, .func (PySem.W.fnOf "_law_scheme" "_law_scheme" (defArgs sLawScheme) (defBody sLawScheme) (defScope sLawScheme) .none kV19 dc19 pm19 an19 cd19 ct19), sl19⟩) (c19 : PySem.W.codeIn K cd19 "_law_scheme" = true) (k19 : PySem.W.keepIn K (.ref f19) = true)
    (a20 : PySem.W.nsIn K mainGlobals "_law_deep" = some (some (.ref f20))) (l20 : K.lookup f20 = some ⟨oc20, od20, .func (PySem.W.fnOf "_law_deep" "_law_deep" (defArgs sLawDeep) (defBody sLawDeep) (defScope sLawDeep) .none kV20 dc20 pm20 an20 cd20 ct20), sl20⟩) (c20 : PySem.W.codeIn K cd20 "_law_deep" = true) (k20 : PySem.W.keepIn K (.ref f20) = true)
    (a21 : PySem.W.nsIn K mainGlobals "law" = some (some (.ref f21))) (l21 : K.lookup f21 = some ⟨oc21, od21, .func (PySem.W.fnOf "law" "law" (defArgs sLaw) (defBody sLaw) (defScope sLaw) .none kV21 dc21 pm21 an21 cd21 ct21), sl21⟩) (c21 : PySem.W.codeIn K cd21 "law" = true) (k21 : PySem.W.keepIn K (.ref f21) = true)
    (z1 : PySem.W.nsIn K mainGlobals "abs" = some none) (z2 : PySem.W.nsIn K mainGlobals "max" = some none) (z3 : PySem.W.nsIn K mainGlobals "len" = some none) (z4 : PySem.W.nsIn K mainGlobals "range" = some none) (z5 : PySem.W.nsIn K mainGlobals "int" = some none) (z6 : PySem.W.nsIn K mainGlobals "tuple" = some none) (z7 : PySem.W.nsIn K mainGlobals "enumerate" = some none)
    {C ax aq : Addr} {u1 u2 : Tok} {ot1 ot2 : Option Addr} {t1 t2 : Tok} {n1 n2 : Nat} {sA sB : Array (Option Value)} (y1 : PySem.W.nsIn K mainGlobals "TooLarge" = some (some (.ref C))) (y2 : PySem.W.excIn K C [.type "ValueError", .type "Exception", .type "BaseException", .type "object"] "ValueError.__new__" = true) (y3 : PySem.W.keepIn K (.ref C) = true) (y4 : PySem.W.subIn K (.ref C) (.type "BaseException") = some true)
    (y5 : PySem.W.typeIn K (.ref C) = some (.type "type")) (y6 : PySem.W.isClsIn K C = true) (y7 : PySem.W.subIn K (.ref C) (.ref C) = some true) (y8 : PySem.W.nsIn K mainGlobals "MAX_SIZE" = some (some (.int 2000 u1))) (y9 : PySem.W.nsIn K mainGlobals "MAX_DEPTH" = some (some (.int 100 u2)))
    (y10 : PySem.W.nsIn K mainGlobals "EXN" = some (some (.ref ax))) (y11 : K.lookup ax = some ⟨.type "tuple", ot1, .seq #[.str "c" t1, .int 2 t2, .ref aq] n1, sA⟩) (y12 : K.lookup aq = some ⟨.type "tuple", ot2, .seq #[] n2, sB⟩)
    : ∃ fd : FuncData, (∀ (s : Shared) (v : Value), BindsTo s fd ⟨[v], []⟩ [("script", v)]) ∧ ∀ base : Heap, K.In base → base.Ns mainGlobals mg → FnOk l.prog w K mg base CX0 107 fa fd ["script"] (spLaw K) := by
  have e := hfa.symm.trans (PySem.W.mg_of X G a21)
  cases e
  have F1 := fun_mk (st := sPartsOfShape) l1 c1 k1
  have b1 := F1.binds (ps := ["shape"]) fun _ _ _ _ _ _ us hl => match us, hl with | [_], _ => rfl
  have g1 := PySem.W.mg_of X G a1
  have F2 := fun_mk (st := sWithParts) l2 c2 k2
  have b2 := F2.binds (ps := ["shape", "parts"]) fun _ _ _ _ _ _ us hl => match us, hl with | [_, _], _ => rfl
  have g2 := PySem.W.mg_of X G a2
  have F3 := fun_mk (st := sMeasures) l3 c3 k3
  have b3 := F3.binds (ps := ["shape"]) fun _ _ _ _ _ _ us hl => match us, hl with | [_], _ => rfl
  have g3 := PySem.W.mg_of X G a3
  have F4 := fun_mk (st := sVariables) l4 c4 k4
  have b4 := F4.binds (ps := ["shape"]) fun _ _ _ _ _ _ us hl => match us, hl with | [_], _ => rfl
  have g4 := PySem.W.mg_of X G a4
  have F5 := fun_mk (st := sSubstitute) l5 c5 k5
  have b5 := F5.binds (ps := ["shape", "mapping"]) fun _ _ _ _ _ _ us hl => match us, hl with | [_, _], _ => rfl
  have g5 := PySem.W.mg_of X G a5
  have F6 := fun_mk (st := sCheckResult) l6 c6 k6
  have b6 := F6.binds (ps := ["shape", "mapping"]) fun _ _ _ _ _ _ us hl => match us, hl with | [_, _], _ => rfl
  have g6 := PySem.W.mg_of X G a6
  have F7 := fun_mk (st := sReplaced) l7 c7 k7
  have b7 := F7.binds (ps := ["shape", "mapping"]) fun _ _ _ _ _ _ us hl => match us, hl with | [_, _], _ => rfl
  have g7 := PySem.W.mg_of X G a7
  have F8 := fun_mk (st := sGeneralized) l8 c8 k8
  have b8 := F8.binds (ps := ["shape", "numbers"]) fun _ _ _ _ _ _ us hl => match us, hl with | [_, _], _ => rfl
  have g8 := PySem.W.mg_of X G a8
  have F9 := fun_mk (st := sConstructorScheme) l9 c9 k9
  have b9 := F9.binds (ps := ["entry"]) fun _ _ _ _ _ _ us hl => match us, hl with | [_], _ => rfl
  have g9 := PySem.W.mg_of X G a9
  have F10 := fun_mk (st := sLawTape) l10 c10 k10
  have b10 := F10.binds (ps := ["script", "many"]) fun _ _ _ _ _ _ us hl => match us, hl with | [_, _], _ => rfl
  have g10 := PySem.W.mg_of X G a10
  have F11 := fun_mk (st := sLawPick) l11 c11 k11
  have b11 := F11.binds (ps := ["tape", "at", "many"]) fun _ _ _ _ _ _ us hl => match us, hl with | [_, _, _], _ => rfl
  have g11 := PySem.W.mg_of X G a11
  have F12 := fun_mk (st := sLawLeaf) l12 c12 k12
  have b12 := F12.binds (ps := ["tape", "at", "free"]) fun _ _ _ _ _ _ us hl => match us, hl with | [_, _, _], _ => rfl
  have g12 := PySem.W.mg_of X G a12
  have F13 := fun_mk (st := sLawShape) l13 c13 k13
  have b13 := F13.binds (ps := ["tape", "at", "level", "free"]) fun _ _ _ _ _ _ us hl => match us, hl with | [_, _, _, _], _ => rfl
  have g13 := PySem.W.mg_of X G a13
  have F14 := fun_mk (st := sLawParts) l14 c14 k14
  have b14 := F14.binds (ps := ["shape"]) fun _ _ _ _ _ _ us hl => match us, hl with | [_], _ => rfl
  have g14 := PySem.W.mg_of X G a14
  have F15 := fun_mk (st := sLawRebuilt) l15 c15 k15
  have b15 := F15.binds (ps := ["shape", "parts"]) fun _ _ _ _ _ _ us hl => match us, hl with | [_, _], _ => rfl
  have g15 := PySem.W.mg_of X G a15
  have F16 := fun_mk (st := sLawApply) l16 c16 k16
  have b16 := F16.binds (ps := ["shape", "pairs"]) fun _ _ _ _ _ _ us hl => match us, hl with | [_, _], _ => rfl
  have g16 := PySem.W.mg_of X G a16
  have F17 := fun_mk (st := sLawVariables) l17 c17 k17
  have b17 := F17.binds (ps := ["shape", "found"]) fun _ _ _ _ _ _ us hl => match us, hl with | [_, _], _ => rfl
  have g17 := PySem.W.mg_of X G a17
  have F18 := fun_mk (st := sLawDue) l18 c18 k18
  have b18 := F18.binds (ps := ["shape"]) fun _ _ _ _ _ _ us hl => match us, hl with | [_], _ => rfl
  have g18 := PySem.W.mg_of X G a18
  have F19 := fun_mk (st := sLawScheme) l19 c19 k19
  have b19 := F19.binds (ps := ["entry"]) fun _ _ _ _ _ _ us hl => match us, hl with | [_], _ => rfl
  have g19 := PySem.W.mg_of X G a19
  have F20 := fun_mk (st := sLawDeep) l20 c20 k20
  have b20 := F20.binds (ps := ["tape"]) fun _ _ _ _ _ _ us hl => match us, hl with | [_], _ => rfl
  have g20 := PySem.W.mg_of X G a20
  have F21 := fun_mk (st := sLaw) l21 c21 k21
  have m_abs := PySem.W.mg_none_of X G z1
  have m_max := PySem.W.mg_none_of X G z2
  have m_len := PySem.W.mg_none_of X G z3
  have m_range := PySem.W.mg_none_of X G z4
  have m_int := PySem.W.mg_none_of X G z5
  have m_tuple := PySem.W.mg_none_of X G z6
  have m_enumerate := PySem.W.mg_none_of X G z7
  refine ⟨PySem.W.fnOf "law" "law" (defArgs sLaw) (defBody sLaw) (defScope sLaw) .none kV21 dc21 pm21 an21 cd21 ct21, fun s v => .of_eq rfl, fun base _ _ => ?_⟩
  have T : ExcT K mg "TooLarge" C := ⟨PySem.W.mg_of X G y1, y2, y3, y4, y5, y6, y7⟩
  have hEX : ∀ H, Rp K H (.ref ax) (.c 2 []) := fun H => .c (.inr ⟨_, _, _, y11, rfl, rfl, by show 3 ≤ sizeLine; exact zz 3, .cons ⟨_, rfl⟩ (.cons ⟨_, rfl⟩ (.cons rfl .nil))⟩) (.inr ⟨_, _, _, y12, rfl, rfl, by show 0 ≤ sizeLine; exact zz 0, .nil⟩) .nil
  have Oq : Own l.prog w K mg base CX0 1 "parts_of_shape" _ _ ["shape"] (spParts K) := ⟨ok_parts (k := 0) F1, b1, F1.kp, g1⟩
  have Ow : Own l.prog w K mg base CX0 1 "with_parts" _ _ ["shape", "parts"] (spWith K) := ⟨ok_with (k := 0) F2 m_tuple, b2, F2.kp, g2⟩
  have Om : Own l.prog w K mg base CX0 2 "measures" _ _ ["shape"] (spMeas K) := ⟨ok_meas F3 Oq m_max, b3, F3.kp, g3⟩
  have Oq2 : Own l.prog w K mg base CX0 2 "parts_of_shape" _ _ ["shape"] (spParts K) := ⟨ok_parts (k := 1) F1, b1, F1.kp, g1⟩
  have Oc : Own l.prog w K mg base (L2.CX l.prog w) 3 "check_result" _ _ ["shape", "mapping"] (spCheck K C) := ⟨ok_check F6 Oq2 Om T (PySem.W.mg_of X G y8) (PySem.W.mg_of X G y9), b6, F6.kp, g6⟩
  have Orp : Own l.prog w K mg base CX0 101 "replaced" _ _ ["shape", "mapping"] (spRepl K 100) := ⟨repl_all F7 b7 g7 Oq Ow 100, b7, F7.kp, g7⟩
  have Ou : Own l.prog w K mg base (L2.CX l.prog w) 102 "substitute" _ _ ["shape", "mapping"] (spSubst K C) := ⟨ok_subst F5 Oc (by decide) Orp, b5, F5.kp, g5⟩
  have Ov : Own l.prog w K mg base CX0 2 "variables" _ _ ["shape"] (spVars K) := ⟨ok_vars F4 Oq m_tuple, b4, F4.kp, g4⟩
  have Og : Own l.prog w K mg base (L2.CX l.prog w) 103 "generalized" _ _ ["shape", "numbers"] (spGen K C) := ⟨ok_gen F8 Ou m_enumerate m_len, b8, F8.kp, g8⟩
  have Ocs : Own l.prog w K mg base (L2.CX l.prog w) 104 "constructor_scheme" _ _ ["entry"] (spCs K C) := ⟨ok_cs F9 Og Ov (PySem.W.mg_of X G y10) hEX, b9, F9.kp, g9⟩
  have Ot : Own l.prog w K mg base CX0 1 "_law_tape" _ _ ["script", "many"] (spTape K) := ⟨ok_tape (k := 0) F10 m_abs m_max m_len m_range m_int, b10, F10.kp, g10⟩
  have Op : Own l.prog w K mg base CX0 1 "_law_pick" _ _ ["tape", "at", "many"] (spPick K) := ⟨ok_pick (k := 0) F11 m_int m_len, b11, F11.kp, g11⟩
  have Ol : Own l.prog w K mg base CX0 2 "_law_leaf" _ _ ["tape", "at", "free"] (spLeaf K) := ⟨ok_leaf F12 Op m_len, b12, F12.kp, g12⟩
  have Os : Own l.prog w K mg base CX0 6 "_law_shape" _ _ ["tape", "at", "level", "free"] (spShape K 4) := ⟨shape_all F13 b13 g13 Op Ol m_range m_tuple 4, b13, F13.kp, g13⟩
  have Olp : Own l.prog w K mg base CX0 1 "_law_parts" _ _ ["shape"] (spParts K) := ⟨ok_lparts (k := 0) F14, b14, F14.kp, g14⟩
  have Olr : Own l.prog w K mg base CX0 1 "_law_rebuilt" _ _ ["shape", "parts"] (spWith K) := ⟨ok_lreb (k := 0) F15 m_tuple, b15, F15.kp, g15⟩
  have Oa : Own l.prog w K mg base CX0 11 "_law_apply" _ _ ["shape", "pairs"] (spApply K 10) := ⟨apply_all F16 b16 g16 Olp Olr 10, b16, F16.kp, g16⟩
  have Olv : Own l.prog w K mg base CX0 11 "_law_variables" _ _ ["shape", "found"] (spLv K 10) := ⟨lv_all F17 b17 g17 Olp 10, b17, F17.kp, g17⟩
  have Odu : Own l.prog w K mg base CX0 12 "_law_due" _ _ ["shape"] (spDue K) := ⟨ok_due F18 Olv Oa m_len, b18, F18.kp, g18⟩
  have Ols : Own l.prog w K mg base CX0 105 "_law_scheme" _ _ ["entry"] (spLs K) := ⟨ok_ls F19 T Ocs, b19, F19.kp, g19⟩
  have Ode : Own l.prog w K mg base CX0 106 "_law_deep" _ _ ["tape"] (spDeep K) := ⟨ok_deep F20 Op Ols m_range, b20, F20.kp, g20⟩
  exact ok_law F21 Ot Op Ode Os Ols Odu m_range m_tuple
end Vs
open PySem PySem.W PyProof.Rows
set_option maxHeartbeats 0 in
theorem PySem.Challenge.cw_shapewright_k25_schemes_of_constructors_holds : PySem.Challenge.rw_shapewright_k25_schemes_of_constructors.Holds := by
  w_on; o_law; k_head; (case hw => w_witness2)
  k_fill
  refine L2.walk_of (l := PySem.Challenge.rw_shapewright_k25_schemes_of_constructors) (n := 63) (k := 107) (x := "script") (CX := fun _ => L2.CX0) (sp := fun w => Vs.spLaw _) rfl (by decide) rfl ⟨rfl, by decide, by decide⟩ (fun w h Y => PySem.W.kIn_of Y) ?F (fun _ _ a ns hl _ hS => ⟨a, ns, rfl, hS, hl, fun _ => rfl⟩) (fun _ _ _ _ _ h => h)
  case F =>
    intro w mg fa h KX G hmg
    refine' Vs.all_mk KX G hmg ?a1 ?l1 ?c1 ?k1 ?a2 ?l2 ?c2 ?k2 ?a3 ?l3 ?c3 ?k3 ?a4 ?l4 ?c4 ?k4 ?a5 ?l5 ?c5 ?k5 ?a6 ?l6 ?c6 ?k6 ?a7 ?l7 ?c7 ?k7 ?a8 ?l8 ?c8 ?k8 ?a9 ?l9 ?c9 ?k9 ?a10 ?l10 ?c10 ?k10 ?a11 ?l11 ?c11 ?k11 ?a12 ?l12 ?c12 ?k12 ?a13 ?l13 ?c13 ?k13 ?a14 ?l14 ?c14 ?k14 ?a15 ?l15 ?c15 ?k15 ?a16 ?l16 ?c16 ?k16 ?a17 ?l17 ?c17 ?k17 ?a18 ?l18 ?c18 ?k18 ?a19 ?l19 ?c19 ?k19 ?a20 ?l20 ?c20 ?k20 ?a21 ?l21 ?c21 ?k21 ?z1 ?z2 ?z3 ?z4 ?z5 ?z6 ?z7 ?y1 ?y2 ?y3 ?y4 ?y5 ?y6 ?y7 ?y8 ?y9 ?y10 ?y11 ?y12
    (case a1 => k_is)
    (case l1 => k_is)
    (case c1 => k_is)
    (case k1 => k_is)
    (case a2 => k_is)
    (case l2 => k_is)
    (case c2 => k_is)
    (case k2 => k_is)
    (case a3 => k_is)
    (case l3 => k_is)
    (case c3 => k_is)
    (case k3 => k_is)
    (case a4 => k_is)
    (case l4 => k_is)
    (case c4 => k_is)
    (case k4 => k_is)
    (case a5 => k_is)
    (case l5 => k_is)
    (case c5 => k_is)
    (case k5 => k_is)
    (case a6 => k_is)
    (case l6 => k_is)
    (case c6 => k_is)
    (case k6 => k_is)
    (case a7 => k_is)
    (case l7 => k_is)
    (case c7 => k_is)
    (case k7 => k_is)
    (case a8 => k_is)
    (case l8 => k_is)
    (case c8 => k_is)
    (case k8 => k_is)
    (case a9 => k_is)
    (case l9 => k_is)
    (case c9 => k_is)
    (case k9 => k_is)
    (case a10 => k_is)
    (case l10 => k_is)
    (case c10 => k_is)
    (case k10 => k_is)
    (case a11 => k_is)
    (case l11 => k_is)
    (case c11 => k_is)
    (case k11 => k_is)
    (case a12 => k_is)
    (case l12 => k_is)
    (case c12 => k_is)
    (case k12 => k_is)
    (case a13 => k_is)
    (case l13 => k_is)
    (case c13 => k_is)
    (case k13 => k_is)
    (case a14 => k_is)
    (case l14 => k_is)
    (case c14 => k_is)
    (case k14 => k_is)
    (case a15 => k_is)
    (case l15 => k_is)
    (case c15 => k_is)
    (case k15 => k_is)
    (case a16 => k_is)
    (case l16 => k_is)
    (case c16 => k_is)
    (case k16 => k_is)
    (case a17 => k_is)
    (case l17 => k_is)
    (case c17 => k_is)
    (case k17 => k_is)
    (case a18 => k_is)
    (case l18 => k_is)
    (case c18 => k_is)
    (case k18 => k_is)
    (case a19 => k_is)
    (case l19 => k_is)
    (case c19 => k_is)
    (case k19 => k_is)
    (case a20 => k_is)
    (case l20 => k_is)
    (case c20 => k_is)
    (case k20 => k_is)
    (case a21 => k_is)
    (case l21 => k_is)
    (case c21 => k_is)
    (case k21 => k_is)
    (case z1 => k_is)
    (case z2 => k_is)
    (case z3 => k_is)
    (case z4 => k_is)
    (case z5 => k_is)
    (case z6 => k_is)
    (case z7 => k_is)
    (case y1 => k_is)
    (case y2 => first | k_exc | k_is)
    (case y3 => k_is)
    (case y4 => k_is)
    (case y5 => k_is)
    (case y6 => k_is)
    (case y7 => first | rfl | k_is)
    (case y8 => k_is)
    (case y9 => k_is)
    (case y10 => k_is)
    (case y11 => k_is)
    (case y12 => k_is)
