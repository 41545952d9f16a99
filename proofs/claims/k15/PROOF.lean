import PyProof.Rows.All
import Wide.All
import OpenK.AllK
import Wide.FinOn
import HandS.ForMost
import HandS.ForExc
import HandS.Rev
import HandS.TupAny
import HandS.More
import HandS.Star
import HandS.Codes
import HandS.DictComp
import HandS.SetKeys
import HandS.Zip
import HandS.IsInst
import HandS.Style
import KE.GoesMore
import PySem.Challenge.RW_shapewright_k15_order_of_generality

set_option Elab.async false
set_option linter.all false
set_option maxRecDepth 100000
/-! Rules of my own: xs.extend(a tuple); t[::-1] of a tuple; tuple(a dict). -/
namespace Vr
open PySem PySem.Spec PyProof.Rows L2
theorem ext_meets (l : Addr) (xs : Array Value) (n : Nat) (b : Addr) (ys : Array Value) (m : Nat) (dd : Option Addr) (sl : Array (Option Value)) (h0 : ¬(!xs.isEmpty && Builtin.List.listTooLong (xs.size + ys.size)) = true) (h1 : xs.size ≤ sizeLine) (h2 : xs.size + ys.size ≤ sizeLine + 1) :
    Meets (Builtin.«list.extend» ⟨[.ref l, .ref b], []⟩) (fun _ R s => s.heap.get? l = some { cls := .type "list", dict := none, data := .seq xs n, slots := #[] } ∧ s.heap.get? b = some { cls := .type "tuple", dict := dd, data := .seq ys m, slots := sl } ∧
      R (.ok (.ret Value.none)) { s with heap := s.heap.update l (Obj.mapSeq fun x => x ++ ys), toks := s.toks }) :=
  .of_wp fun prog w A R s h => by
    obtain ⟨hp, g, d, tk, os⟩ := s
    obtain ⟨hl, hb, h⟩ := h
    have f1 := AutoSeq1.idx_int
    have f2 := AutoSeq1.sub_tuple_tuple
    have f3 := AutoSeq1.sub_list_list
    have f4 := AutoSeq1.sub_tuple_list
    have f5 := AutoSeq1.sub_list_tuple
    have hz : (xs ++ ys).size ≤ sizeLine + 1 := by
      rw [Array.size_append]
      exact h2
    wp_walk using (wpAny_updateSeq hl rfl (hz := h1) (_hz' := hz)), AutoSeq1.wpAny_loadPart' hl, AutoSeq1.wpAny_loadPart' hb
    exact ⟨_, rfl, h⟩
section
variable {X : Cx}
def rExtT (K : PySem.W.Frag) : V → List V → Hp → VK → Prop := fun x vs H Q => ∃ l b xs zs, x = .ref l ∧ vs = [.ref b] ∧ H l = some (.lst xs) ∧ SqT K H b zs ∧ xs.length + zs.length ≤ sizeLine ∧ Q .non (upd H l (.lst (xs ++ zs)))
theorem mt_extendT : MtM X "list.extend" (rExtT X.K) := by
  intro pins s σ H x vs v us Q I rx rv h
  obtain ⟨l, b, xs, zs, rfl, rfl, hH, hB, hz, q⟩ := h
  cases rx
  obtain ⟨u, rfl, ru⟩ := rv.one
  cases ru
  obtain ⟨z, its, n, r, hl, e⟩ := I.lstM hH
  obtain ⟨its2, r2, ht2, z2⟩ := I.tuple hB
  have len1 := r.length
  have len2 := r2.length
  obtain ⟨o2, ho2, hc2, n2, hd2⟩ := id ht2
  obtain ⟨c2, dd2, da2, sl2⟩ := o2
  simp only at hc2 hd2
  subst hc2 hd2
  have total : its.toArray.size + its2.toArray.size ≤ sizeLine := by
    rw [List.size_toArray, List.size_toArray]
    omega
  have short : ¬ (!its.toArray.isEmpty && Builtin.List.listTooLong (its.toArray.size + its2.toArray.size)) = true := by
    rw [notLongL total, Bool.and_false]
    exact Bool.false_ne_true
  refine call_meets PySem.F.slot_list_extend ⟨_, e, rfl⟩ PySem.F.entry_list_extend (PySem.F.args_list_extend_2 _ _)
    (ext_meets l its.toArray n b its2.toArray n2 dd2 sl2 short (by rw [List.size_toArray]; omega) (by omega)) ⟨e, ho2, ?_⟩
  refine ⟨.non, _, I.lset (its' := its ++ its2) hH e (by simp) (r.append r2) ?_, rfl, q⟩
  rw [List.length_append]
  omega
end

/-! ### t[::-1] -/
section
variable {prog : Program} {w : World} {A : Around} {E : Value → Shared → Prop} {s : Shared}
theorem applied_back {sl : Addr} {vl vu vs : Value} {n : Nat} {Q : Int × Int × Nat → Shared → Prop} (hs : s.heap.IsSliceOf sl vl vu vs) (pl : IsPart vl none) (pu : IsPart vu none) (ps : IsPart vs (some (-1)))
    (h : Q ((n : Int) - 1, -1, n) s) : wpAny (model prog w) A (Builtin.Slice.sliceApplied (.ref sl) (pure (n : Int))) Q E s := by
  obtain ⟨os, hos, hcs, hds⟩ := id hs
  unfold Builtin.Slice.sliceApplied Builtin.Slice.sliceFields
  refine wpAny_bind (wpAny_bind (wpAny_field hos hds (x := vl) rfl (wpAny_bind (wpAny_field hos hds (x := vu) rfl (wpAny_bind (wpAny_field hos hds (x := vs) rfl (wpAny_pure ?_)))))))
  refine wpAny_bind (HT.slicePart_ ps ?_)
  show wpAny _ _ (if ((-1 : Int) == 0) = true then _ else _) _ _ s
  rw [if_neg (by decide)]
  refine wpAny_bind (HT.slicePart_ pl (wpAny_bind (HT.slicePart_ pu (wpAny_bind (wpAny_pure ?_)))))
  have e : Builtin.Slice.slicePlaces ((n : Int) - 1) (-1) (-1) = n := by
    unfold Builtin.Slice.slicePlaces
    rw [if_neg (by decide)]
    by_cases c : (n : Int) - 1 > -1
    · rw [if_pos c, show -(-1 : Int) = 1 by decide, Int.ediv_one]
      omega
    · rw [if_neg c]
      omega
  show wpAny _ _ (pure ((n : Int) - 1, (-1 : Int), Builtin.Slice.slicePlaces ((n : Int) - 1) (-1) (-1))) _ _ s
  rw [e]
  exact wpAny_pure h
theorem fm_congr {α β : Type} {f g : α → Option β} : ∀ {l : List α}, (∀ x ∈ l, f x = g x) → l.filterMap f = l.filterMap g
  | [], _ => rfl
  | x :: r, h => by
    rw [List.filterMap_cons, List.filterMap_cons, h x List.mem_cons_self, fm_congr fun y hy => h y (List.mem_cons_of_mem _ hy)]
theorem pick_back (xs : Array Value) : ((List.range xs.size).filterMap fun (m : Nat) => xs[((xs.size : Int) - 1 + (m : Int) * -1).toNat]?).toArray = xs.toList.reverse.toArray := by
  have e := PySem.W.krv_pick xs
  unfold slicePick at e
  rw [PySem.W.krv_bounds] at e
  have e2 : ((sliceRange ((xs.size : Int) - 1) (-1) (-1)).filterMap (xs[·]?)).toArray = xs.toList.reverse.toArray := e
  rw [PySem.W.krv_sliceRange, List.filterMap_map] at e2
  rw [← e2]
  refine congrArg List.toArray (fm_congr fun m hm => ?_)
  have := List.mem_range.mp hm
  show xs[((xs.size : Int) - 1 + (m : Int) * -1).toNat]? = xs[xs.size - 1 - m]?
  rw [show ((xs.size : Int) - 1 + (m : Int) * -1).toNat = xs.size - 1 - m by omega]
theorem item_back {t sl : Addr} {items : Array Value} {vl vu vs : Value} {Q : Value → Shared → Prop} (ht : IsTup s.heap t items) (hs : s.heap.IsSliceOf sl vl vu vs) (pl : IsPart vl none) (pu : IsPart vu none) (ps : IsPart vs (some (-1)))
    (h : Q (.ref s.heap.objs.size) { s with heap := s.heap.push { cls := .type "tuple", data := .seq items.toList.reverse.toArray } }) (hsz : items.size ≤ sizeLine) : wpAny (model prog w) A (getItem (.ref t) (.ref sl)) Q E s := by
  have htake : sizeOk (.seq items.toList.reverse.toArray) := by
    show items.toList.reverse.toArray.size ≤ sizeLine
    rw [List.size_toArray, List.length_reverse, Array.length_toList]
    exact hsz
  obtain ⟨os, hos, hcs, hds⟩ := id hs
  have hTs : s.TypeIs (.ref sl) "slice" := ⟨os, hos, hcs⟩
  unfold getItem
  try with_reducible refine wpAny_holding ?_
  first | refine wpAny_bind (wpAny_pure ?_) | skip
  refine wpAny_bind (wpAny_sequenceKey ht.typeIs (by decide) ?_)
  refine wpAny_bind (wpAny_callSpecial?_slot (name := Str.ofString "__getitem__") ht.typeIs PyProof.Rows.slot_tuple_getitem
    (wpAny_call_entry PyProof.Rows.slot_tuple_getitem ht.typeIs entry_tuple_getitem ?_ (args_tuple_getitem _ _)))
  show wpAny _ _ (Builtin.Tuple.tupleItemsOf (.ref t) >>= _) _ _ s
  refine wpAny_bind (tupleItemsOf_ ht ?_)
  refine wpAny_bind (wpAny_typeOf hTs ?_)
  rw [if_pos (by decide)]
  refine wpAny_bind (applied_back hs pl pu ps ?_)
  have hno : ¬ ((((items.size : Int) - 1) == 0 && (-1 : Int) == 1 && items.size == items.size) = true) := by
    intro q
    rw [Bool.and_eq_true, Bool.and_eq_true] at q
    exact absurd q.1.2 (by decide)
  show wpAny _ _ (if (((items.size : Int) - 1) == 0 && (-1 : Int) == 1 && items.size == items.size) = true then _ else _) _ _ s
  rw [if_neg hno, pick_back]
  first
    | exact wpAny_bind (m := Builtin.Tuple.tupleExact _) (wpAny_newObj_type (wpAny_pure ⟨_, rfl, wpAny_pure h⟩) htake)
    | exact wpAny_bind (m := Builtin.Tuple.tupleExact _) (wpAny_newObj_type (wpAny_bind (wpAny_pure (wpAny_pure ⟨_, rfl, wpAny_pure h⟩))) htake)
end
def tRevT (K : PySem.W.Frag) (te : TE) : TE := fun σ H Q => te σ H fun x H1 => ∃ a xs, x = .ref a ∧ SqT K H1 a xs ∧ ∀ p, H1 p = none → Q (.ref p) (upd H1 p (.tup xs.reverse))
section
variable {X : Cx}
theorem pe_revT {e : Expr} {te : TE} {k : Nat} {p1 p2 p3 pos : Pos} (he : PE X e te) : PE X (.Subscript e (.Slice none none (some (.UnaryOp .USub (.Constant (.int 1) k p1) p2)) p3) pos) (tRevT X.K te) := by
  refine ⟨fun pins s σ H Q I h => ?_⟩
  refine Subscript_ (thn (he.run pins s σ H _ I h) fun v s1 ⟨x, H1, I1, r1, q1⟩ => ?_)
  obtain ⟨a, xs, ex, hx, q⟩ := q1
  subst ex
  cases r1
  have hst : PO X (some (.UnaryOp .USub (.Constant (.int 1) k p1) p2)) (tPart (tUn (rU fun i => .int (-i)) (tC (.int 1)))) := po_some (pe_un un_neg pe_int)
  refine wpAny_Slice (thn (po_none.run pins s1 σ H1 (fun o H2 => o = none ∧ H2 = H1) I1 ⟨rfl, rfl⟩) fun vl s2 ⟨l, H2, I2, pl, el, e2⟩ => ?_)
  subst el e2
  refine thn (po_none.run pins s2 σ H2 (fun o H3 => o = none ∧ H3 = H2) I2 ⟨rfl, rfl⟩) fun vu s3 ⟨u, H3, I3, pu, eu, e3⟩ => ?_
  subst eu e3
  refine thn (hst.run pins s3 σ H3 (fun o H4 => o = some (-1) ∧ H4 = H3) I3 ⟨1, rfl, -1, rfl, rfl, rfl⟩) fun vs s4 ⟨o, H4, I4, ps, eo, e4⟩ => ?_
  subst eo e4
  have I5 : Inv X pins σ H4 { s4 with heap := s4.heap.push { cls := .type "slice", data := .fields #[vl, vu, vs] } } := I4.kept (t' := s4.toks) fun b ob q => Heap.get?_push_of_some _ q
  obtain ⟨its, r, ht, hz⟩ := I5.tuple hx
  have hlen := r.length
  show wpAny (model X.prog X.w) X.A (subscriptTail e (.Slice none none (some (.UnaryOp .USub (.Constant (.int 1) k p1) p2)) p3) (.ref a) (.ref s4.heap.objs.size)) (EP X pins σ Q) X.xe { s4 with heap := s4.heap.push { cls := .type "slice", data := .fields #[vl, vu, vs] } }
  refine tail_any (ops := [.ref a, .ref s4.heap.objs.size]) ht.typeIs (PyProof.Rows.slot_tuple_getitem.lookup) ?_ (by with_unfolding_all rfl)
  refine item_back ht (Heap.IsSliceOf.new _ vl vu vs) pl pu ps ?_ (by rw [List.size_toArray]; omega)
  refine ⟨.ref _, _, I5.laid (t' := s4.toks) (o := .tup xs.reverse) (fun b ob q => Heap.get?_push_of_some _ q) (Nat.le_refl _) ?_, rfl, q _ (I5.hok.fresh (Nat.le_refl _))⟩
  exact ⟨by rw [List.length_reverse]; exact hz, its.reverse, r.reverse, IsTup.new _ _⟩
end

/-! ### tuple(d) of a dict: its keys -/
section
variable {prog : Program} {w : World} {A : Around} {E : Value → Shared → Prop} {s : Shared} {T : String} {r d : Addr} {n : Nat} {P : Nat → Value → Prop} {OK : Heap → Prop}
open PySem.W in
theorem collect_src {Q : List Value → Shared → Prop} (K : KdlSrc prog w T r d n P OK) (hh : A.handled = none) (hok : OK s.heap) (hn : n ≤ sizeLine)
    (hQ : ∀ (h' : Heap) (tk : Nat) (acc : Array Value), (∀ b o, s.heap.get? b = some o → h'.get? b = some o) → ItemsOf P acc n → Q acc.toList { s with heap := h', toks := tk }) : wpAny (model prog w) A (collect (.ref r)) Q E s := by
  have hlt := K.there _ hok
  unfold collect
  refine wpAny_bind (wpAny_runValue (codeAny_builtin PySem.F.entry_proto_collect ?_))
  rw [Around.under_plainId PySem.F.plain_proto_collect _]
  show wpAny _ A.in1 (newList [] >>= fun l' => again (.builtin "list.__iadd__" ⟨[l', .ref r], []⟩)) _ _ s
  refine wpAny_bind (wpAny_newObj_type ?_)
  refine wpAny_pure ⟨plainId_quiet PySem.F.plain_list_iadd _, codeAny_builtin PySem.F.entry_list_iadd ?_⟩
  rw [Around.under_plainId PySem.F.plain_list_iadd _]
  have hS₁ : (s.heap.push { cls := .type "list", data := .seq ([] : List Value).toArray }).get? s.heap.objs.size = some { cls := .type "list", data := .seq ([] : List Value).toArray } := Heap.get?_push_size _ rfl
  show wpAny _ A.in1 (Builtin.List.listExtendWith (.ref s.heap.objs.size) (.ref r) (.ref s.heap.objs.size)) _ _ _
  refine wpAny_mono (kdl_extend (A := A) (R := fun rr s' => rr = .ok (.ret (.ref s.heap.objs.size)) ∧ ∃ (h' : Heap) (tk : Nat) (acc : Array Value) (c' : Nat), s' = { s with heap := h', toks := tk } ∧
      (∀ b o, s.heap.get? b = some o → h'.get? b = some o) ∧ h'.get? s.heap.objs.size = some { cls := .type "list", dict := none, data := .seq acc c', slots := #[] } ∧ ItemsOf P acc n)
    (s := { s with heap := s.heap.push { cls := .type "list", data := .seq ([] : List Value).toArray } }) K hh (K.keep _ _ hok fun b _ o e => Heap.get?_push_of_some _ e) s.heap.objs.size (Nat.ne_of_gt hlt.1) (Nat.ne_of_gt hlt.2) (.ref s.heap.objs.size) 0 hS₁
    (fun h' tk acc' c' hk hS' hacc => ⟨rfl, h', tk, acc', c', rfl, fun b o e => hk b o (Nat.ne_of_lt (Heap.lt_size e)) (Heap.get?_push_of_some _ e), hS', hacc⟩) hn) (fun fin s' h => ?_) (fun e s' h => ?_)
  · cases fin with
    | done f =>
      obtain ⟨e, h', tk, acc, c', rfl, hk, hS', hi⟩ := h
      cases e
      show wpAny _ A (load s.heap.objs.size >>= _) _ _ _
      exact wpAny_bind (wpAny_load hS' (wpAny_pure (hQ h' tk acc hk hi)))
    | again c' =>
      refine ⟨h.1, codeAny_mono h.2 fun rr s'' hr' => ?_⟩
      obtain ⟨rfl, h', tk, acc, c', rfl, hk, hS', hi⟩ := hr'
      show wpAny _ A (load s.heap.objs.size >>= _) _ _ _
      exact wpAny_bind (wpAny_load hS' (wpAny_pure (hQ h' tk acc hk hi)))
  · exact absurd h.1 (by simp)
open PySem.W in
theorem code_tuple_src {Q₁ : Value → Shared → Prop} (K : KdlSrc prog w T r d n P OK) (hh : A.handled = none) (hok : OK s.heap) (hn : n ≤ sizeLine)
    (h : ∀ (h' : Heap) (tk : Nat) (acc : Array Value), (∀ b o, s.heap.get? b = some o → h'.get? b = some o) → ItemsOf P acc n → Q₁ (.ref h'.objs.size) { s with heap := h'.push { cls := .type "tuple", data := .seq acc }, toks := tk })
    (ne : (Value.type T == Value.type "tuple") = false) :
    codeAny (model prog w) A (.call (.builtin "tuple.__new__") ⟨[.type "tuple", .ref r], []⟩) (wants Q₁ E) s := by
  refine codeAny_of_tree ?_
  show wpAny _ A.in1 (do checkBuiltinCall "tuple.__new__" ⟨[.type "tuple", .ref r], []⟩; again (.builtin "tuple.__new__" ⟨[.type "tuple", .ref r], []⟩)) _ _ s
  refine wpAny_bind (wpAny_of_eq (PySem.F.newCall_tuple_1 _) (wpAny_pure ⟨plainId_quiet PySem.F.plain_tuple_new _, codeAny_builtin PySem.F.entry_tuple_new ?_⟩))
  rw [Around.under_plainId PySem.F.plain_tuple_new _]
  have hsub := sub_tuple_self
  have hinit := init_tuple_lookup
  have hmh := madeHere_tuple
  have hTI : s.TypeIs (.ref r) T := K.type _ hok
  have hh1 : A.in1.handled = none := hh
  wp_walk using wpAny_typeOf hTI, collect_src (A := A.in1) K hh1 hok hn
  intro h' tk acc hk hacc
  show wpAny _ _ (Builtin.Tuple.tupleExact acc.toList.toArray >>= fun v => ret v) _ _ _
  unfold Builtin.Tuple.tupleExact
  refine wpAny_bind (wpAny_newObj_type ?_ (by show acc.toList.toArray.size ≤ sizeLine; simp only [Array.toArray_toList]; rw [hacc.1]; exact hn))
  refine wpAny_pure ?_
  have e : acc.toList.toArray = acc := by simp
  rw [e]
  exact h h' tk acc hk hacc
open PySem.W in
theorem call_tuple_src {Q : Value → Shared → Prop} (K : KdlSrc prog w T r d n P OK) (hh : A.handled = none) (hok : OK s.heap) (hn : n ≤ sizeLine) (ne : (Value.type T == Value.type "tuple") = false)
    (hQ : ∀ (h' : Heap) (tk : Nat) (acc : Array Value), (∀ b o, s.heap.get? b = some o → h'.get? b = some o) → ItemsOf P acc n → Q (.ref h'.objs.size) { s with heap := h'.push { cls := .type "tuple", data := .seq acc }, toks := tk }) :
    wpAny (model prog w) A (call (.type "tuple") [.ref r]) Q E s := by
  refine callType_codes (Q₁ := fun obj s₁ => s₁.TypeIs obj "tuple" ∧ Q obj s₁) PySem.F.called_tuple (PySem.F.typeCall_tuple_1 _) PySem.F.entry_object_init
    (code_tuple_src (A := A.in1) K hh hok hn (fun h' tk acc hk hacc => ⟨⟨_, Heap.get?_push_size _ rfl, rfl⟩, hQ h' tk acc hk hacc⟩) ne) fun obj s₁ h₁ => ?_
  exact ⟨h₁.1, PySem.F.args_object_init_2 obj _, object_init_meets PySem.F.called_tuple.init.lookup PySem.F.called_tuple.made (by decide) prog w A.in1 _ s₁ ⟨h₁.1, rfl, h₁.2⟩⟩
end
section
variable {X : Cx}
theorem call_tupleD (hcalm : X.calm = true) : CallR X (.type "tuple") (fun xs H Q => ∃ (a : Addr) (kvs : List (Key × V)), xs = [.ref a] ∧ Rd H a (.dK kvs) ∧ ∀ p, H p = none → Q (.ref p) (upd H p (.tup (kvs.map fun kv => kV kv.1)))) := by
  intro pins s σ H xs us Q I r q
  obtain ⟨a, kvs, ex, hd, q⟩ := q
  subst ex
  obtain ⟨u, eu, rx⟩ := vals1 r
  subst eu
  cases rx
  obtain ⟨z, lo, vs, rel, dd⟩ := dk_rd I.hok hd
  obtain ⟨ep, hat⟩ := dd.dictAt
  have ek : (kvs.map fun kv => kV kv.1) = vs.map fun p => kV p.1 := by
    have e := congrArg (List.map kV) rel.keys
    rw [List.map_map, List.map_map] at e
    exact e
  refine call_tuple_src (PySem.W.kdl_dict (knd := mixKind X.prog X.w) (kvs := vs) (ep := ep) lo) (I.ok.hd hcalm) hat (by rw [← rel.length]; exact z) (by decide) fun h' tk acc hk hacc => ?_
  have hv : Vals (vs.map fun p => kV p.1) acc.toList := keys_at (by rw [Array.length_toList]; exact hacc.1) fun j v e => hacc.2 j v (by rw [← Array.getElem?_toList]; exact e)
  have I2 : Inv X pins σ H { s with heap := h', toks := tk } := I.kept (t' := tk) hk
  refine ⟨.ref h'.objs.size, upd H h'.objs.size (.tup (kvs.map fun kv => kV kv.1)), I2.laid (t' := tk) (fun c o e => Heap.get?_push_of_some _ e) (Nat.le_refl _) (show ObjOk X.prog X.w _ _ _ (.tup (kvs.map fun kv => kV kv.1)) from ⟨by rw [List.length_map]; exact z, acc.toList, by rw [ek]; exact hv, ?_⟩), rfl, q _ (I2.hok.fresh (Nat.le_refl _))⟩
  rw [Array.toArray_toList]
  exact IsTup.new _ _
end
end Vr

set_option Elab.async false
set_option linter.all false
set_option maxRecDepth 100000
/-! y = {k: v for ..} on one line; a dict comprehension over enumerate(a list). -/
namespace Vr
open PySem PySem.Spec PyProof.Rows L2
section
variable {X : Cx}
theorem sw_trueD {k v : Expr} {gs : List Comprehension} {scope : Scope} {pos py : Pos} {y : Str} {l : Nat} {env : Env} (hk : env.scope.kind = .function) (hy : env.scope.names.lookup y = some .local) (hl : (py.line == pos.line) = true)
    (ha : (scope.names.any fun (n, k) => n == y && (k == .local || k == .cell)) = false) : swapsWith (.DictComp k v gs scope pos) (some (.Name y py)) l env = pure true := by
  have ky : env.kindOf y = some .local := hy
  have hb : env.blockKind = .function := by
    unfold Env.blockKind
    rw [hk]
    rfl
  unfold swapsWith
  simp only [hb, ky, ha, Expr.pos, hl]
  rfl
theorem ps_setDc {i : Nat} {y : Str} {py : Pos} {kx vx tg iter : Expr} {ifs : List Expr} {scope : Scope} {own : List (Str × Nat)} {pos spos : Pos} {wi : TI} {g : TG} {tt : TT} {tk tv : TE} (hc : X.calm = true) (hN : X.N.Nodup) (hy : X.N[i]? = some y) (hyl : X.env.scope.names.lookup y = some .local)
    (hsw : swapsWith (.DictComp kx vx [⟨tg, iter, ifs, 0⟩] scope pos) (some (.Name y py)) spos.line X.env = pure true) (hi : PI X tg iter wi) (ok : BlkOk X.N X.env.scope scope own)
    (hg : ∀ (s : Shared) (H : Hp) (C : Addr) (cl : List (Str × Addr)) (fp : List Addr), PG (X.blk s H scope (compEnvC scope cl C X.env) fp) tg g) (ht : ∀ (s : Shared) (H : Hp) (C : Addr) (cl : List (Str × Addr)) (fp : List Addr), PTs (X.blk s H scope (compEnvC scope cl C X.env) fp) ifs tt)
    (hk : ∀ (s : Shared) (H : Hp) (C : Addr) (cl : List (Str × Addr)) (fp : List Addr), PE (X.blk s H scope (compEnvC scope cl C X.env) fp) kx tk)
    (he : ∀ (s : Shared) (H : Hp) (C : Addr) (cl : List (Str × Addr)) (fp : List Addr), PE (X.blk s H scope (compEnvC scope cl C X.env) fp) vx tv) (hs : ∀ x, foldedSetIterable iter X.env x = pure x := by intro _; rfl) :
    PS X (.Assign [.Name y py] (.DictComp kx vx [⟨tg, iter, ifs, 0⟩] scope pos) spos) (tAsg (tDc wi g tt tk tv (own.map (·.2))) (gName i)) := by
  refine ⟨fun pins s σ H D I h => ?_⟩
  rw [exec_Assign_Name_used _ _ _ _ hsw]
  refine wpAny_bind (wpAny_standAt (wpAny_bind ?_))
  show wpAny _ X.A (do let _ ← comprehension (.DictComp kx vx [⟨tg, iter, ifs, 0⟩] scope pos) scope X.env (firstIterPos [⟨tg, iter, ifs, 0⟩] pos) newDict false (eval iter X.env) (some (assign (.Name y py) X.env))) _ _ s
  have h : tDc wi g tt tk tv (own.map (·.2)) σ H (fun x H1 => gName i x σ H1 D.nx) := h
  refine wpAny_bind (thn (dc_core (Qf := fun _ s' => SP X pins D .next s') hc hN I hi ok hg ht hk he hs h fun L C s' m H' I' q hn f => ?_) fun _ s' hq => wpAny_pure (wpAny_pure hq))
  show wpAny _ _ (assign (.Name y py) X.env (.ref L)) _ _ _
  refine wpAny_assign_Name (store_ok2 (v := V.ref L) I' hN hy (.inl hyl) rfl (fun s2 I2 ⟨a, sb, ha⟩ => ?_) (.inr hyl))
  obtain ⟨f0, f1, f2, f3, f4, f5⟩ := f
  have haC : C ≠ a := by
    rcases ha with z | z
    · rw [z]
      exact f1
    · exact fun e => f4 y a z e.symm
  refine ⟨m, hn.sameBut sb haC, fun h3 sb3 => ?_⟩
  exact ⟨_, H', I2.turned (t' := s2.toks) (fun b o hb e => (sb3.2 b hb).trans e) f0 f1 f3 f4 f5, q⟩
end
/-- {k: v for a, b in enumerate(l)}: Pv by the turn and the heap, the dict at D within; the pair of a turn is a new tuple at T -/
theorem dc_enum {K : PySem.W.Frag} {a : Addr} {xs : List V} {g : TG} {tt : TT} {tk tv : TE} {vs : List Nat} {σ : L2.St} {H1 : Hp} {D : Addr} {Qd : Hp → Prop} (Pv : Nat → Hp → Prop) (h0 : Pv 0 (upd H1 D (.dK []))) (hl : ∀ i H, i ≤ xs.length → Pv i H → SqL K H a xs)
    (hs : ∀ i x T H, xs[i]? = some x → H T = none → Pv i H → g (.ref T) (wipe σ vs) (upd H T (.tup [.int (i : Nat), x])) fun σ2 H2 => wipe σ2 vs = wipe σ vs ∧ tt σ2 H2 fun b H3 =>
      if b = true then tk σ2 H3 fun y H4 => tv σ2 H4 fun z H5 => ∃ kvs k, y = kV k ∧ H5 D = some (.dK kvs) ∧ kvs.length < sizeLine ∧ Pv (i + 1) (upd H5 D (.dK (putK kvs k z))) else Pv (i + 1) H3) (hd : ∀ H, Pv xs.length H → Qd H) :
    ∃ W : Nat → Nat → Hp → Prop, (∃ m, W 0 m (upd H1 D (.dK []))) ∧ ∀ i m H, W i m H →
      ((Ite K a).stop i H ∧ Qd H) ∨ ((Ite K a).go i H ∧ ∃ Nx : Hp → Prop, (∀ H', Nx H' → ∃ m', m' < m ∧ W (i + 1) m' H') ∧ ∀ x H', (Ite K a).yld i H x H' → g x (wipe σ vs) H' fun σ2 H2 => wipe σ2 vs = wipe σ vs ∧ tt σ2 H2 fun b H3 =>
        if b = true then tk σ2 H3 fun y H4 => tv σ2 H4 fun z H5 => ∃ kvs k, y = kV k ∧ H5 D = some (.dK kvs) ∧ kvs.length < sizeLine ∧ Nx (upd H5 D (.dK (putK kvs k z))) else Nx H3) := by
  refine ⟨fun i m H => m = xs.length - i ∧ i ≤ xs.length ∧ Pv i H, ⟨xs.length, by simp, Nat.zero_le _, h0⟩, ?_⟩
  rintro i m H ⟨rfl, hi, p⟩
  have q := hl i H hi p
  by_cases hlt : i < xs.length
  · refine .inr ⟨⟨xs, xs[i], q, by simp [hlt]⟩, Pv (i + 1), fun H' p' => ⟨xs.length - (i + 1), by omega, rfl, hlt, p'⟩, fun x H' y => ?_⟩
    obtain ⟨T, z, rfl, nT, rfl, y⟩ := y
    exact hs i z T H (y xs q) nT p
  · have e : i = xs.length := by omega
    subst e
    exact .inl ⟨⟨xs, q, Nat.le_refl _⟩, hd H p⟩
end Vr

set_option Elab.async false
set_option linter.all false
set_option maxRecDepth 100000
namespace Vs
open PySem PySem.Spec PyProof.Rows L2
/-! ### heaps: the tuples stay -/
def ST (H H' : Hp) : Prop := ∀ b xs, H b = some (.tup xs) → H' b = some (.tup xs)
theorem ST.refl (H : Hp) : ST H H := fun _ _ h => h
theorem ST.trans {H H1 H2 : Hp} (a : ST H H1) (b : ST H1 H2) : ST H H2 := fun c o h => b c o (a c o h)
theorem ST.same {H H' : Hp} (h : Same H H') : ST H H' := fun b xs e => h b _ e
theorem ST.lst {H : Hp} {l : Addr} {xs : List V} (h : H l = some (.lst xs)) (o : HO) : ST H (upd H l o) := fun b ys e => by
  rw [upd_ne (ne_of e h (fun z => by cases z))]
  exact e
theorem ST.dct {H : Hp} {l : Addr} {xs : List (Key × V)} (h : H l = some (.dK xs)) (o : HO) : ST H (upd H l o) := fun b ys e => by
  rw [upd_ne (ne_of e h (fun z => by cases z))]
  exact e
theorem same_upd {H : Hp} {p : Addr} {o : HO} (h : H p = none) : Same H (upd H p o) := fun b x e => by
  rw [upd_ne (ne_of_none e h)]
  exact e
/-- H keeps what stood before l was made -/
theorem same_skip {H H' : Hp} {l : Addr} {o : HO} (h : Same H H') (hl : H l = none) : Same H (upd H' l o) := fun b x e => by
  rw [upd_ne (ne_of_none e hl)]
  exact h _ _ e
theorem zz (n : Nat) (h : n ≤ 1000 := by decide) : n ≤ sizeLine := Nat.le_of_lt (small1000 h)
/-! ### lists of ints -/
theorem cut_front (ns : List Int) : ∃ ms : List Int, cutV (ns.map V.int) none (some 63) = ms.map V.int ∧ ms.length ≤ 63 := by
  refine ⟨ns.take (min 63 ns.length), ?_, ?_⟩
  · unfold cutV
    rw [HT.sIx_none, List.drop_zero, Nat.sub_zero, List.map_take, List.length_map]
    exact congrArg (fun z => List.take z (ns.map V.int)) (HT.sIx_nat ns.length ns.length 63)
  · rw [List.length_take]
    omega
theorem snoc_map (cs : List Int) (x : Int) : cs.map V.int ++ [.int x] = (cs ++ [x]).map V.int := by
  rw [List.map_append]
  rfl
theorem int_at {ns : List Int} {i : Int} (h0 : 0 ≤ i) (h1 : i < (ns.length : Int)) : ∃ v : Int, atI (ns.map V.int) i = some (.int v) ∧ v ∈ ns := by
  obtain ⟨j, hj⟩ : ∃ j : Nat, i = (j : Int) := ⟨_, (Int.toNat_of_nonneg h0).symm⟩
  have hj2 : j < ns.length := by omega
  refine ⟨ns[j], ?_, List.getElem_mem hj2⟩
  rw [hj]
  refine atI_nat ?_
  rw [List.getElem?_map, List.getElem?_eq_getElem hj2]
  rfl
theorem cut_last (xs : List V) (v : V) : cutV (xs ++ [v]) none (some (-1)) = xs ∧ ¬ (HT.sIx (xs ++ [v]).length 0 none = 0 ∧ HT.sIx (xs ++ [v]).length (xs ++ [v]).length (some (-1)) = (xs ++ [v]).length) := by
  have e : HT.sIx (xs ++ [v]).length (xs ++ [v]).length (some (-1)) = xs.length := by
    show (if (-1 : Int) < 0 then ((-1 : Int) + ((xs ++ [v]).length : Int)).toNat else min (-1 : Int).toNat (xs ++ [v]).length) = _
    rw [if_pos (by decide), List.length_append, List.length_singleton]
    omega
  refine ⟨?_, ?_⟩
  · unfold cutV
    rw [e, HT.sIx_none, List.drop_zero, Nat.sub_zero]
    exact List.take_left
  · rw [e, List.length_append, List.length_singleton]
    omega
/-- the number that a draw gives -/
def pk (ts : List Int) (at_ many : Int) : Int := ts.getD (at_ % (ts.length : Int)).toNat 0 % many
theorem pk_lo {ts : List Int} {a m : Int} (h : 0 < m) : 0 ≤ pk ts a m := Int.emod_nonneg _ (by omega)
theorem pk_hi {ts : List Int} {a m : Int} (h : 0 < m) : pk ts a m < m := Int.emod_lt_of_pos _ h

/-! ### shapes as data -/
inductive D where
  | v (n : Int)
  | c (s : Int) (as : List D)
  | t (as : List D)
  | f (a b : D)
def D.kids : D → List D
  | .v _ => []
  | .c _ as => as
  | .t as => as
  | .f a b => [a, b]
def D.isV : D → Bool
  | .v _ => true
  | _ => false
mutual
def D.size : D → Nat
  | .v _ => 1
  | .c _ as => 1 + D.sizeL as
  | .t as => 1 + D.sizeL as
  | .f a b => 1 + (a.size + (b.size + 0))
def D.sizeL : List D → Nat
  | [] => 0
  | x :: r => x.size + D.sizeL r
end
mutual
def D.depth : D → Nat
  | .v _ => 1
  | .c _ as => 1 + D.depthL as
  | .t as => 1 + D.depthL as
  | .f a b => 1 + max a.depth (max b.depth 0)
def D.depthL : List D → Nat
  | [] => 0
  | x :: r => max x.depth (D.depthL r)
end
mutual
def D.sub (m : Int → Option D) : D → D
  | .v n => (m n).getD (.v n)
  | .c s as => .c s (D.subL m as)
  | .t as => .t (D.subL m as)
  | .f a b => .f (a.sub m) (b.sub m)
def D.subL (m : Int → Option D) : List D → List D
  | [] => []
  | x :: r => x.sub m :: D.subL m r
end
mutual
def D.py : D → PyData
  | .v n => .tuple [.str "v", .int n]
  | .c s as => .tuple [.str "c", .int s, .tuple (D.pyL as)]
  | .t as => .tuple [.str "t", .tuple (D.pyL as)]
  | .f a b => .tuple [.str "f", a.py, b.py]
def D.pyL : List D → List PyData
  | [] => []
  | x :: r => x.py :: D.pyL r
end
theorem size_kids : ∀ d : D, d.size = 1 + D.sizeL d.kids
  | .v _ => rfl
  | .c _ _ => by simp only [D.size, D.kids]
  | .t _ => by simp only [D.size, D.kids]
  | .f a b => by simp only [D.size, D.kids, D.sizeL]
theorem depth_kids : ∀ d : D, d.depth = 1 + D.depthL d.kids
  | .v _ => rfl
  | .c _ _ => by simp only [D.depth, D.kids]
  | .t _ => by simp only [D.depth, D.kids]
  | .f a b => by simp only [D.depth, D.kids, D.depthL]
theorem size_pos (d : D) : 1 ≤ d.size := by
  rw [size_kids]
  omega
theorem depth_pos (d : D) : 1 ≤ d.depth := by
  rw [depth_kids]
  omega
theorem sub_kids (m : Int → Option D) : ∀ d : D, d.isV = false → (d.sub m).kids = D.subL m d.kids
  | .v _, h => by cases h
  | .c _ _, _ => by simp only [D.sub, D.kids]
  | .t _, _ => by simp only [D.sub, D.kids]
  | .f _ _, _ => by simp only [D.sub, D.kids, D.subL]
theorem subL_map (m : Int → Option D) : ∀ as : List D, D.subL m as = as.map (D.sub m)
  | [] => rfl
  | x :: r => by rw [D.subL, subL_map m r, List.map_cons]
theorem subL_len (m : Int → Option D) (as : List D) : (D.subL m as).length = as.length := by rw [subL_map, List.length_map]
theorem sizeL_app : ∀ a b : List D, D.sizeL (a ++ b) = D.sizeL a + D.sizeL b
  | [], b => by rw [List.nil_append, D.sizeL, Nat.zero_add]
  | x :: r, b => by rw [List.cons_append, D.sizeL, D.sizeL, sizeL_app r b, Nat.add_assoc]
theorem depthL_app : ∀ a b : List D, D.depthL (a ++ b) = max (D.depthL a) (D.depthL b)
  | [], b => by rw [List.nil_append, D.depthL, Nat.zero_max]
  | x :: r, b => by rw [List.cons_append, D.depthL, D.depthL, depthL_app r b, Nat.max_assoc]
theorem depthL_mem {x : D} : ∀ {l : List D}, x ∈ l → x.depth ≤ D.depthL l
  | y :: r, h => by
    rw [D.depthL]
    rcases List.mem_cons.mp h with rfl | h
    · omega
    · have := depthL_mem h
      omega
theorem depthL_ex : ∀ {l : List D}, l ≠ [] → ∃ x ∈ l, x.depth = D.depthL l
  | [], h => absurd rfl h
  | [x], _ => ⟨x, List.mem_cons_self, by rw [D.depthL, D.depthL]; omega⟩
  | x :: y :: r, _ => by
    obtain ⟨z, hz, e⟩ := depthL_ex (l := y :: r) (List.cons_ne_nil _ _)
    by_cases h : x.depth ≤ D.depthL (y :: r)
    · exact ⟨z, List.mem_cons_of_mem _ hz, by rw [D.depthL, e]; omega⟩
    · exact ⟨x, List.mem_cons_self, by rw [D.depthL]; omega⟩
/-- a node with other parts -/
def D.with : D → List D → D
  | .v n, _ => .v n
  | .c s _, ds => .c s ds
  | .t _, ds => .t ds
  | .f a b, ds => .f (ds.getD 0 a) (ds.getD 1 b)
theorem with_sub (m : Int → Option D) : ∀ d : D, d.isV = false → d.with (D.subL m d.kids) = d.sub m
  | .v _, h => by cases h
  | .c _ _, _ => by simp only [D.sub, D.kids, D.with]
  | .t _, _ => by simp only [D.sub, D.kids, D.with]
  | .f a b, _ => by
    simp only [D.sub, D.kids, D.with, D.subL]
    rfl
mutual
theorem sub_none (m : Int → Option D) (h : ∀ n, m n = none) : ∀ d : D, d.sub m = d
  | .v n => by rw [D.sub, h n]; rfl
  | .c s as => by rw [D.sub, subL_none m h as]
  | .t as => by rw [D.sub, subL_none m h as]
  | .f a b => by rw [D.sub, sub_none m h a, sub_none m h b]
theorem subL_none (m : Int → Option D) (h : ∀ n, m n = none) : ∀ as : List D, D.subL m as = as
  | [] => rfl
  | x :: r => by rw [D.subL, sub_none m h x, subL_none m h r]
end
mutual
theorem py_lay : ∀ d : D, d.py.canLay0 = true
  | .v n => by
    rw [D.py]
    show (_ && (true && true)) = true
    decide +kernel
  | .c s as => by
    rw [D.py]
    show ((PyData.str "c").canLay0 && (true && (PyData.canLayAll0 (D.pyL as) && true))) = true
    rw [pyL_lay as]
    decide +kernel
  | .t as => by
    rw [D.py]
    show ((PyData.str "t").canLay0 && (PyData.canLayAll0 (D.pyL as) && true)) = true
    rw [pyL_lay as]
    decide +kernel
  | .f a b => by
    rw [D.py]
    show ((PyData.str "f").canLay0 && (a.py.canLay0 && (b.py.canLay0 && true))) = true
    rw [py_lay a, py_lay b]
    decide +kernel
theorem pyL_lay : ∀ as : List D, PyData.canLayAll0 (D.pyL as) = true
  | [] => rfl
  | x :: r => by
    rw [D.pyL]
    show (x.py.canLay0 && PyData.canLayAll0 (D.pyL r)) = true
    rw [py_lay x, pyL_lay r]
    rfl
end
mutual
theorem py_depth : ∀ d : D, d.py.depth ≤ 2 * d.depth
  | .v n => by
    simp only [D.py, PyData.depth, PyData.depthAll, D.depth]
    omega
  | .c s as => by
    have := pyL_depth as
    simp only [D.py, PyData.depth, PyData.depthAll, D.depth]
    omega
  | .t as => by
    have := pyL_depth as
    simp only [D.py, PyData.depth, PyData.depthAll, D.depth]
    omega
  | .f a b => by
    have := py_depth a
    have := py_depth b
    simp only [D.py, PyData.depth, PyData.depthAll, D.depth]
    omega
theorem pyL_depth : ∀ as : List D, PyData.depthAll (D.pyL as) ≤ 2 * D.depthL as
  | [] => by simp only [D.pyL, PyData.depthAll, D.depthL]; omega
  | x :: r => by
    have := py_depth x
    have := pyL_depth r
    simp only [D.pyL, PyData.depthAll, D.depthL]
    omega
end
theorem py_self (d : D) : PyData.eqv d.py d.py = true := SeqAt.eqv_refl d.py (py_lay d)

/-! ### shapes in the heap -/
/-- a tuple: made in the run, or written at the top -/
def TA (K : PySem.W.Frag) (H : Hp) (a : Addr) (xs : List V) : Prop :=
  H a = some (.tup xs) ∨ ∃ (o : Obj) (its : Array Value) (n : Nat), K.lookup a = some o ∧ o.cls = .type "tuple" ∧ o.data = .seq its n ∧ its.size ≤ sizeLine ∧ Vals xs its.toList
theorem TA.of {K : PySem.W.Frag} {H : Hp} {a : Addr} {xs : List V} (h : H a = some (.tup xs)) : TA K H a xs := .inl h
theorem TA.sq {K : PySem.W.Frag} {H : Hp} {a : Addr} {xs : List V} (h : TA K H a xs) : SqT K H a xs := by
  rcases h with h | h
  · exact .inl (.inl h)
  · exact .inr h
theorem TA.mono {K : PySem.W.Frag} {H H' : Hp} (s : ST H H') {a : Addr} {xs : List V} (h : TA K H a xs) : TA K H' a xs := by
  rcases h with h | h
  · exact .inl (s _ _ h)
  · exact .inr h
mutual
inductive Rp (K : PySem.W.Frag) (H : Hp) : V → D → Prop
  | v {p : Addr} {n : Int} : TA K H p [.str "v", .int n] → Rp K H (.ref p) (.v n)
  | c {p q : Addr} {s : Int} {vs : List V} {as : List D} : TA K H p [.str "c", .int s, .ref q] → TA K H q vs → RpL K H vs as → Rp K H (.ref p) (.c s as)
  | t {p q : Addr} {vs : List V} {as : List D} : TA K H p [.str "t", .ref q] → TA K H q vs → RpL K H vs as → Rp K H (.ref p) (.t as)
  | f {p : Addr} {x y : V} {a b : D} : TA K H p [.str "f", x, y] → Rp K H x a → Rp K H y b → Rp K H (.ref p) (.f a b)
inductive RpL (K : PySem.W.Frag) (H : Hp) : List V → List D → Prop
  | nil : RpL K H [] []
  | cons {v : V} {vs : List V} {d : D} {ds : List D} : Rp K H v d → RpL K H vs ds → RpL K H (v :: vs) (d :: ds)
end
section
variable {K : PySem.W.Frag} {H H' : Hp}
mutual
theorem Rp.mono (s : ST H H') : ∀ {d : D} {v : V}, Rp K H v d → Rp K H' v d
  | .v _, _, h => by
    cases h with
    | v h => exact .v (h.mono s)
  | .c _ as, _, h => by
    cases h with
    | c h1 h2 h3 => exact .c (h1.mono s) (h2.mono s) (RpL.mono s h3)
  | .t as, _, h => by
    cases h with
    | t h1 h2 h3 => exact .t (h1.mono s) (h2.mono s) (RpL.mono s h3)
  | .f a b, _, h => by
    cases h with
    | f h1 h2 h3 => exact .f (h1.mono s) (Rp.mono s h2) (Rp.mono s h3)
theorem RpL.mono (s : ST H H') : ∀ {ds : List D} {vs : List V}, RpL K H vs ds → RpL K H' vs ds
  | [], _, h => by
    cases h
    exact .nil
  | d :: r, _, h => by
    cases h with
    | cons h1 h2 => exact .cons (Rp.mono s h1) (RpL.mono s h2)
end
theorem Rp.same (s : Same H H') {d : D} {v : V} (h : Rp K H v d) : Rp K H' v d := h.mono (ST.same s)
theorem RpL.same (s : Same H H') {d : List D} {v : List V} (h : RpL K H v d) : RpL K H' v d := h.mono (ST.same s)
mutual
theorem Rp.dp : ∀ {d : D} {v : V}, Rp K H v d → Dp K H v d.py
  | .v n, _, h => by
    cases h with
    | v h => rw [D.py]; exact .tup h.sq (.cons (.str _) (.cons (.int _) .nil))
  | .c _ as, _, h => by
    cases h with
    | c h1 h2 h3 => rw [D.py]; exact .tup h1.sq (.cons (.str _) (.cons (.int _) (.cons (.tup h2.sq (RpL.dp h3)) .nil)))
  | .t as, _, h => by
    cases h with
    | t h1 h2 h3 => rw [D.py]; exact .tup h1.sq (.cons (.str _) (.cons (.tup h2.sq (RpL.dp h3)) .nil))
  | .f a b, _, h => by
    cases h with
    | f h1 h2 h3 => rw [D.py]; exact .tup h1.sq (.cons (.str _) (.cons (Rp.dp h2) (.cons (Rp.dp h3) .nil)))
theorem RpL.dp : ∀ {ds : List D} {vs : List V}, RpL K H vs ds → DpAll K H vs (D.pyL ds)
  | [], _, h => by
    cases h
    exact .nil
  | d :: r, _, h => by
    cases h with
    | cons h1 h2 => rw [D.pyL]; exact .cons (Rp.dp h1) (RpL.dp h2)
end
theorem RpL.len : ∀ {ds : List D} {vs : List V}, RpL K H vs ds → vs.length = ds.length
  | [], _, h => by cases h; rfl
  | d :: r, _, h => by
    cases h with
    | cons h1 h2 => rw [List.length_cons, List.length_cons, RpL.len h2]
theorem RpL.get : ∀ {ds : List D} {vs : List V} {i : Nat} {x : V}, RpL K H vs ds → vs[i]? = some x → ∃ d, ds[i]? = some d ∧ Rp K H x d
  | [], _, i, x, h, e => by cases h; cases e
  | d :: r, _, 0, x, h, e => by
    cases h with
    | cons h1 h2 => cases e; exact ⟨_, rfl, h1⟩
  | d :: r, _, i + 1, x, h, e => by
    cases h with
    | cons h1 h2 => exact RpL.get (i := i) h2 e
theorem RpL.at : ∀ {ds : List D} {vs : List V} {i : Nat} {d : D}, RpL K H vs ds → ds[i]? = some d → ∃ x, vs[i]? = some x ∧ Rp K H x d
  | [], _, i, x, h, e => by cases e
  | d :: r, _, 0, x, h, e => by
    cases h with
    | cons h1 h2 => cases e; exact ⟨_, rfl, h1⟩
  | d :: r, _, i + 1, x, h, e => by
    cases h with
    | cons h1 h2 => exact RpL.at (i := i) h2 e
theorem RpL.app : ∀ {ds es : List D} {vs ws : List V}, RpL K H vs ds → RpL K H ws es → RpL K H (vs ++ ws) (ds ++ es)
  | [], _, _, _, h, g => by cases h; exact g
  | d :: r, _, _, _, h, g => by
    cases h with
    | cons h1 h2 => exact .cons h1 (RpL.app h2 g)
/-- what stands first in a shape's tuple -/
theorem Rp.tag : ∀ {d : D} {v : V}, Rp K H v d → ∃ p k rest, v = .ref p ∧ TA K H p (.str k :: rest) ∧ (d.isV = true ↔ k = "v") ∧ ((∃ a b, d = .f a b) ↔ k = "f")
  | .v n, _, h => by
    cases h with
    | v h => exact ⟨_, _, _, rfl, h, ⟨fun _ => rfl, fun _ => rfl⟩, ⟨fun ⟨_, _, e⟩ => (by cases e), fun e => absurd e (by decide +kernel)⟩⟩
  | .c _ as, _, h => by
    cases h with
    | c h1 h2 h3 => exact ⟨_, _, _, rfl, h1, ⟨fun e => (by cases e), fun e => absurd e (by decide +kernel)⟩, ⟨fun ⟨_, _, e⟩ => (by cases e), fun e => absurd e (by decide +kernel)⟩⟩
  | .t as, _, h => by
    cases h with
    | t h1 h2 h3 => exact ⟨_, _, _, rfl, h1, ⟨fun e => (by cases e), fun e => absurd e (by decide +kernel)⟩, ⟨fun ⟨_, _, e⟩ => (by cases e), fun e => absurd e (by decide +kernel)⟩⟩
  | .f a b, _, h => by
    cases h with
    | f h1 h2 h3 => exact ⟨_, _, _, rfl, h1, ⟨fun e => (by cases e), fun e => absurd e (by decide +kernel)⟩, ⟨fun _ => rfl, fun _ => ⟨_, _, rfl⟩⟩⟩
end

theorem zbig {n : Nat} (h : n ≤ 100000) : n < sizeLine := Nat.lt_of_le_of_lt h (by decide)
theorem iteY {A B : Prop} {x : V} (h : A) : if decide (x = x) = true then A else B := by
  rw [decide_eq_true rfl, if_pos rfl]
  exact h
theorem iteN {A B : Prop} {x y : V} (hne : x ≠ y) (h : B) : if decide (x = y) = true then A else B := by
  rw [decide_eq_false hne, if_neg Bool.false_ne_true]
  exact h
/-! ### the stack of a walk -/
def szS : List (D × Nat) → Nat
  | [] => 0
  | x :: r => x.1.size + szS r
def dpS : List (D × Nat) → Nat
  | [] => 0
  | x :: r => max (x.2 + x.1.depth - 1) (dpS r)
theorem szS_app : ∀ a b : List (D × Nat), szS (a ++ b) = szS a + szS b
  | [], b => by rw [List.nil_append, szS, Nat.zero_add]
  | x :: r, b => by rw [List.cons_append, szS, szS, szS_app r b, Nat.add_assoc]
theorem dpS_app : ∀ a b : List (D × Nat), dpS (a ++ b) = max (dpS a) (dpS b)
  | [], b => by rw [List.nil_append, dpS, Nat.zero_max]
  | x :: r, b => by rw [List.cons_append, dpS, dpS, dpS_app r b, Nat.max_assoc]
def push (l : Nat) (ds : List D) : List (D × Nat) := ds.map fun d => (d, l)
theorem szS_push (l : Nat) : ∀ ds : List D, szS (push l ds) = D.sizeL ds
  | [] => rfl
  | x :: r => by
    show x.size + szS (push l r) = x.size + D.sizeL r
    rw [szS_push l r]
theorem dpS_push (l : Nat) : ∀ ds : List D, ds ≠ [] → dpS (push l ds) = l + D.depthL ds - 1
  | [], h => absurd rfl h
  | [x], _ => by
    show max (l + x.depth - 1) 0 = l + D.depthL [x] - 1
    simp only [D.depthL]
    omega
  | x :: y :: r, _ => by
    show max (l + x.depth - 1) (dpS (push l (y :: r))) = l + D.depthL (x :: y :: r) - 1
    rw [dpS_push l (y :: r) (List.cons_ne_nil _ _)]
    have e : D.depthL (x :: y :: r) = max x.depth (D.depthL (y :: r)) := by simp only [D.depthL]
    rw [e]
    have h1 := depth_pos x
    have h2 : 1 ≤ D.depthL (y :: r) := by
      rw [D.depthL]
      have := depth_pos y
      omega
    omega
theorem len_szS : ∀ its : List (D × Nat), its.length ≤ szS its
  | [] => Nat.le_refl _
  | x :: r => by
    have h1 := len_szS r
    have h2 := size_pos x.1
    show r.length + 1 ≤ x.1.size + szS r
    omega
inductive Stk (K : PySem.W.Frag) (H : Hp) : List V → List (D × Nat) → Prop
  | nil : Stk K H [] []
  | cons {p : Addr} {x : V} {d : D} {l : Nat} {ws : List V} {its : List (D × Nat)} : H p = some (.tup [x, .int (l : Int)]) → Rp K H x d → Stk K H ws its → Stk K H (.ref p :: ws) ((d, l) :: its)
section
variable {K : PySem.W.Frag} {H H' : Hp}
theorem Stk.mono (s : ST H H') {ws : List V} {its : List (D × Nat)} (h : Stk K H ws its) : Stk K H' ws its := by
  induction h with
  | nil => exact .nil
  | cons h1 h2 _ ih => exact .cons (s _ _ h1) (h2.mono s) ih
theorem Stk.len {ws : List V} {its : List (D × Nat)} (h : Stk K H ws its) : ws.length = its.length := by
  induction h with
  | nil => rfl
  | cons h1 h2 _ ih => rw [List.length_cons, List.length_cons, ih]
theorem Stk.app {ws vs : List V} {its jts : List (D × Nat)} (h : Stk K H ws its) (g : Stk K H vs jts) : Stk K H (ws ++ vs) (its ++ jts) := by
  induction h with
  | nil => exact g
  | cons h1 h2 _ ih => exact .cons h1 h2 ih
/-- the last of the stack -/
theorem Stk.last {ws : List V} {its : List (D × Nat)} (h : Stk K H ws its) : (ws = [] ∧ its = []) ∨ ∃ ws' its' p x d l, ws = ws' ++ [.ref p] ∧ its = its' ++ [(d, l)] ∧ Stk K H ws' its' ∧ H p = some (.tup [x, .int ((l : Nat) : Int)]) ∧ Rp K H x d := by
  induction h with
  | nil => exact .inl ⟨rfl, rfl⟩
  | @cons p x d l ws its h1 h2 h3 ih =>
    rcases ih with ⟨rfl, rfl⟩ | ⟨ws', its', p', x', d', l', rfl, rfl, h4, h5, h6⟩
    · exact .inr ⟨[], [], p, x, d, l, rfl, rfl, .nil, h1, h2⟩
    · exact .inr ⟨.ref p :: ws', (d, l) :: its', p', x', d', l', rfl, rfl, .cons h1 h2 h4, h5, h6⟩
end
theorem last_get (xs : List V) (y : V) : (xs ++ [y])[(xs ++ [y]).length - 1]? = some y := by
  rw [List.length_append, List.length_singleton, Nat.add_sub_cancel, List.getElem?_append_right (Nat.le_refl _), Nat.sub_self]
  rfl
structure Own (P : Program) (w : World) (K : PySem.W.Frag) (mg : Str → Option Value) (base : Heap) (CX : CXT) (n : Nat) (x : Str) (f : Addr) (fd : FuncData) (ps : List Str) (sp : Sp) : Prop where
  ok : FnOk P w K mg base CX n f fd ps sp
  bd : Binds K fd ps []
  kp : PySem.W.keepIn K (.ref f) = true
  at_ : mg x = some (.ref f)
/-! ### promises of the program's functions -/
def spParts (K : PySem.W.Frag) : Sp := fun vs H Q _ => ∃ (x : V) (d : D), vs = [x] ∧ Rp K H x d ∧ ∀ H' q ws, Same H H' → TA K H' q ws → RpL K H' ws d.kids → Q (.ref q) H'
def spWith (K : PySem.W.Frag) : Sp := fun vs H Q _ => ∃ (x : V) (d : D) (L : Addr) (ws : List V) (ds : List D), vs = [x, .ref L] ∧ Rp K H x d ∧ d.isV = false ∧ H L = some (.lst ws) ∧ RpL K H ws ds ∧ ds.length = d.kids.length ∧
  ∀ H' v', Same H H' → Rp K H' v' (d.with ds) → Q v' H'
def spMeas (K : PySem.W.Frag) : Sp := fun vs H Q _ => ∃ (x : V) (d : D), vs = [x] ∧ Rp K H x d ∧ d.size ≤ 90000 ∧ ∀ H' r, Same H H' → H' r = some (.tup [.int (d.size : Int), .int (d.depth : Int)]) → Q (.ref r) H'

/-! ### mappings -/
def lk (ms : List (Int × D)) (n : Int) : Option D := (ms.find? fun p => decide (p.1 = n)).map (·.2)
theorem lk_nil (n : Int) : lk [] n = none := rfl
theorem lk_pos {p : Int × D} {r : List (Int × D)} {n : Int} (e : p.1 = n) : lk (p :: r) n = some p.2 := by simp [lk, List.find?_cons, e]
theorem lk_neg {p : Int × D} {r : List (Int × D)} {n : Int} (e : ¬ p.1 = n) : lk (p :: r) n = lk r n := by simp [lk, List.find?_cons, e]
theorem lk_mem {ms : List (Int × D)} {n : Int} {e : D} (h : lk ms n = some e) : (n, e) ∈ ms := by
  induction ms with
  | nil => cases h
  | cons p r ih =>
    by_cases c : p.1 = n
    · rw [lk_pos c] at h
      cases h
      subst c
      exact List.mem_cons_self
    · rw [lk_neg c] at h
      exact List.mem_cons_of_mem _ (ih h)
inductive MpL (K : PySem.W.Frag) (H : Hp) : List (Key × V) → List (Int × D) → Prop
  | nil : MpL K H [] []
  | cons {n : Int} {v : V} {d : D} {kvs : List (Key × V)} {ms : List (Int × D)} : Rp K H v d → MpL K H kvs ms → MpL K H ((.inl n, v) :: kvs) ((n, d) :: ms)
section
variable {K : PySem.W.Frag} {H H' : Hp}
theorem MpL.mono (s : ST H H') {kvs : List (Key × V)} {ms : List (Int × D)} (h : MpL K H kvs ms) : MpL K H' kvs ms := by
  induction h with
  | nil => exact .nil
  | cons h1 _ ih => exact .cons (h1.mono s) ih
theorem MpL.get (n : Int) {kvs : List (Key × V)} {ms : List (Int × D)} (h : MpL K H kvs ms) : (valV kvs (.inl n) = none ∧ lk ms n = none) ∨ ∃ v d, valV kvs (.inl n) = some v ∧ lk ms n = some d ∧ Rp K H v d := by
  induction h with
  | nil => exact .inl ⟨rfl, rfl⟩
  | @cons k v d kvs ms h1 _ ih =>
    by_cases c : k = n
    · subst c
      exact .inr ⟨v, d, valV_pos rfl, lk_pos rfl, h1⟩
    · have c' : ¬ (Sum.inl k : Key) = Sum.inl n := fun z => c (Sum.inl.inj z)
      rw [valV_neg c', lk_neg c]
      exact ih
theorem MpL.len {kvs : List (Key × V)} {ms : List (Int × D)} (h : MpL K H kvs ms) : kvs.length = ms.length := by
  induction h with
  | nil => rfl
  | cons h1 _ ih => rw [List.length_cons, List.length_cons, ih]
theorem MpL.app {kvs kvs' : List (Key × V)} {ms ms' : List (Int × D)} (h : MpL K H kvs ms) (g : MpL K H kvs' ms') : MpL K H (kvs ++ kvs') (ms ++ ms') := by
  induction h with
  | nil => exact g
  | cons h1 _ ih => exact .cons h1 ih
end
def MpAt (K : PySem.W.Frag) (H : Hp) (m : Addr) (ms : List (Int × D)) : Prop := ∃ kvs, H m = some (.dK kvs) ∧ MpL K H kvs ms
theorem MpAt.same {K : PySem.W.Frag} {H H' : Hp} (s : Same H H') {m : Addr} {ms : List (Int × D)} (h : MpAt K H m ms) : MpAt K H' m ms := by
  obtain ⟨kvs, h1, h2⟩ := h
  exact ⟨kvs, s _ _ h1, h2.mono (ST.same s)⟩
def big (r : D) : Prop := r.size > 2000 ∨ r.depth > 100
def subS (m : Int → Option D) (its : List (D × Nat)) : List (D × Nat) := its.map fun it => (it.1.sub m, it.2)
theorem subS_app (m : Int → Option D) (a b : List (D × Nat)) : subS m (a ++ b) = subS m a ++ subS m b := List.map_append
theorem subS_push (m : Int → Option D) (l : Nat) (ds : List D) : subS m (push l ds) = push l (D.subL m ds) := by
  unfold subS push
  rw [subL_map, List.map_map, List.map_map]
  rfl
def KnOk (H : Hp) (kvs : List (Key × V)) (m : Int → Option D) : Prop := ∀ n v, valV kvs (.inl n) = some v → ∃ p e, v = .ref p ∧ m n = some e ∧ H p = some (.tup [.int (e.size : Int), .int (e.depth : Int)])
theorem KnOk.mono {H H' : Hp} (s : ST H H') {kvs : List (Key × V)} {m : Int → Option D} (h : KnOk H kvs m) : KnOk H' kvs m := fun n v e => by
  obtain ⟨p, d, e1, e2, e3⟩ := h n v e
  exact ⟨p, d, e1, e2, s _ _ e3⟩
theorem sub_size_v {m : Int → Option D} {n : Int} {e : D} (h : m n = some e) : (D.v n).sub m = e := by
  rw [D.sub, h]
  rfl
theorem sub_v_none {m : Int → Option D} {n : Int} (h : m n = none) : (D.v n).sub m = .v n := by
  rw [D.sub, h]
  rfl
/-- what an exception class of the program's own is known by -/
structure ExcT (K : PySem.W.Frag) (mg : Str → Option Value) (x : Str) (C : Addr) : Prop where
  gP : mg x = some (.ref C)
  xP : PySem.W.excIn K C [.type "ValueError", .type "Exception", .type "BaseException", .type "object"] "ValueError.__new__" = true
  kP : PySem.W.keepIn K (.ref C) = true
  bP : PySem.W.subIn K (.ref C) (.type "BaseException") = some true
  tP : PySem.W.typeIn K (.ref C) = some (.type "type")
  iP : PySem.W.isClsIn K C = true
  sP : PySem.W.subIn K (.ref C) (.ref C) = some true
def spCheck (K : PySem.W.Frag) (C : Addr) : Sp := fun vs H Q E => ∃ (x : V) (d : D) (m : Addr) (ms : List (Int × D)), vs = [x, .ref m] ∧ Rp K H x d ∧ MpAt K H m ms ∧ d.size ≤ 90000 ∧ (∀ n e, lk ms n = some e → e.size ≤ 90000) ∧
  (big (d.sub (lk ms)) → ∀ H', Same H H' → E (.ref C) none H') ∧ (¬ big (d.sub (lk ms)) → ∀ H', Same H H' → Q .non H')

mutual
theorem depth_sub (m : Int → Option D) : ∀ d : D, d.depth ≤ (d.sub m).depth
  | .v n => by
    show 1 ≤ _
    exact depth_pos _
  | .c s as => by
    have := depthL_sub m as
    simp only [D.sub, D.depth]
    omega
  | .t as => by
    have := depthL_sub m as
    simp only [D.sub, D.depth]
    omega
  | .f a b => by
    have := depth_sub m a
    have := depth_sub m b
    simp only [D.sub, D.depth]
    omega
theorem depthL_sub (m : Int → Option D) : ∀ as : List D, D.depthL as ≤ D.depthL (D.subL m as)
  | [] => Nat.le_refl _
  | x :: r => by
    have := depth_sub m x
    have := depthL_sub m r
    simp only [D.subL, D.depthL]
    omega
end
theorem kids_len (d : D) : d.kids.length ≤ d.size := by
  rw [size_kids]
  have t6 := len_szS (push 0 d.kids)
  rw [szS_push] at t6
  have t7 : (push 0 d.kids).length = d.kids.length := List.length_map _
  omega
theorem kid_size {d x : D} (h : x ∈ d.kids) : x.size < d.size := by
  rw [size_kids d]
  have : ∀ l : List D, x ∈ l → x.size ≤ D.sizeL l := by
    intro l
    induction l with
    | nil => intro z; cases z
    | cons y r ih =>
      intro z
      rw [D.sizeL]
      rcases List.mem_cons.mp z with rfl | z
      · omega
      · have := ih z
        omega
  have := this _ h
  omega
theorem kid_depth {d x : D} (h : x ∈ d.kids) : x.depth < d.depth := by
  rw [depth_kids d]
  have := depthL_mem h
  omega
def spRepl (K : PySem.W.Frag) (b : Nat) : Sp := fun vs H Q _ => ∃ (x : V) (d : D) (m : Addr) (ms : List (Int × D)), vs = [x, .ref m] ∧ Rp K H x d ∧ MpAt K H m ms ∧ d.size ≤ 90000 ∧ d.depth ≤ b ∧ ∀ H' v', Same H H' → Rp K H' v' (d.sub (lk ms)) → Q v' H'
def spSubst (K : PySem.W.Frag) (C : Addr) : Sp := fun vs H Q E => ∃ (x : V) (d : D) (m : Addr) (ms : List (Int × D)), vs = [x, .ref m] ∧ Rp K H x d ∧ MpAt K H m ms ∧ d.size ≤ 90000 ∧ (∀ n e, lk ms n = some e → e.size ≤ 90000) ∧
  (big (d.sub (lk ms)) → ∀ H', Same H H' → E (.ref C) none H') ∧ (¬ big (d.sub (lk ms)) → ∀ H' v', Same H H' → Rp K H' v' (d.sub (lk ms)) → Q v' H')
theorem subL_take (f : Int → Option D) {as : List D} {i : Nat} {x : D} (h : as[i]? = some x) : D.subL f (as.take (i + 1)) = D.subL f (as.take i) ++ [x.sub f] := by
  rw [subL_map, subL_map, List.take_add_one, h, List.map_append]
  rfl

/-! ### drawn shapes -/
inductive GenD (fr : List Int) : Nat → D → Prop
  | leafv {l : Nat} {n : Int} (h : n ∈ fr) : GenD fr l (.v n)
  | leafc {l : Nat} {s : Int} (h : s = 0 ∨ s = 1 ∨ s = 4) : GenD fr l (.c s [])
  | f {l : Nat} {a b : D} (ha : GenD fr l a) (hb : GenD fr l b) : GenD fr (l + 1) (.f a b)
  | one {l : Nat} {s : Int} {a : D} (h : s = 3 ∨ s = 5 ∨ s = 6) (ha : GenD fr l a) : GenD fr (l + 1) (.c s [a])
  | t {l : Nat} {as : List D} (h2 : 2 ≤ as.length) (h4 : as.length ≤ 4) (h : ∀ x ∈ as, GenD fr l x) : GenD fr (l + 1) (.t as)
def sizeOf' : Nat → Nat
  | 0 => 1
  | l + 1 => 1 + 4 * sizeOf' l
theorem sizeOf'_pos : ∀ l, 1 ≤ sizeOf' l
  | 0 => Nat.le_refl _
  | l + 1 => by
    show 1 ≤ 1 + 4 * sizeOf' l
    omega
theorem sizeL_le {n : Nat} : ∀ {as : List D}, (∀ x ∈ as, x.size ≤ n) → D.sizeL as ≤ as.length * n
  | [], _ => by rw [D.sizeL]; omega
  | x :: r, h => by
    have h1 := h x List.mem_cons_self
    have h2 := sizeL_le (as := r) fun y hy => h y (List.mem_cons_of_mem _ hy)
    rw [D.sizeL, List.length_cons, Nat.add_mul, Nat.one_mul]
    omega
theorem depthL_le {n : Nat} : ∀ {as : List D}, (∀ x ∈ as, x.depth ≤ n) → D.depthL as ≤ n
  | [], _ => by rw [D.depthL]; omega
  | x :: r, h => by
    have h1 := h x List.mem_cons_self
    have h2 := depthL_le (as := r) fun y hy => h y (List.mem_cons_of_mem _ hy)
    rw [D.depthL]
    omega
theorem GenD.size {fr : List Int} {l : Nat} {d : D} (h : GenD fr l d) : d.size ≤ sizeOf' l := by
  induction h with
  | leafv h => exact sizeOf'_pos _
  | leafc h => exact sizeOf'_pos _
  | @f l a b ha hb iha ihb =>
    have e : sizeOf' (l + 1) = 1 + 4 * sizeOf' l := rfl
    simp only [D.size]
    omega
  | @one l s a h ha ih =>
    have e : sizeOf' (l + 1) = 1 + 4 * sizeOf' l := rfl
    simp only [D.size, D.sizeL]
    omega
  | @t l as h2 h4 h ih =>
    have e : sizeOf' (l + 1) = 1 + 4 * sizeOf' l := rfl
    have g := sizeL_le ih
    have g2 : as.length * sizeOf' l ≤ 4 * sizeOf' l := Nat.mul_le_mul_right _ h4
    simp only [D.size]
    omega
theorem GenD.depth {fr : List Int} {l : Nat} {d : D} (h : GenD fr l d) : d.depth ≤ l + 1 := by
  induction h with
  | leafv h =>
    simp only [D.depth]
    omega
  | leafc h =>
    simp only [D.depth, D.depthL]
    omega
  | @f l a b ha hb iha ihb =>
    simp only [D.depth]
    omega
  | @one l s a h ha ih =>
    simp only [D.depth, D.depthL]
    omega
  | @t l as h2 h4 h ih =>
    have g := depthL_le ih
    simp only [D.depth]
    omega
/-! ### promises of the law's helpers -/
def spTape (K : PySem.W.Frag) : Sp := fun vs H Q _ => ∃ (a : Addr) (ns : List Int) (many : Int), vs = [.ref a, .int many] ∧ SqL K H a (ns.map V.int) ∧ 0 ≤ many ∧ many ≤ 1000 ∧
  ∀ H' p ts, Same H H' → H' p = some (.lst ((ts : List Int).map V.int)) → ts.length = many.toNat → (∀ t ∈ ts, 0 ≤ t) → Q (.ref p) H'
def spPick (K : PySem.W.Frag) : Sp := fun vs H Q _ => ∃ (a : Addr) (ts : List Int) (at_ many : Int), vs = [.ref a, .int at_, .int many] ∧ SqL K H a (ts.map V.int) ∧ 0 < ts.length ∧ 0 < many ∧ Q (.int (pk ts at_ many)) H
def spLeaf (K : PySem.W.Frag) : Sp := fun vs H Q _ => ∃ (T Fr : Addr) (ts fr : List Int) (at_ : Int), vs = [.ref T, .int at_, .ref Fr] ∧ SqL K H T (ts.map V.int) ∧ 0 < ts.length ∧ SqL K H Fr (fr.map V.int) ∧
  ∀ H' v d, Same H H' → Rp K H' v d → (∀ l, GenD fr l d) → Q v H'
def spShape (K : PySem.W.Frag) (b : Nat) : Sp := fun vs H Q _ => ∃ (T Fr : Addr) (ts fr : List Int) (at_ : Int) (l : Nat), vs = [.ref T, .int at_, .int (l : Int), .ref Fr] ∧ l < b ∧ SqL K H T (ts.map V.int) ∧ 0 < ts.length ∧ SqL K H Fr (fr.map V.int) ∧
  ∀ H' r v d (at' : Int), Same H H' → H' r = some (.tup [v, .int at']) → Rp K H' v d → GenD fr l d → Q (.ref r) H'
/-- a list of pairs (number, shape) -/
inductive PrL (K : PySem.W.Frag) (H : Hp) : List V → List (Int × D) → Prop
  | nil : PrL K H [] []
  | cons {p : Addr} {n : Int} {x : V} {d : D} {ws : List V} {ms : List (Int × D)} : H p = some (.tup [.int n, x]) → Rp K H x d → PrL K H ws ms → PrL K H (.ref p :: ws) ((n, d) :: ms)
section
variable {K : PySem.W.Frag} {H H' : Hp}
theorem PrL.mono (s : ST H H') {ws : List V} {ms : List (Int × D)} (h : PrL K H ws ms) : PrL K H' ws ms := by
  induction h with
  | nil => exact .nil
  | cons h1 h2 _ ih => exact .cons (s _ _ h1) (h2.mono s) ih
theorem PrL.len {ws : List V} {ms : List (Int × D)} (h : PrL K H ws ms) : ws.length = ms.length := by
  induction h with
  | nil => rfl
  | cons h1 h2 _ ih => rw [List.length_cons, List.length_cons, ih]
theorem PrL.app {ws vs : List V} {ms ms' : List (Int × D)} (h : PrL K H ws ms) (g : PrL K H vs ms') : PrL K H (ws ++ vs) (ms ++ ms') := by
  induction h with
  | nil => exact g
  | cons h1 h2 _ ih => exact .cons h1 h2 ih
theorem PrL.get : ∀ {ms : List (Int × D)} {ws : List V} {i : Nat} {x : V}, PrL K H ws ms → ws[i]? = some x → ∃ p n y d, x = .ref p ∧ ms[i]? = some (n, d) ∧ H p = some (.tup [.int n, y]) ∧ Rp K H y d
  | [], _, i, x, h, e => by cases h; cases e
  | m :: r, _, 0, x, h, e => by
    cases h with
    | cons h1 h2 h3 => cases e; exact ⟨_, _, _, _, rfl, rfl, h1, h2⟩
  | m :: r, _, i + 1, x, h, e => by
    cases h with
    | cons h1 h2 h3 => exact PrL.get (i := i) h3 e
end
/-- nothing found among the first i -/
theorem lk_step {ms : List (Int × D)} {i : Nat} {n k : Int} {d : D} (h : ms[i]? = some (n, d)) (e : lk ms k = lk (ms.drop i) k) : if n = k then lk ms k = some d else lk ms k = lk (ms.drop (i + 1)) k := by
  obtain ⟨hi, hh⟩ := List.getElem?_eq_some_iff.mp h
  have dr : ms.drop i = (n, d) :: ms.drop (i + 1) := by rw [← hh]; exact List.drop_eq_getElem_cons hi
  rw [dr] at e
  by_cases c : n = k
  · rw [if_pos c, e, lk_pos c]
  · rw [if_neg c, e, lk_neg c]
def spApply (K : PySem.W.Frag) (b : Nat) : Sp := fun vs H Q _ => ∃ (x : V) (d : D) (Pr : Addr) (ws : List V) (ms : List (Int × D)), vs = [x, .ref Pr] ∧ Rp K H x d ∧ SqL K H Pr ws ∧ PrL K H ws ms ∧ d.size ≤ 90000 ∧ d.depth ≤ b ∧ ∀ H' v', Same H H' → Rp K H' v' (d.sub (lk ms)) → Q v' H'
theorem int_get {ns : List Int} {j : Nat} {x : V} (h : (ns.map V.int)[j]? = some x) : ∃ n, ns[j]? = some n ∧ x = .int n := by
  rw [List.getElem?_map] at h
  cases q : ns[j]? with
  | none =>
    rw [q] at h
    cases h
  | some n =>
    rw [q] at h
    exact ⟨n, rfl, (Option.some.inj h).symm⟩
end Vs

set_option Elab.async false
set_option linter.all false
set_option maxRecDepth 100000
namespace Vs
open PySem PySem.Spec PyProof.Rows L2 Vr
/-! ### variables in the order of their first occurrence -/
mutual
def D.occ : D → List Int
  | .v n => [n]
  | .c _ as => D.occL as
  | .t as => D.occL as
  | .f a b => a.occ ++ (b.occ ++ [])
def D.occL : List D → List Int
  | [] => []
  | x :: r => x.occ ++ D.occL r
end
def addK (ns : List Int) (n : Int) : List Int := if n ∈ ns then ns else ns ++ [n]
def addAll (ns : List Int) (ms : List Int) : List Int := ms.foldl addK ns
def D.vars (d : D) : List Int := addAll [] d.occ
theorem occ_kids : ∀ d : D, d.isV = false → d.occ = D.occL d.kids
  | .v _, h => by cases h
  | .c _ _, _ => by simp only [D.occ, D.kids]
  | .t _, _ => by simp only [D.occ, D.kids]
  | .f a b, _ => by simp only [D.occ, D.kids, D.occL]
theorem occL_app : ∀ a b : List D, D.occL (a ++ b) = D.occL a ++ D.occL b
  | [], b => by rw [List.nil_append, D.occL, List.nil_append]
  | x :: r, b => by rw [List.cons_append, D.occL, D.occL, occL_app r b, List.append_assoc]
theorem addAll_app (ns a b : List Int) : addAll ns (a ++ b) = addAll (addAll ns a) b := List.foldl_append
theorem addK_mem {ns : List Int} {n x : Int} : x ∈ addK ns n ↔ x ∈ ns ∨ x = n := by
  unfold addK
  split
  · rename_i h
    constructor
    · exact .inl
    · rintro (h' | rfl)
      · exact h'
      · exact h
  · rw [List.mem_append, List.mem_singleton]
theorem addAll_mem {x : Int} : ∀ {ms ns : List Int}, x ∈ addAll ns ms ↔ x ∈ ns ∨ x ∈ ms
  | [], ns => by
    show x ∈ ns ↔ _
    simp
  | m :: r, ns => by
    show x ∈ addAll (addK ns m) r ↔ _
    rw [addAll_mem, addK_mem, List.mem_cons]
    constructor
    · rintro ((h | h) | h)
      · exact .inl h
      · exact .inr (.inl h)
      · exact .inr (.inr h)
    · rintro (h | h | h)
      · exact .inl (.inl h)
      · exact .inl (.inr h)
      · exact .inr h
theorem addK_nodup {ns : List Int} {n : Int} (h : ns.Nodup) : (addK ns n).Nodup := by
  unfold addK
  split
  · exact h
  · rename_i hn
    rw [List.nodup_append]
    refine ⟨h, List.nodup_cons.mpr ⟨by simp, List.nodup_nil⟩, fun a ha b hb e => ?_⟩
    rw [List.mem_singleton] at hb
    rw [e, hb] at ha
    exact hn ha
theorem addAll_nodup : ∀ {ms ns : List Int}, ns.Nodup → (addAll ns ms).Nodup
  | [], _, h => h
  | m :: r, ns, h => addAll_nodup (ms := r) (addK_nodup h)
theorem vars_nodup (d : D) : d.vars.Nodup := addAll_nodup List.nodup_nil
theorem addK_len (ns : List Int) (n : Int) : (addK ns n).length ≤ ns.length + 1 := by
  unfold addK
  split
  · omega
  · rw [List.length_append]
    exact Nat.le_refl _
theorem addAll_len : ∀ (ms ns : List Int), (addAll ns ms).length ≤ ns.length + ms.length
  | [], _ => Nat.le_refl _
  | m :: r, ns => by
    have h1 := addAll_len r (addK ns m)
    have h2 := addK_len ns m
    show (addAll (addK ns m) r).length ≤ ns.length + (r.length + 1)
    omega
mutual
theorem occ_len : ∀ d : D, d.occ.length ≤ d.size
  | .v _ => Nat.le_refl _
  | .c _ as => by
    have := occL_len as
    simp only [D.occ, D.size]
    omega
  | .t as => by
    have := occL_len as
    simp only [D.occ, D.size]
    omega
  | .f a b => by
    have := occ_len a
    have := occ_len b
    simp only [D.occ, D.size, List.length_append, List.length_nil]
    omega
theorem occL_len : ∀ as : List D, (D.occL as).length ≤ D.sizeL as
  | [] => Nat.le_refl _
  | x :: r => by
    have := occ_len x
    have := occL_len r
    simp only [D.occL, D.sizeL, List.length_append]
    omega
end
theorem vars_len (d : D) : d.vars.length ≤ d.size := by
  have h1 := addAll_len d.occ []
  have h2 := occ_len d
  have h3 : ([] : List Int).length = 0 := rfl
  show (addAll [] d.occ).length ≤ d.size
  omega
/-- a dict whose keys are these numbers -/
def keysOf (ns : List Int) : List Key := ns.map Sum.inl
theorem put_keys {kvs : List (Key × V)} {ns : List Int} (h : kvs.map (·.1) = keysOf ns) (n : Int) (v : V) : (putK kvs (.inl n) v).map (·.1) = keysOf (addK ns n) := by
  have mem : (kvs.any fun kv => decide (kv.1 = Sum.inl n)) = true ↔ n ∈ ns := by
    rw [List.any_eq_true]
    constructor
    · rintro ⟨kv, hk, e⟩
      have e' : kv.1 = Sum.inl n := of_decide_eq_true e
      have : kv.1 ∈ kvs.map (·.1) := List.mem_map_of_mem hk
      rw [h, e'] at this
      obtain ⟨m, hm, em⟩ := List.mem_map.mp this
      cases em
      exact hm
    · intro hn
      have : (Sum.inl n : Key) ∈ kvs.map (·.1) := by
        rw [h]
        exact List.mem_map_of_mem hn
      obtain ⟨kv, hk, e⟩ := List.mem_map.mp this
      exact ⟨kv, hk, decide_eq_true e⟩
  unfold putK addK
  by_cases c : n ∈ ns
  · rw [if_pos (mem.mpr c), if_pos c, List.map_map, ← h]
    refine List.map_congr_left fun kv _ => ?_
    show (if kv.1 = Sum.inl n then (kv.1, v) else kv).1 = kv.1
    split <;> rfl
  · rw [if_neg (fun z => c (mem.mp z)), if_neg c, List.map_append, h]
    unfold keysOf
    rw [List.map_append]
    rfl
theorem keys_vals {kvs : List (Key × V)} {ns : List Int} (h : kvs.map (·.1) = keysOf ns) : (kvs.map fun kv => kV kv.1) = ns.map V.int := by
  have e : (kvs.map fun kv => kV kv.1) = (kvs.map (·.1)).map kV := by
    rw [List.map_map]
    rfl
  rw [e, h]
  unfold keysOf
  rw [List.map_map]
  rfl
theorem keys_len {kvs : List (Key × V)} {ns : List Int} (h : kvs.map (·.1) = keysOf ns) : kvs.length = ns.length := by
  have := congrArg List.length h
  unfold keysOf at this
  rw [List.length_map, List.length_map] at this
  exact this
section
variable {K : PySem.W.Frag} {H H' : Hp}
theorem RpL.last : ∀ {ds : List D} {ws : List V}, RpL K H ws ds → (ws = [] ∧ ds = []) ∨ ∃ ws' ds' x d, ws = ws' ++ [x] ∧ ds = ds' ++ [d] ∧ RpL K H ws' ds' ∧ Rp K H x d
  | [], _, h => by
    cases h
    exact .inl ⟨rfl, rfl⟩
  | d :: r, _, h => by
    cases h with
    | @cons v vs _ _ h1 h2 =>
      rcases RpL.last h2 with ⟨rfl, rfl⟩ | ⟨ws', ds', x, d', rfl, rfl, h3, h4⟩
      · exact .inr ⟨[], [], v, d, rfl, rfl, .nil, h1⟩
      · exact .inr ⟨v :: ws', d :: ds', x, d', rfl, rfl, .cons h1 h3, h4⟩
theorem RpL.rev : ∀ {ds : List D} {ws : List V}, RpL K H ws ds → RpL K H ws.reverse ds.reverse
  | [], _, h => by
    cases h
    exact .nil
  | d :: r, _, h => by
    cases h with
    | cons h1 h2 =>
      rw [List.reverse_cons, List.reverse_cons]
      exact (RpL.rev h2).app (.cons h1 .nil)
end
theorem sizeL_rev : ∀ ds : List D, D.sizeL ds.reverse = D.sizeL ds
  | [] => rfl
  | x :: r => by
    rw [List.reverse_cons, sizeL_app, sizeL_rev r, D.sizeL, D.sizeL, D.sizeL]
    omega
theorem len_sizeL : ∀ ds : List D, ds.length ≤ D.sizeL ds
  | [] => Nat.le_refl _
  | x :: r => by
    have h1 := len_sizeL r
    have h2 := size_pos x
    rw [D.sizeL, List.length_cons]
    omega
def spVars (K : PySem.W.Frag) : Sp := fun vs H Q _ => ∃ (x : V) (d : D), vs = [x] ∧ Rp K H x d ∧ d.size ≤ 90000 ∧ ∀ H' q, Same H H' → H' q = some (.tup (d.vars.map V.int)) → Q (.ref q) H'
/-! ### numbers for variables -/
def numb (k : Nat) : List Int → List (Int × D)
  | [] => []
  | n :: r => (n, .v (k : Int)) :: numb (k + 1) r
theorem numb_app : ∀ (a b : List Int) (k : Nat), numb k (a ++ b) = numb k a ++ numb (k + a.length) b
  | [], b, k => rfl
  | n :: r, b, k => by
    show (n, D.v (k : Int)) :: numb (k + 1) (r ++ b) = (n, D.v (k : Int)) :: (numb (k + 1) r ++ numb (k + (r.length + 1)) b)
    rw [numb_app r b (k + 1), show k + 1 + r.length = k + (r.length + 1) by omega]
theorem numb_len : ∀ (a : List Int) (k : Nat), (numb k a).length = a.length
  | [], _ => rfl
  | n :: r, k => by
    show (numb (k + 1) r).length + 1 = r.length + 1
    rw [numb_len r]
theorem numb_keys : ∀ (a : List Int) (k : Nat) (p : Int × D), p ∈ numb k a → p.1 ∈ a ∧ ∃ j, p.2 = .v j
  | [], _, p, h => by cases h
  | n :: r, k, p, h => by
    rcases List.mem_cons.mp h with rfl | h
    · exact ⟨List.mem_cons_self, _, rfl⟩
    · have := numb_keys r (k + 1) p h
      exact ⟨List.mem_cons_of_mem _ this.1, this.2⟩
theorem lk_numb_size {a : List Int} {k : Nat} {n : Int} {e : D} (h : lk (numb k a) n = some e) : e.size = 1 ∧ e.depth = 1 := by
  obtain ⟨_, j, rfl⟩ := (numb_keys a k _ (lk_mem h))
  exact ⟨by simp only [D.size], by simp only [D.depth]⟩
def spGen (K : PySem.W.Frag) (C : Addr) : Sp := fun vs H Q E => ∃ (x : V) (d : D) (L : Addr) (ns : List Int), vs = [x, .ref L] ∧ Rp K H x d ∧ SqL K H L (ns.map V.int) ∧ ns.Nodup ∧ ns.length ≤ 1000 ∧ d.size ≤ 90000 ∧
  (big (d.sub (lk (numb 0 ns))) → ∀ H', Same H H' → E (.ref C) none H') ∧ (¬ big (d.sub (lk (numb 0 ns))) → ∀ H' r v', Same H H' → H' r = some (.tup [.int (ns.length : Int), v']) → Rp K H' v' (d.sub (lk (numb 0 ns))) → Q (.ref r) H')
end Vs

set_option Elab.async false
set_option linter.all false
set_option maxRecDepth 100000
namespace Vs
open PySem PySem.Spec PyProof.Rows L2 RT StX Vr
mutual
theorem size_sub_le (m : Int → Option D) (B : Nat) (hB : 1 ≤ B) (h : ∀ n e, m n = some e → e.size ≤ B) : ∀ d : D, (d.sub m).size ≤ d.size * B
  | .v n => by
    rw [D.sub]
    cases q : m n with
    | none =>
      show 1 ≤ 1 * B
      omega
    | some e =>
      show e.size ≤ 1 * B
      have := h n e q
      omega
  | .c s as => by
    have := sizeL_sub_le m B hB h as
    simp only [D.sub, D.size]
    rw [Nat.add_mul]
    omega
  | .t as => by
    have := sizeL_sub_le m B hB h as
    simp only [D.sub, D.size]
    rw [Nat.add_mul]
    omega
  | .f a b => by
    have := size_sub_le m B hB h a
    have := size_sub_le m B hB h b
    simp only [D.sub, D.size]
    rw [Nat.add_mul, Nat.add_mul, Nat.add_mul]
    omega
theorem sizeL_sub_le (m : Int → Option D) (B : Nat) (hB : 1 ≤ B) (h : ∀ n e, m n = some e → e.size ≤ B) : ∀ as : List D, D.sizeL (D.subL m as) ≤ D.sizeL as * B
  | [] => by simp only [D.subL, D.sizeL]; omega
  | x :: r => by
    have := size_sub_le m B hB h x
    have := sizeL_sub_le m B hB h r
    simp only [D.subL, D.sizeL]
    rw [Nat.add_mul]
    omega
end
mutual
theorem depth_sub_le (m : Int → Option D) (B : Nat) (h : ∀ n e, m n = some e → e.depth ≤ B) : ∀ d : D, (d.sub m).depth ≤ d.depth + B
  | .v n => by
    rw [D.sub]
    cases q : m n with
    | none =>
      show 1 ≤ 1 + B
      omega
    | some e =>
      show e.depth ≤ 1 + B
      have := h n e q
      omega
  | .c s as => by
    have := depthL_sub_le m B h as
    simp only [D.sub, D.depth]
    omega
  | .t as => by
    have := depthL_sub_le m B h as
    simp only [D.sub, D.depth]
    omega
  | .f a b => by
    have := depth_sub_le m B h a
    have := depth_sub_le m B h b
    simp only [D.sub, D.depth]
    omega
theorem depthL_sub_le (m : Int → Option D) (B : Nat) (h : ∀ n e, m n = some e → e.depth ≤ B) : ∀ as : List D, D.depthL (D.subL m as) ≤ D.depthL as + B
  | [] => by simp only [D.subL, D.depthL]; omega
  | x :: r => by
    have := depth_sub_le m B h x
    have := depthL_sub_le m B h r
    simp only [D.subL, D.depthL]
    omega
end
theorem lk_one (n : Int) (e : D) : lk [(n, e)] n = some e := lk_pos rfl
/-- keys in turn: each is found -/
theorem lk_at {c : Int} : ∀ {ms : List (Int × D)} {k i : Nat} {n : Int} {d : D}, (∀ j p, ms[j]? = some p → p.1 = c + ((k + j : Nat) : Int)) → ms[i]? = some (n, d) → lk ms n = some d
  | [], _, _, _, _, _, h => by cases h
  | p :: r, k, 0, n, d, hk, h => by
    cases h
    exact lk_pos rfl
  | p :: r, k, i + 1, n, d, hk, h => by
    have h' : r[i]? = some (n, d) := h
    have e0 := hk 0 p rfl
    have e1 := hk (i + 1) (n, d) h
    have ne : ¬ p.1 = n := by
      have e1' : n = c + ((k + (i + 1) : Nat) : Int) := e1
      omega
    rw [lk_neg ne]
    refine lk_at (c := c) (k := k + 1) (i := i) (fun j p hj => ?_) h'
    have := hk (j + 1) p hj
    rw [this]
    omega
theorem Rp.ref {K : PySem.W.Frag} {H : Hp} {v : V} {d : D} (h : Rp K H v d) : ∃ p, v = .ref p := by
  obtain ⟨p, _, _, e, _⟩ := h.tag
  exact ⟨p, e⟩
/-- a shape is what it is, for == and != -/
theorem Rp.eqd {K : PySem.W.Frag} {H : Hp} {v : V} {d : D} (h : Rp K H v d) (hd : d.depth ≤ 32) : Dp K H v d.py ∧ SeqAt.shaped d.py = true ∧ PyData.eqv d.py d.py = true := by
  refine ⟨h.dp, ?_, py_self d⟩
  have := py_depth d
  unfold SeqAt.shaped
  rw [py_lay d, decide_eq_true (by omega)]
  rfl

/-! ### == of deep data -/
def rEqP (K : PySem.W.Frag) : R2 := fun x y H Q => ∃ d e, Dp K H x d ∧ Dp K H y e ∧ d.canLay0 = true ∧ e.canLay0 = true ∧ d.depth ≤ 300 ∧ Q (.bl (PyData.eqv d e)) H
theorem op_eqP {X : Cx} (hu : X.A.units + 300 < cLine) : OpR X (compareOp .Eq) (rEqP X.K) := by
  intro pins s σ H x y v u Q I rx ry h
  obtain ⟨d, e, hd, he, sd, se, dd, q⟩ := h
  obtain ⟨as, r1⟩ := Dp.reads I d x v hd rx
  obtain ⟨bs, r2⟩ := Dp.reads I e y u he ry
  have room : X.A.units + min d.depth e.depth < cLine := by
    have := Nat.min_le_left d.depth e.depth
    omega
  exact SeqAt.compareEq_reads r1 r2 sd se room ⟨.bl _, H, I, rfl, q⟩
theorem exm_mine {K : PySem.W.Frag} {mg : Str → Option Value} {x : Str} {C : Addr} (T : ExcT K mg x C) : PySem.W.exmOne K (.ref C) (.ref C) = some true := by
  have h1 := T.bP
  have h2 := T.iP
  have h3 := T.tP
  have h4 := T.sP
  have h2' : (PySem.W.clsIn K C).isSome = true := h2
  unfold PySem.W.exmOne PySem.W.kitCls
  simp only [h1, h3, h4, h2', beq_self_eq_true, Bool.and_self, if_true]
/-! ### more of the order of first occurrence -/
theorem addAll_disj : ∀ (b a : List Int), (a ++ b).Nodup → addAll a b = a ++ b
  | [], a, _ => (List.append_nil a).symm
  | m :: r, a, h => by
    have hm : m ∉ a := fun z => (List.nodup_append.mp h).2.2 m z m List.mem_cons_self rfl
    have e : (a ++ [m]) ++ r = a ++ m :: r := by rw [List.append_assoc]; rfl
    show addAll (addK a m) r = _
    unfold addK
    rw [if_neg hm, addAll_disj r (a ++ [m]) (by rw [e]; exact h), e]
theorem inV_int {n : Int} : ∀ {ns : List Int}, inV (.int n) (ns.map V.int) = decide (n ∈ ns)
  | [] => by
    rw [decide_eq_false (by simp)]
    rfl
  | m :: r => by
    have ih := inV_int (n := n) (ns := r)
    show (m == n || inV (.int n) (r.map V.int)) = _
    rw [ih]
    by_cases c : m = n
    · rw [c]
      simp
    · have c' : ¬ n = m := fun z => c z.symm
      simp [c, c']
theorem flat_ints : ∀ ns : List Int, (ns.map V.int).all flatV = true
  | [] => rfl
  | m :: r => flat_ints r
mutual
theorem sub_idn (m : Int → Option D) : ∀ d : D, (∀ n ∈ d.occ, m n = none ∨ m n = some (.v n)) → d.sub m = d
  | .v n, h => by
    rw [D.sub]
    rcases h n (by rw [D.occ]; exact List.mem_cons_self) with e | e
    · rw [e]; rfl
    · rw [e]; rfl
  | .c s as, h => by rw [D.sub, subL_idn m as (fun n hn => h n (by rw [D.occ]; exact hn))]
  | .t as, h => by rw [D.sub, subL_idn m as (fun n hn => h n (by rw [D.occ]; exact hn))]
  | .f a b, h => by
    rw [D.sub, sub_idn m a (fun n hn => h n (by rw [D.occ]; exact List.mem_append_left _ hn)), sub_idn m b (fun n hn => h n (by rw [D.occ]; exact List.mem_append_right _ (List.mem_append_left _ hn)))]
theorem subL_idn (m : Int → Option D) : ∀ as : List D, (∀ n ∈ D.occL as, m n = none ∨ m n = some (.v n)) → D.subL m as = as
  | [], _ => rfl
  | x :: r, h => by
    rw [D.subL, sub_idn m x (fun n hn => h n (by rw [D.occL]; exact List.mem_append_left _ hn)), subL_idn m r (fun n hn => h n (by rw [D.occL]; exact List.mem_append_right _ hn))]
end
theorem occL_mem {n : Int} : ∀ {as : List D}, n ∈ D.occL as → ∃ x ∈ as, n ∈ x.occ
  | [], h => by
    rw [D.occL] at h
    cases h
  | x :: r, h => by
    rw [D.occL, List.mem_append] at h
    rcases h with h | h
    · exact ⟨x, List.mem_cons_self, h⟩
    · obtain ⟨y, hy, h⟩ := occL_mem h
      exact ⟨y, List.mem_cons_of_mem _ hy, h⟩
theorem GenD.occ {fr : List Int} {l : Nat} {d : D} (h : GenD fr l d) : ∀ n ∈ d.occ, n ∈ fr := by
  induction h with
  | leafv h =>
    intro n hn
    rw [D.occ, List.mem_singleton] at hn
    rw [hn]
    exact h
  | leafc h =>
    intro n hn
    rw [D.occ, D.occL] at hn
    cases hn
  | f ha hb iha ihb =>
    intro n hn
    rw [D.occ, List.append_nil, List.mem_append] at hn
    exact hn.elim (iha n) (ihb n)
  | one h ha ih =>
    intro n hn
    rw [D.occ, D.occL, D.occL, List.append_nil] at hn
    exact ih n hn
  | t h2 h4 h ih =>
    intro n hn
    rw [D.occ] at hn
    obtain ⟨x, hx, hn⟩ := occL_mem hn
    exact ih x hx n hn
theorem vars_mem {d : D} {n : Int} : n ∈ d.vars ↔ n ∈ d.occ := by
  unfold D.vars
  rw [addAll_mem]
  simp
theorem lk_numb {n : Int} : ∀ {ns : List Int} {k i : Nat}, ns.Nodup → ns[i]? = some n → lk (numb k ns) n = some (.v ((k + i : Nat) : Int))
  | [], _, _, _, h => by cases h
  | m :: r, k, 0, _, h => by
    cases h
    exact lk_pos rfl
  | m :: r, k, i + 1, nd, h => by
    have h' : r[i]? = some n := h
    have nm : ¬ m = n := fun z => (List.nodup_cons.mp nd).1 (z ▸ List.mem_of_getElem? h')
    show lk ((m, D.v (k : Int)) :: numb (k + 1) r) n = _
    rw [lk_neg nm, lk_numb (List.nodup_cons.mp nd).2 h', show k + 1 + i = k + (i + 1) by omega]
theorem lk_numb_none {n : Int} : ∀ {ns : List Int} {k : Nat}, n ∉ ns → lk (numb k ns) n = none
  | [], _, _ => rfl
  | m :: r, k, h => by
    have nm : ¬ m = n := fun z => h (z ▸ List.mem_cons_self)
    show lk ((m, D.v (k : Int)) :: numb (k + 1) r) n = _
    rw [lk_neg nm, lk_numb_none (fun z => h (List.mem_cons_of_mem _ z))]
/-- the numbers 0 to m - 1 -/
def iota (m : Nat) : List Int := (List.range m).map fun k : Nat => (k : Int)
theorem iota_nodup (m : Nat) : (iota m).Nodup := by
  unfold iota List.Nodup
  rw [List.pairwise_map]
  exact List.Pairwise.imp (fun h e => h (Int.ofNat.inj e)) List.nodup_range
theorem iota_get {m i : Nat} (h : i < m) : (iota m)[i]? = some (i : Int) := by
  unfold iota
  rw [List.getElem?_map, List.getElem?_range h]
  rfl
theorem iota_mem {m : Nat} {n : Int} : n ∈ iota m ↔ 0 ≤ n ∧ n < (m : Int) := by
  unfold iota
  rw [List.mem_map]
  constructor
  · rintro ⟨k, hk, rfl⟩
    have := List.mem_range.mp hk
    omega
  · rintro ⟨h0, h1⟩
    exact ⟨n.toNat, List.mem_range.mpr (by omega), by omega⟩
theorem iota_len (m : Nat) : (iota m).length = m := by
  unfold iota
  rw [List.length_map, List.length_range]
theorem lk_iota {m : Nat} (n : Int) : lk (numb 0 (iota m)) n = none ∨ lk (numb 0 (iota m)) n = some (.v n) := by
  by_cases c : n ∈ iota m
  · obtain ⟨h0, h1⟩ := iota_mem.mp c
    right
    have := lk_numb (k := 0) (iota_nodup m) (iota_get (i := n.toNat) (m := m) (by omega))
    rw [show (((n.toNat : Nat) : Int)) = n by omega] at this
    rw [this]
    congr 2
    omega
  · exact .inl (lk_numb_none c)
theorem occL_vs : ∀ ns : List Int, D.occL (ns.map D.v) = ns
  | [] => by rw [List.map_nil, D.occL]
  | n :: r => by
    rw [List.map_cons, D.occL, occL_vs r, D.occ]
    rfl
end Vs

set_option Elab.async false
set_option linter.all false
set_option maxRecDepth 100000
/-! enumerate(a tuple): as a loop's source. -/
namespace PySem
open Sem (wp)
open AutoSeq1 (wpAny_loadPart')
theorem meets_enumerate_newTq (l : Addr) (items : Array Value) (n : Nat) (dct : Option Addr) (sl : Array (Option Value)) :
    Meets (Builtin.«enumerate.__new__» ⟨[.type "enumerate", .ref l], []⟩) (fun _ R s => s.heap.get? l = some { cls := .type "tuple", dict := dct, data := .seq items n, slots := sl } ∧
      R (.ok (.ret (.ref (s.heap.push { cls := .type "tuple_iterator", data := .fields #[.ref l, .int 0 0] }).objs.size)))
        { s with heap := (s.heap.push { cls := .type "tuple_iterator", data := .fields #[.ref l, .int 0 0] }).push { cls := .type "enumerate", data := .fields #[.none, .bool false, .ref s.heap.objs.size, rawInt 0, .none, .none] } }) :=
  .of_wp fun prog w A R s h => by
    obtain ⟨hp, g, d, tk, os⟩ := s; obtain ⟨hl, h⟩ := h
    have hsub := sub_enumerate
    have hL : Heap.IsTuple (Shared.heap ⟨hp, g, d, tk, os⟩) l items := ⟨_, hl, rfl, n, rfl⟩
    wp_walk using wpAny_loadPart' hl
    refine wpAny_stack_any fun st => wpAny_pure ?_
    split
    · rename_i c _ _ _ _ _
      cases (c == Value.type "enumerate")
      · wp_walk using wpAny_loadPart' hl, wpAny_pyIter_tuple hL
        exact ⟨_, rfl, h⟩
      · wp_walk using wpAny_loadPart' hl, wpAny_pyIter_tuple hL
        exact ⟨_, rfl, h⟩
    · wp_walk using wpAny_loadPart' hl, wpAny_pyIter_tuple hL
      exact ⟨_, rfl, h⟩
theorem call_enumerate_tupleq {prog : Program} {w : World} {A : Around} {E : Value → Shared → Prop} {s : Shared} {l : Addr} {items : Array Value} {Q : Value → Shared → Prop} (hL : s.heap.IsTuple l items)
    (h : ∀ h', IsEnum h' (s.heap.objs.size + 1) s.heap.objs.size 0 .none → h'.IsTupleIter s.heap.objs.size l 0 → h'.objs.size = s.heap.objs.size + 2 →
      (∀ b o, s.heap.get? b = some o → h'.get? b = some o) → Q (.ref (s.heap.objs.size + 1)) { s with heap := h' }) :
    wpAny (model prog w) A (call (.type "enumerate") [.ref l]) Q E s := by
  obtain ⟨⟨c, dct, dt, sl⟩, hl, hc, n, hd⟩ := hL
  replace hc : c = .type "tuple" := hc
  replace hd : dt = .seq items n := hd
  subst hc hd
  refine callType_new F.called_enumerate (by decide) (F.typeCall_enumerate_1 _) (F.newCall_enumerate_1 _) (fun obj => F.args_object_init_2 obj _) F.entry_enumerate_new
    (meets_enumerate_newTq l items n dct sl) ⟨hl, ?_⟩
  have hz : (s.heap.push { cls := .type "tuple_iterator", data := .fields #[.ref l, .int 0 0] }).objs.size = s.heap.objs.size + 1 := Heap.size_push ..
  show _ ∧ _
  rw [hz]
  have he : IsEnum ((s.heap.push { cls := .type "tuple_iterator", data := .fields #[.ref l, .int 0 0] }).push
      { cls := .type "enumerate", data := .fields #[.none, .bool false, .ref s.heap.objs.size, rawInt 0, .none, .none] }) (s.heap.objs.size + 1) s.heap.objs.size 0 .none := by
    have := Heap.get?_push_size (s.heap.push { cls := .type "tuple_iterator", data := .fields #[.ref l, .int 0 0] })
      (o := { cls := .type "enumerate", data := .fields #[.none, .bool false, .ref s.heap.objs.size, rawInt 0, .none, .none] }) rfl
    rw [hz] at this; exact this
  refine ⟨⟨_, he, rfl⟩, h _ he ⟨_, Heap.get?_push_of_some _ (Heap.get?_push_size _ rfl), rfl, rfl⟩ (by rw [Heap.size_push, hz]) fun b o x => Heap.get?_push_of_some _ (Heap.get?_push_of_some _ x)⟩
theorem wpAny_pyNext_enum_endTq {prog : Program} {w : World} {A : Around} {E : Value → Shared → Prop} {s : Shared} {e it l : Addr} {i : Nat} {items : Array Value} {old : Value} {Q : Option Value → Shared → Prop} (hh : A.handled = none)
    (he : IsEnum s.heap e it i old) (hit : s.heap.IsTupleIter it l i) (hl : s.heap.IsTuple l items) (hx : items[i]? = none)
    (hQ : ∀ h', Heap.ExtBut it s.heap h' → Q none { s with heap := h' }) : wpAny (model prog w) A (pyNext (.ref e)) Q E s := by
  have hT : s.TypeIs (.ref e) "enumerate" := ⟨_, he, rfl⟩
  unfold pyNext
  refine wpAny_bind (wpAny_attempt (wpAny_callSpecial?_slot (name := Str.ofString "__next__") hT F.slot_enumerate_next
    (wpAny_call_entry F.slot_enumerate_next hT F.entry_enumerate_next ?_ (F.args_enumerate_next_1 _))))
  show wpAny _ _ (field (.ref e) 2 >>= _) _ _ _
  refine wpAny_bind (wpAny_field he rfl (x := .ref it) rfl ?_)
  refine wpAny_bind (wpAny_nextOf_tuple_end (A := A.in1) hh hit hl hx fun h' x he' hx' => ?_)
  obtain ⟨o, ho, hc⟩ := hx'
  refine wpAny_bind (wpAny_isInstance (T := "StopIteration") (b := true) ⟨o, ho, hc⟩ isSubtype_stop ?_)
  exact wpAny_pure (hQ _ he')
end PySem
namespace Vr
open PySem PySem.Spec PyProof.Rows L2
/-- the tuple at a as it stands at each turn, each item in a new pair -/
def IteT (K : PySem.W.Frag) (a : Addr) : It :=
  ⟨fun i H => ∃ (xs : List V) (x : V), SqT K H a xs ∧ xs[i]? = some x, fun i H v H' => ∃ T x, v = .ref T ∧ H T = none ∧ H' = upd H T (.tup [.int (i : Nat), x]) ∧ ∀ xs, SqT K H a xs → xs[i]? = some x, fun i H => ∃ xs : List V, SqT K H a xs ∧ xs.length ≤ i⟩
theorem turn_enumT {P : Program} {w : World} {K : PySem.W.Frag} {elts : List Expr} {kk : Nat} {tpos : Pos} (a e it : Addr) :
    Turn P w K (.Tuple elts kk tpos) (IteT K a) [e, it] e (fun i h => (∃ old, IsEnum h e it ((i : Nat) : Int) old) ∧ h.IsTupleIter it a i ∧ e ≠ it) where
  mem := by simp
  obj := fun i h st b hb => by
    obtain ⟨⟨old, he⟩, ⟨o, ho, hc, hd⟩, _⟩ := st
    have e' : b = e ∨ b = it := by simpa using hb
    rcases e' with z | z
    · rw [z]; exact ⟨_, he, fun v q => nomatch q⟩
    · rw [z]; exact ⟨o, ho, fun v q => by rw [hd] at q; cases q⟩
  keep := fun i h h' st k => let ⟨⟨old, he⟩, hi, hne⟩ := st; ⟨⟨old, k e (by simp) _ he⟩, hi.at fun o q => k it (by simp) o q, hne⟩
  item := by
    intro X hP hw hK hc i pins s σ H E I hf st hg
    subst hP hw hK
    obtain ⟨⟨old, he⟩, hit, hne⟩ := st
    obtain ⟨xs, x, hq, hx⟩ := hg
    obtain ⟨its, rv, p, hz⟩ := I.tuple hq
    obtain ⟨u, hu, ru⟩ := rv.get hx
    have hel : e < s.heap.objs.size := Heap.lt_size he
    have hil : it < s.heap.objs.size := by obtain ⟨_, q, _⟩ := hit; exact Heap.lt_size q
    have pT : s.heap.IsTuple a its.toArray := p
    have hai : a ≠ it := by
      rintro rfl
      obtain ⟨o, ho, hc, _⟩ := hit
      obtain ⟨o', ho', hc', _⟩ := pT
      rw [ho] at ho'
      cases ho'
      rw [hc] at hc'
      exact absurd hc' (by decide)
    have hea : e ≠ a := by
      rintro rfl
      obtain ⟨o', ho', hc', _⟩ := pT
      have he2 : s.heap.get? e = some _ := he
      rw [he2] at ho'
      cases ho'
      have hc2 : Value.type "enumerate" = Value.type "tuple" := hc'
      exact absurd hc2 (by decide)
    have hlt : i < its.toArray.size := by
      have := (List.getElem?_eq_some_iff.mp hu).1
      simpa using this
    refine wpAny_pyNext_enum_itemD (Draws.tuple (A := X.A.in1) (show X.A.in1.handled = none from I.ok.hd hc) it a hai its.toArray) he ⟨hit, pT⟩ hlt hne (by simp [hne, hea]) fun x' h' tk hx' ho hit' hT hsz hk => ?_
    have ux : x' = u := by
      have h1 : its[i]? = some x' := by simpa using hx'
      rw [hu] at h1
      exact (Option.some.inj h1).symm
    subst ux
    refine ⟨_, rfl, wpAny_letOwnedTupleGo_enum (s := { s with heap := h', toks := tk + 1 }) ho fun h'' he' sb => ?_⟩
    have hT2 : h''.get? s.heap.objs.size = some { cls := .type "tuple", data := .seq #[.int i tk, x'] } := (sb.2 _ (Nat.ne_of_gt hel)).trans hT
    have new : ObjOk X.prog X.w (upd H s.heap.objs.size (.tup [.int (i : Nat), x])) h'' s.heap.objs.size (.tup [.int (i : Nat), x]) :=
      ⟨by show 2 ≤ sizeLine; decide, [.int i tk, x'], .cons ⟨_, rfl⟩ (.cons ru .nil), ⟨_, hT2, rfl, _, rfl⟩⟩
    have I1 : Inv X pins σ (upd H s.heap.objs.size (.tup [.int (i : Nat), x])) { s with heap := h'', toks := tk + 1 } :=
      I.turnedNew (ch := [e, it]) (fun b ob hb q => (sb.2 b (fun z => hb (by simp [z]))).trans (hk b ob (fun z => hb (by simp [z])) (fun z => hb (by simp [z])) q)) hf (Nat.le_refl _) new
    refine ⟨.ref s.heap.objs.size, _, I1, rfl, ⟨_, x, rfl, I.hok.fresh (Nat.le_refl _), rfl, fun ys hy => by rw [I.tuple_inj hy hq]; exact hx⟩, ⟨⟨x', ?_⟩, hit'.1.at fun o q => (sb.2 it (Ne.symm hne)).trans q, hne⟩, fun b hb => ?_⟩
    · have e1 : ((i + 1 : Nat) : Int) = (i : Int) + 1 := by omega
      rw [e1]; exact he'
    · have hb' : b < s.heap.objs.size := by
        have e' : b = e ∨ b = it := by simpa using hb
        rcases e' with z | z
        · rw [z]; exact hel
        · rw [z]; exact hil
      rw [upd_ne (Nat.ne_of_lt hb')]
      exact (hf b hb).1
  done := by
    intro X hP hw hK hc i pins s σ H E I hf st hg
    subst hP hw hK
    obtain ⟨⟨old, he⟩, hit, hne⟩ := st
    obtain ⟨xs, hq, hx⟩ := hg
    obtain ⟨its, rv, p, hz⟩ := I.tuple hq
    obtain ⟨f0, f1, f2, f3, f4, f5⟩ := hf it (by simp)
    have hl := rv.length
    exact wpAny_pyNext_enum_endTq (I.ok.hd hc) he hit (show s.heap.IsTuple a its.toArray from p) (by simp; omega) fun h' eb => ⟨rfl, I.turned (t' := s.toks) (fun b o hb q => eb b o hb q) f0 f1 f3 f4 f5⟩
  self := fun A i s Q E st h => let ⟨⟨_, he⟩, _⟩ := st; wpAny_pyIter_enum he h
def iEnumT (K : PySem.W.Frag) (ta : TA) : TI := fun σ H R => ta σ H fun vs H1 => ∃ a xs, vs = [.ref a] ∧ SqT K H1 a xs ∧ R (IteT K a) H1
theorem pi_enumT {X : Cx} {e : Expr} {ta : TA} {p pos tpos : Pos} {elts : List Expr} {kk : Nat} (hg : Gl X "enumerate") (hm : X.mg "enumerate" = none) (ha : PA X [e] ta) (hs : starEach [e] X.env = [(false, eval e X.env)] := by rfl) :
    PI X (.Tuple elts kk tpos) (.Call (.Name "enumerate" p) [e] [] pos) (iEnumT X.K ta) := by
  refine ⟨fun pins s σ H R I h => ?_⟩
  refine Call_ (ld_blt I hg hm boot_enumerate (PyProof.Rows.callWith_type1 (thn (ha.run pos pins s σ H _ I h) fun us s1 ⟨vs, H1, I1, r1, q1⟩ => ?_) hs rfl))
  obtain ⟨a, xs, ex, hq, q⟩ := q1
  subst ex
  cases r1 with
  | cons r rr =>
    cases rr
    cases r
    obtain ⟨its, rv, p', hz⟩ := I1.tuple hq
    refine call_enumerate_tupleq (show s1.heap.IsTuple a its.toArray from p') fun h' he hit hsz hk => wpAny_pyIter_enum he ?_
    have I2 : Inv X pins σ H1 { s1 with heap := h' } := I1.kept (t' := s1.toks) hk
    refine ⟨s1.heap.objs.size + 1, [s1.heap.objs.size + 1, s1.heap.objs.size], _, _, H1, rfl, I2, turn_enumT a (s1.heap.objs.size + 1) s1.heap.objs.size, ⟨⟨.none, he⟩, hit, Nat.succ_ne_self _⟩, fun b hb => ?_, q⟩
    have e' : b = s1.heap.objs.size + 1 ∨ b = s1.heap.objs.size := by simpa using hb
    have hle : s1.heap.objs.size ≤ b := by
      rcases e' with z | z
      · rw [z]; exact Nat.le_add_right _ _
      · rw [z]; exact Nat.le_refl _
    exact I1.fpOk hle (I1.hok.fresh hle)
/-- {k: v for a, b in enumerate(t)}, t a tuple -/
theorem dc_enumT {K : PySem.W.Frag} {a : Addr} {xs : List V} {g : TG} {tt : TT} {tk tv : TE} {vs : List Nat} {σ : L2.St} {H1 : Hp} {D : Addr} {Qd : Hp → Prop} (Pv : Nat → Hp → Prop) (h0 : Pv 0 (upd H1 D (.dK []))) (hl : ∀ i H, i ≤ xs.length → Pv i H → SqT K H a xs)
    (hs : ∀ i x T H, xs[i]? = some x → H T = none → Pv i H → g (.ref T) (wipe σ vs) (upd H T (.tup [.int (i : Nat), x])) fun σ2 H2 => wipe σ2 vs = wipe σ vs ∧ tt σ2 H2 fun b H3 =>
      if b = true then tk σ2 H3 fun y H4 => tv σ2 H4 fun z H5 => ∃ kvs k, y = kV k ∧ H5 D = some (.dK kvs) ∧ kvs.length < sizeLine ∧ Pv (i + 1) (upd H5 D (.dK (putK kvs k z))) else Pv (i + 1) H3) (hd : ∀ H, Pv xs.length H → Qd H) :
    ∃ W : Nat → Nat → Hp → Prop, (∃ m, W 0 m (upd H1 D (.dK []))) ∧ ∀ i m H, W i m H →
      ((IteT K a).stop i H ∧ Qd H) ∨ ((IteT K a).go i H ∧ ∃ Nx : Hp → Prop, (∀ H', Nx H' → ∃ m', m' < m ∧ W (i + 1) m' H') ∧ ∀ x H', (IteT K a).yld i H x H' → g x (wipe σ vs) H' fun σ2 H2 => wipe σ2 vs = wipe σ vs ∧ tt σ2 H2 fun b H3 =>
        if b = true then tk σ2 H3 fun y H4 => tv σ2 H4 fun z H5 => ∃ kvs k, y = kV k ∧ H5 D = some (.dK kvs) ∧ kvs.length < sizeLine ∧ Nx (upd H5 D (.dK (putK kvs k z))) else Nx H3) := by
  refine ⟨fun i m H => m = xs.length - i ∧ i ≤ xs.length ∧ Pv i H, ⟨xs.length, by simp, Nat.zero_le _, h0⟩, ?_⟩
  rintro i m H ⟨rfl, hi, p⟩
  have q := hl i H hi p
  by_cases hlt : i < xs.length
  · refine .inr ⟨⟨xs, xs[i], q, by simp [hlt]⟩, Pv (i + 1), fun H' p' => ⟨xs.length - (i + 1), by omega, rfl, hlt, p'⟩, fun x H' y => ?_⟩
    obtain ⟨T, z, rfl, nT, rfl, y⟩ := y
    exact hs i z T H (y xs q) nT p
  · have e : i = xs.length := by omega
    subst e
    exact .inl ⟨⟨xs, q, Nat.le_refl _⟩, hd H p⟩
/-- for k, x in enumerate(t), t a tuple -/
theorem for_enumT {K : PySem.W.Frag} {a : Addr} {xs : List V} {g : TG} {tb : TS} {D : Ends} {σ : L2.St} {H : Hp} (Pv : Nat → L2.St → Hp → Prop) (h0 : Pv 0 σ H) (hl : ∀ i σ H, i ≤ xs.length → Pv i σ H → SqT K H a xs)
    (hs : ∀ i x T σ H, xs[i]? = some x → Pv i σ H → H T = none → g (.ref T) σ (upd H T (.tup [.int (i : Nat), x])) fun σ2 H2 => tb { D with nx := Pv (i + 1), ct := Pv (i + 1), bk := D.nx } σ2 H2) (hd : ∀ σ H, Pv xs.length σ H → D.nx σ H) :
    ∃ W : Nat → Nat → L2.St → Hp → Prop, (∃ m, W 0 m σ H) ∧ ∀ i m σ H, W i m σ H →
      ((IteT K a).stop i H ∧ D.nx σ H) ∨ ((IteT K a).go i H ∧ ∃ N : L2.St → Hp → Prop, (∀ σ' H', N σ' H' → ∃ m', m' < m ∧ W (i + 1) m' σ' H') ∧ ∀ x H', (IteT K a).yld i H x H' → g x σ H' fun σ2 H2 => tb { D with nx := N, ct := N, bk := D.nx } σ2 H2) := by
  refine ⟨fun i m σ H => m = xs.length - i ∧ i ≤ xs.length ∧ Pv i σ H, ⟨xs.length, by simp, Nat.zero_le _, h0⟩, ?_⟩
  rintro i m σ H ⟨rfl, hi, p⟩
  have q := hl i σ H hi p
  by_cases hlt : i < xs.length
  · refine .inr ⟨⟨xs, xs[i], q, by simp [hlt]⟩, Pv (i + 1), fun σ' H' p' => ⟨xs.length - (i + 1), by omega, rfl, hlt, p'⟩, fun x H' y => ?_⟩
    obtain ⟨T, z, rfl, nT, rfl, y⟩ := y
    exact hs i z T σ H (y xs q) p nT
  · have e : i = xs.length := by omega
    subst e
    exact .inl ⟨⟨xs, q, Nat.le_refl _⟩, hd σ H p⟩
end Vr

set_option Elab.async false
set_option linter.all false
set_option maxRecDepth 100000
namespace Vs
open PySem PySem.Spec PyProof.Rows L2
/-! ### equal as data, equal as shapes -/
theorem sv_c : ((Str.ofString "v" : Str) == Str.ofString "c") = false := by decide +kernel
theorem sv_t : ((Str.ofString "v" : Str) == Str.ofString "t") = false := by decide +kernel
theorem sv_f : ((Str.ofString "v" : Str) == Str.ofString "f") = false := by decide +kernel
theorem sc_v : ((Str.ofString "c" : Str) == Str.ofString "v") = false := by decide +kernel
theorem sc_t : ((Str.ofString "c" : Str) == Str.ofString "t") = false := by decide +kernel
theorem sc_f : ((Str.ofString "c" : Str) == Str.ofString "f") = false := by decide +kernel
theorem st_v : ((Str.ofString "t" : Str) == Str.ofString "v") = false := by decide +kernel
theorem st_c : ((Str.ofString "t" : Str) == Str.ofString "c") = false := by decide +kernel
theorem st_f : ((Str.ofString "t" : Str) == Str.ofString "f") = false := by decide +kernel
theorem sf_v : ((Str.ofString "f" : Str) == Str.ofString "v") = false := by decide +kernel
theorem sf_c : ((Str.ofString "f" : Str) == Str.ofString "c") = false := by decide +kernel
theorem sf_t : ((Str.ofString "f" : Str) == Str.ofString "t") = false := by decide +kernel
theorem tag_ne {k l : Str} {r s : List PyData} (h : (k == l) = false) : ¬ PyData.eqv (.tuple (.str k :: r)) (.tuple (.str l :: s)) = true := by
  intro e
  have e' : ((k == l) && PyData.eqvAll r s) = true := e
  rw [h] at e'
  cases e'
theorem tag_eq {k : Str} {r s : List PyData} (h : PyData.eqv (.tuple (.str k :: r)) (.tuple (.str k :: s)) = true) : PyData.eqvAll r s = true := by
  have e' : ((k == k) && PyData.eqvAll r s) = true := h
  exact (Bool.and_eq_true _ _ ▸ e').2
theorem all_two {a b : PyData} {r s : List PyData} (h : PyData.eqvAll (a :: r) (b :: s) = true) : PyData.eqv a b = true ∧ PyData.eqvAll r s = true := by
  have e' : (PyData.eqv a b && PyData.eqvAll r s) = true := h
  exact (Bool.and_eq_true _ _ ▸ e')
theorem int_one {a b : Int} (h : PyData.eqv (.int a) (.int b) = true) : a = b := by
  have e' : (a == b) = true := h
  exact eq_of_beq e'
mutual
theorem eqv_py : ∀ d e : D, PyData.eqv d.py e.py = true → d = e
  | .v n, e, h => by
    cases e with
    | v m =>
      rw [D.py, D.py] at h
      rw [int_one (all_two (tag_eq h)).1]
    | c s as => rw [D.py, D.py] at h; exact absurd h (tag_ne sv_c)
    | t as => rw [D.py, D.py] at h; exact absurd h (tag_ne sv_t)
    | f a b => rw [D.py, D.py] at h; exact absurd h (tag_ne sv_f)
  | .c a as, e, h => by
    cases e with
    | v m => rw [D.py, D.py] at h; exact absurd h (tag_ne sc_v)
    | c b bs =>
      rw [D.py, D.py] at h
      have h2 := all_two (tag_eq h)
      have h3 := all_two h2.2
      rw [int_one h2.1, eqv_pyL as bs h3.1]
    | t as => rw [D.py, D.py] at h; exact absurd h (tag_ne sc_t)
    | f a b => rw [D.py, D.py] at h; exact absurd h (tag_ne sc_f)
  | .t as, e, h => by
    cases e with
    | v m => rw [D.py, D.py] at h; exact absurd h (tag_ne st_v)
    | c s as => rw [D.py, D.py] at h; exact absurd h (tag_ne st_c)
    | t bs =>
      rw [D.py, D.py] at h
      rw [eqv_pyL as bs (all_two (tag_eq h)).1]
    | f a b => rw [D.py, D.py] at h; exact absurd h (tag_ne st_f)
  | .f a b, e, h => by
    cases e with
    | v m => rw [D.py, D.py] at h; exact absurd h (tag_ne sf_v)
    | c s as => rw [D.py, D.py] at h; exact absurd h (tag_ne sf_c)
    | t as => rw [D.py, D.py] at h; exact absurd h (tag_ne sf_t)
    | f x y =>
      rw [D.py, D.py] at h
      have h2 := all_two (tag_eq h)
      rw [eqv_py a x h2.1, eqv_py b y (all_two h2.2).1]
theorem eqv_pyL : ∀ as bs : List D, PyData.eqvAll (D.pyL as) (D.pyL bs) = true → as = bs
  | [], bs, h => by
    cases bs with
    | nil => rfl
    | cons y s => rw [D.pyL, D.pyL] at h; cases h
  | x :: r, bs, h => by
    cases bs with
    | nil => rw [D.pyL, D.pyL] at h; cases h
    | cons y s =>
      rw [D.pyL, D.pyL] at h
      have h2 := all_two h
      rw [eqv_py x y h2.1, eqv_pyL r s h2.2]
end
open Classical in
theorem eqv_dec (d e : D) : PyData.eqv d.py e.py = decide (d = e) := by
  by_cases h : d = e
  · rw [h, py_self, decide_eq_true rfl]
  · rw [decide_eq_false h]
    cases q : PyData.eqv d.py e.py with
    | false => rfl
    | true => exact absurd (eqv_py d e q) h
/-! ### matching -/
def D.hd : D → Int × Int
  | .v n => (0, n)
  | .c s _ => (1, s)
  | .t _ => (2, 0)
  | .f _ _ => (3, 0)
def D.sameHd (p s : D) : Prop := p.hd = s.hd ∧ p.kids.length = s.kids.length
open Classical in
mutual
noncomputable def mt (c : Int) : D → D → List (Int × D) → Option (List (Int × D))
  | .v n, s, st => if n < c then (match lk st n with
      | some e => if e = s then some st else none
      | none => some (st ++ [(n, s)])) else if D.sameHd (.v n) s then some st else none
  | .c a as, s, st => if D.sameHd (.c a as) s then mtL c as s.kids st else none
  | .t as, s, st => if D.sameHd (.t as) s then mtL c as s.kids st else none
  | .f a b, s, st => if D.sameHd (.f a b) s then (match s.kids with
      | [x, y] => (mt c a x st).bind fun st1 => (mt c b y st1)
      | _ => none) else none
noncomputable def mtL (c : Int) : List D → List D → List (Int × D) → Option (List (Int × D))
  | [], _, st => some st
  | p :: ps, ss, st => match ss with
    | [] => none
    | x :: r => (mt c p x st).bind fun st1 => mtL c ps r st1
end
theorem len_two {α : Type} {l : List α} (h : 2 = l.length) : ∃ x y, l = [x, y] := by
  match l, h with
  | [x, y], _ => exact ⟨x, y, rfl⟩
open Classical in
theorem mt_node (c : Int) (p s : D) (st : List (Int × D)) (h : ∀ n, p = .v n → ¬ n < c) : mt c p s st = if D.sameHd p s then mtL c p.kids s.kids st else none := by
  cases p with
  | v n =>
    rw [mt, if_neg (h n rfl)]
    split
    · rw [D.kids, mtL]
    · rfl
  | c a as => rw [mt, D.kids]
  | t as => rw [mt, D.kids]
  | f a b =>
    rw [mt]
    split
    · rename_i sh
      obtain ⟨x, y, e⟩ := len_two (l := s.kids) sh.2
      rw [e, D.kids, mtL]
      show ((mt c a x st).bind fun st1 => mt c b y st1) = (mt c a x st).bind fun st1 => mtL c [b] [y] st1
      cases mt c a x st with
      | none => rfl
      | some st1 =>
      show mt c b y st1 = mtL c [b] [y] st1
      rw [mtL]
      cases mt c b y st1 with
      | none => rfl
      | some z =>
        show some z = mtL c [] [] z
        rw [mtL]
    · rfl
open Classical in
theorem mt_var (c : Int) (n : Int) (s : D) (st : List (Int × D)) (h : n < c) : mt c (.v n) s st = match lk st n with
      | some e => if PyData.eqv e.py s.py = true then some st else none
      | none => some (st ++ [(n, s)]) := by
  rw [mt, if_pos h]
  cases lk st n with
  | none => rfl
  | some e =>
    show (if e = s then some st else none) = if PyData.eqv e.py s.py = true then some st else none
    rw [eqv_dec]
    by_cases q : e = s
    · rw [if_pos q, if_pos (decide_eq_true q)]
    · rw [if_neg q, if_neg (by rw [decide_eq_false q]; decide)]
end Vs

set_option Elab.async false
set_option linter.all false
set_option maxRecDepth 100000
namespace Vs
open PySem PySem.Spec PyProof.Rows L2
theorem lk_snoc (st : List (Int × D)) (n : Int) (s : D) (m : Int) : lk (st ++ [(n, s)]) m = match lk st m with
    | some e => some e
    | none => if n = m then some s else none := by
  induction st with
  | nil =>
    show lk [(n, s)] m = if n = m then some s else none
    by_cases h : n = m
    · rw [if_pos h, lk_pos h]
    · rw [if_neg h, lk_neg h]
      rfl
  | cons p r ih =>
    by_cases h : p.1 = m
    · rw [lk_pos h, List.cons_append, lk_pos h]
    · rw [lk_neg h, List.cons_append, lk_neg h]
      exact ih
def Ext (st st' : List (Int × D)) : Prop := ∀ n e, lk st n = some e → lk st' n = some e
mutual
theorem mt_ext (c : Int) : ∀ (p s : D) (st st' : List (Int × D)), mt c p s st = some st' → Ext st st' ∧ ∀ n ∈ p.occ, n < c → lk st' n ≠ none
  | .v n, s, st, st', h => by
    by_cases hn : n < c
    · rw [mt_var c n s st hn] at h
      cases q : lk st n with
      | some e =>
        rw [q] at h
        dsimp only at h
        split at h
        · cases h
          refine ⟨fun _ _ z => z, fun k hk _ => ?_⟩
          rw [D.occ, List.mem_singleton] at hk
          rw [hk, q]
          exact fun z => by cases z
        · cases h
      | none =>
        rw [q] at h
        cases h
        refine ⟨fun k e hk => by rw [lk_snoc, hk], fun k hk _ => ?_⟩
        rw [D.occ, List.mem_singleton] at hk
        rw [hk, lk_snoc, q]
        show (if n = n then some s else none) ≠ none
        rw [if_pos rfl]
        exact fun z => by cases z
    · rw [mt_node c _ s st (fun k hk => by cases hk; exact hn)] at h
      split at h
      · rw [D.kids, mtL] at h
        cases h
        refine ⟨fun _ _ z => z, fun k hk hc => ?_⟩
        rw [D.occ, List.mem_singleton] at hk
        rw [hk] at hc
        exact absurd hc hn
      · cases h
  | .c a as, s, st, st', h => by
    rw [mt] at h
    split at h
    · have := mtL_ext c as s.kids st st' h
      rw [D.occ]
      exact this
    · cases h
  | .t as, s, st, st', h => by
    rw [mt] at h
    split at h
    · have := mtL_ext c as s.kids st st' h
      rw [D.occ]
      exact this
    · cases h
  | .f a b, s, st, st', h => by
    rw [mt] at h
    split at h
    · split at h
      · rename_i x y _
        cases q : mt c a x st with
        | none =>
          rw [q] at h
          cases h
        | some st1 =>
          rw [q] at h
          have h1 := mt_ext c a x st st1 q
          have h2 := mt_ext c b y st1 st' h
          refine ⟨fun n e z => h2.1 n e (h1.1 n e z), fun n hn hc => ?_⟩
          rw [D.occ, List.append_nil, List.mem_append] at hn
          rcases hn with hn | hn
          · cases q2 : lk st1 n with
            | none => exact absurd q2 (h1.2 n hn hc)
            | some e =>
              rw [h2.1 n e q2]
              exact fun z => by cases z
          · exact h2.2 n hn hc
      · cases h
    · cases h
theorem mtL_ext (c : Int) : ∀ (ps ss : List D) (st st' : List (Int × D)), mtL c ps ss st = some st' → Ext st st' ∧ ∀ n ∈ D.occL ps, n < c → lk st' n ≠ none
  | [], ss, st, st', h => by
    rw [mtL] at h
    cases h
    refine ⟨fun _ _ z => z, fun k hk hc => ?_⟩
    rw [D.occL] at hk
    cases hk
  | p :: ps, ss, st, st', h => by
    rw [mtL.eq_def] at h
    cases ss with
    | nil => cases h
    | cons x r =>
      dsimp only at h
      cases q : mt c p x st with
      | none =>
        rw [q] at h
        cases h
      | some st1 =>
        rw [q] at h
        have h1 := mt_ext c p x st st1 q
        have h2 := mtL_ext c ps r st1 st' h
        refine ⟨fun n e z => h2.1 n e (h1.1 n e z), fun n hn hc => ?_⟩
        rw [D.occL, List.mem_append] at hn
        rcases hn with hn | hn
        · cases q2 : lk st1 n with
          | none => exact absurd q2 (h1.2 n hn hc)
          | some e =>
            rw [h2.1 n e q2]
            exact fun z => by cases z
        · exact h2.2 n hn hc
end
/-- what is known of each variable of a pattern under an instance -/
def Fit (c : Int) (m : Int → Option D) (ns : List Int) : Prop := ∀ n ∈ ns, (n < c ∧ ∃ e, m n = some e) ∨ (¬ n < c ∧ m n = none)
theorem sub_hd (m : Int → Option D) : ∀ p : D, p.isV = false → p.sameHd (p.sub m)
  | .v _, h => by cases h
  | .c s as, _ => by
    rw [D.sub]
    exact ⟨rfl, (subL_len m as).symm⟩
  | .t as, _ => by
    rw [D.sub]
    exact ⟨rfl, (subL_len m as).symm⟩
  | .f a b, _ => by
    rw [D.sub]
    exact ⟨rfl, rfl⟩
mutual
theorem mt_inst (c : Int) (m : Int → Option D) : ∀ (p : D) (st : List (Int × D)), Fit c m p.occ → (∀ n e, lk st n = some e → m n = some e) → ∃ st', mt c p (p.sub m) st = some st' ∧ ∀ n e, lk st' n = some e → m n = some e
  | .v n, st, hf, hs => by
    rcases hf n (by rw [D.occ]; exact List.mem_cons_self) with ⟨h1, e, he⟩ | ⟨h1, h2⟩
    · have es : (D.v n).sub m = e := by
        rw [D.sub, he]
        rfl
      rw [es, mt_var c n e st h1]
      cases q : lk st n with
      | some e' =>
        have := hs n e' q
        rw [he] at this
        cases this
        dsimp only
        rw [py_self, if_pos rfl]
        exact ⟨st, rfl, hs⟩
      | none =>
        refine ⟨_, rfl, fun k x hk => ?_⟩
        rw [lk_snoc] at hk
        cases q2 : lk st k with
        | some y =>
          rw [q2] at hk
          cases hk
          exact hs k _ q2
        | none =>
          rw [q2] at hk
          dsimp only at hk
          split at hk
          · rename_i hnk
            cases hk
            rw [← hnk]
            exact he
          · cases hk
    · have es : (D.v n).sub m = .v n := by
        rw [D.sub, h2]
        rfl
      rw [es, mt_node c _ _ st (fun k hk => by cases hk; exact h1), if_pos ⟨rfl, rfl⟩, D.kids, mtL]
      exact ⟨st, rfl, hs⟩
  | .c a as, st, hf, hs => by
    rw [mt, if_pos (sub_hd m (.c a as) rfl), sub_kids m (.c a as) rfl, D.kids]
    rw [D.occ] at hf
    exact mtL_inst c m as st hf hs
  | .t as, st, hf, hs => by
    rw [mt, if_pos (sub_hd m (.t as) rfl), sub_kids m (.t as) rfl, D.kids]
    rw [D.occ] at hf
    exact mtL_inst c m as st hf hs
  | .f a b, st, hf, hs => by
    rw [mt, if_pos (sub_hd m (.f a b) rfl), D.sub, D.kids]
    rw [D.occ, List.append_nil] at hf
    obtain ⟨st1, e1, h1⟩ := mt_inst c m a st (fun n hn => hf n (List.mem_append_left _ hn)) hs
    obtain ⟨st2, e2, h2⟩ := mt_inst c m b st1 (fun n hn => hf n (List.mem_append_right _ hn)) h1
    refine ⟨st2, ?_, h2⟩
    show ((mt c a (a.sub m) st).bind fun st1 => mt c b (b.sub m) st1) = _
    rw [e1]
    exact e2
theorem mtL_inst (c : Int) (m : Int → Option D) : ∀ (ps : List D) (st : List (Int × D)), Fit c m (D.occL ps) → (∀ n e, lk st n = some e → m n = some e) → ∃ st', mtL c ps (D.subL m ps) st = some st' ∧ ∀ n e, lk st' n = some e → m n = some e
  | [], st, _, hs => ⟨st, by rw [mtL], hs⟩
  | p :: ps, st, hf, hs => by
    rw [D.occL] at hf
    obtain ⟨st1, e1, h1⟩ := mt_inst c m p st (fun n hn => hf n (List.mem_append_left _ hn)) hs
    obtain ⟨st2, e2, h2⟩ := mtL_inst c m ps st1 (fun n hn => hf n (List.mem_append_right _ hn)) h1
    refine ⟨st2, ?_, h2⟩
    rw [D.subL, mtL]
    show ((mt c p (p.sub m) st).bind fun st1 => mtL c ps (D.subL m ps) st1) = _
    rw [e1]
    exact e2
end
/-! ### constants for the free variables -/
def mkm (n : Int) : Option D := if 1000000 ≤ n then some (.c (900 + n) []) else none
def mk (d : D) : D := d.sub mkm
mutual
def D.pl : D → Prop
  | .v _ => True
  | .c s as => s < 1000900 ∧ D.plL as
  | .t as => D.plL as
  | .f a b => a.pl ∧ b.pl
def D.plL : List D → Prop
  | [] => True
  | x :: r => x.pl ∧ D.plL r
end
theorem mk_v (n : Int) : mk (.v n) = if 1000000 ≤ n then .c (900 + n) [] else .v n := by
  unfold mk
  rw [D.sub]
  unfold mkm
  by_cases h : 1000000 ≤ n
  · rw [if_pos h, if_pos h]
    rfl
  · rw [if_neg h, if_neg h]
    rfl
mutual
theorem mk_inj : ∀ d e : D, d.pl → e.pl → mk d = mk e → d = e
  | .v n, e, hd, he, h => by
    rw [mk_v] at h
    cases e with
    | v m =>
      rw [mk_v] at h
      split at h <;> split at h
      · have := (D.c.inj h).1
        rw [show n = m by omega]
      · cases h
      · cases h
      · exact h
    | c b bs =>
      unfold mk at h
      rw [D.sub] at h
      have hb : b < 1000900 := by
        rw [D.pl] at he
        exact he.1
      split at h
      · have := (D.c.inj h).1
        omega
      · cases h
    | t bs =>
      unfold mk at h
      rw [D.sub] at h
      split at h <;> cases h
    | f x y =>
      unfold mk at h
      rw [D.sub] at h
      split at h <;> cases h
  | .c a as, e, hd, he, h => by
    rw [D.pl] at hd
    have e1 : mk (.c a as) = .c a (D.subL mkm as) := by
      unfold mk
      rw [D.sub]
    rw [e1] at h
    cases e with
    | v m =>
      rw [mk_v] at h
      split at h
      · have := (D.c.inj h).1
        omega
      · cases h
    | c b bs =>
      unfold mk at h
      rw [D.sub] at h
      rw [D.pl] at he
      have h2 := D.c.inj h
      rw [h2.1, mk_injL as bs hd.2 he.2 h2.2]
    | t bs =>
      unfold mk at h
      rw [D.sub] at h
      cases h
    | f x y =>
      unfold mk at h
      rw [D.sub] at h
      cases h
  | .t as, e, hd, he, h => by
    rw [D.pl] at hd
    have e1 : mk (.t as) = .t (D.subL mkm as) := by
      unfold mk
      rw [D.sub]
    rw [e1] at h
    cases e with
    | v m =>
      rw [mk_v] at h
      split at h <;> cases h
    | c b bs =>
      unfold mk at h
      rw [D.sub] at h
      cases h
    | t bs =>
      unfold mk at h
      rw [D.sub] at h
      rw [D.pl] at he
      rw [mk_injL as bs hd he (D.t.inj h)]
    | f x y =>
      unfold mk at h
      rw [D.sub] at h
      cases h
  | .f a b, e, hd, he, h => by
    rw [D.pl] at hd
    have e1 : mk (.f a b) = .f (mk a) (mk b) := by
      unfold mk
      rw [D.sub]
    rw [e1] at h
    cases e with
    | v m =>
      rw [mk_v] at h
      split at h <;> cases h
    | c b bs =>
      unfold mk at h
      rw [D.sub] at h
      cases h
    | t bs =>
      unfold mk at h
      rw [D.sub] at h
      cases h
    | f x y =>
      have e2 : mk (.f x y) = .f (mk x) (mk y) := by
        unfold mk
        rw [D.sub]
      rw [e2] at h
      rw [D.pl] at he
      have h2 := D.f.inj h
      rw [mk_inj a x hd.1 he.1 h2.1, mk_inj b y hd.2 he.2 h2.2]
theorem mk_injL : ∀ as bs : List D, D.plL as → D.plL bs → D.subL mkm as = D.subL mkm bs → as = bs
  | [], bs, _, _, h => by
    cases bs with
    | nil => rfl
    | cons y s => rw [D.subL, D.subL] at h; cases h
  | x :: r, bs, hd, he, h => by
    cases bs with
    | nil => rw [D.subL, D.subL] at h; cases h
    | cons y s =>
      rw [D.subL, D.subL] at h
      rw [D.plL] at hd he
      have h2 := List.cons.inj h
      rw [mk_inj x y hd.1 he.1 h2.1, mk_injL r s hd.2 he.2 h2.2]
end
end Vs
namespace Vs
open PySem PySem.Spec PyProof.Rows L2
/-! ### matching after the marking -/
def mkS (st : List (Int × D)) : List (Int × D) := st.map fun p => (p.1, mk p.2)
theorem lk_mkS (st : List (Int × D)) (n : Int) : lk (mkS st) n = (lk st n).map mk := by
  induction st with
  | nil => rfl
  | cons p r ih =>
    by_cases h : p.1 = n
    · rw [lk_pos h]
      exact lk_pos (p := (p.1, mk p.2)) h
    · rw [lk_neg h]
      exact (lk_neg (p := (p.1, mk p.2)) h).trans ih
def Pls (st : List (Int × D)) : Prop := ∀ n e, lk st n = some e → e.pl
theorem mkS_snoc (st : List (Int × D)) (n : Int) (s : D) : mkS (st ++ [(n, s)]) = mkS st ++ [(n, mk s)] := by
  unfold mkS
  rw [List.map_append]
  rfl
theorem mk_len (d : D) : d.isV = false → (mk d).kids = D.subL mkm d.kids := fun h => sub_kids mkm d h
theorem pl_kids : ∀ d : D, d.pl → D.plL d.kids
  | .v _, _ => by
    rw [D.kids, D.plL]
    exact True.intro
  | .c s as, h => by
    rw [D.pl] at h
    exact h.2
  | .t as, h => by
    rw [D.pl] at h
    exact h
  | .f a b, h => by
    rw [D.pl] at h
    rw [D.kids, D.plL, D.plL, D.plL]
    exact ⟨h.1, h.2, True.intro⟩
/-- the heads of a node and of any shape are alike after the marking just as before -/
theorem hd_mk {p s : D} (hp : p.pl) (hs : s.pl) (nv : p.isV = false) : p.sameHd s ↔ (mk p).sameHd (mk s) := by
  have hph : (mk p).hd = p.hd ∧ (mk p).kids.length = p.kids.length := by
    refine ⟨?_, by rw [mk_len p nv, subL_len]⟩
    cases p with
    | v n => cases nv
    | c a as =>
      unfold mk
      rw [D.sub]
      rfl
    | t as =>
      unfold mk
      rw [D.sub]
      rfl
    | f a b =>
      unfold mk
      rw [D.sub]
      rfl
  unfold D.sameHd
  rw [hph.1, hph.2]
  cases s with
  | v m =>
    rw [mk_v]
    constructor
    · rintro ⟨h, _⟩
      cases p with
      | v n => cases nv
      | c a as => cases (Prod.mk.inj h).1
      | t as => cases (Prod.mk.inj h).1
      | f a b => cases (Prod.mk.inj h).1
    · rintro ⟨h, _⟩
      split at h
      · cases p with
        | v n => cases nv
        | c a as =>
          have h2 : a = 900 + m := (Prod.mk.inj h).2
          rw [D.pl] at hp
          omega
        | t as => cases (Prod.mk.inj h).1
        | f a b => cases (Prod.mk.inj h).1
      · cases p with
        | v n => cases nv
        | c a as => cases (Prod.mk.inj h).1
        | t as => cases (Prod.mk.inj h).1
        | f a b => cases (Prod.mk.inj h).1
  | c b bs =>
    rw [mk_len (.c b bs) rfl, subL_len]
    unfold mk
    rw [D.sub]
    exact Iff.rfl
  | t bs =>
    rw [mk_len (.t bs) rfl, subL_len]
    unfold mk
    rw [D.sub]
    exact Iff.rfl
  | f x y =>
    rw [mk_len (.f x y) rfl, subL_len]
    unfold mk
    rw [D.sub]
    exact Iff.rfl
theorem sameHd_nv {p s : D} (nv : p.isV = false) (h : p.sameHd s) : s.isV = false := by
  cases s with
  | v m =>
    cases p with
    | v n => cases nv
    | c a as => cases (Prod.mk.inj h.1).1
    | t as => cases (Prod.mk.inj h.1).1
    | f a b => cases (Prod.mk.inj h.1).1
  | c b bs => rfl
  | t bs => rfl
  | f x y => rfl
/-- what the marking does to an answer -/
def MkAns (a b : Option (List (Int × D))) : Prop := b = a.map mkS ∧ ∀ st', a = some st' → Pls st'
theorem MkAns.bind {a b : Option (List (Int × D))} {f g : List (Int × D) → Option (List (Int × D))} (h : MkAns a b) (hf : ∀ st, a = some st → Pls st → MkAns (f st) (g (mkS st))) : MkAns (a.bind f) (b.bind g) := by
  obtain ⟨h1, h2⟩ := h
  subst h1
  cases a with
  | none => exact ⟨rfl, fun _ z => by cases z⟩
  | some st => exact hf st rfl (h2 st rfl)
theorem mk_nv {p : D} (nv : p.isV = false) : (mk p).isV = false := by
  cases p with
  | v n => cases nv
  | c a as =>
    unfold mk
    rw [D.sub]
    rfl
  | t as =>
    unfold mk
    rw [D.sub]
    rfl
  | f a b =>
    unfold mk
    rw [D.sub]
    rfl
mutual
theorem mt_mark (c k : Int) (hc : c ≤ 1000000) (hk : 1000000 ≤ k) : ∀ (p s : D) (st : List (Int × D)), p.pl → s.pl → (∀ n ∈ p.occ, n < c ∨ 1000000 ≤ n) → Pls st → MkAns (mt c p s st) (mt k (mk p) (mk s) (mkS st))
  | .v n, s, st, _, hs, ho, hst => by
    rcases ho n (by rw [D.occ]; exact List.mem_cons_self) with h | h
    · rw [mk_v, if_neg (by omega), mt_var c n s st h, mt_var k n (mk s) (mkS st) (by omega), lk_mkS]
      cases q : lk st n with
      | some e =>
        have pe := hst n e q
        show MkAns (if PyData.eqv e.py s.py = true then some st else none) (if PyData.eqv (mk e).py (mk s).py = true then some (mkS st) else none)
        by_cases g : e = s
        · rw [g, py_self, py_self, if_pos rfl, if_pos rfl]
          exact ⟨rfl, fun _ z => by cases z; exact hst⟩
        · rw [if_neg (fun z => g (eqv_py _ _ z)), if_neg (fun z => g (mk_inj e s pe hs (eqv_py _ _ z)))]
          exact ⟨rfl, fun _ z => by cases z⟩
      | none =>
        show MkAns (some (st ++ [(n, s)])) (some (mkS st ++ [(n, mk s)]))
        refine ⟨by rw [← mkS_snoc]; rfl, fun st' z => ?_⟩
        cases z
        intro m e hm
        rw [lk_snoc] at hm
        cases q2 : lk st m with
        | some y =>
          rw [q2] at hm
          cases hm
          exact hst m _ q2
        | none =>
          rw [q2] at hm
          dsimp only at hm
          split at hm
          · cases hm
            exact hs
          · cases hm
    · rw [mk_v, if_pos h, mt_node c (.v n) s st (fun m e => by cases e; omega), mt_node k (.c (900 + n) []) (mk s) (mkS st) (fun m e => by cases e), D.kids, D.kids, mtL, mtL]
      have e : (D.v n).sameHd s ↔ (D.c (900 + n) []).sameHd (mk s) := by
        unfold D.sameHd
        cases s with
        | v m =>
          rw [mk_v]
          constructor
          · rintro ⟨z, _⟩
            have z2 : n = m := (Prod.mk.inj z).2
            rw [← z2, if_pos h]
            exact ⟨rfl, rfl⟩
          · rintro ⟨z, _⟩
            split at z
            · have z2 : 900 + n = 900 + m := (Prod.mk.inj z).2
              rw [show n = m by omega]
              exact ⟨rfl, rfl⟩
            · cases (Prod.mk.inj z).1
        | c b bs =>
          constructor
          · rintro ⟨z, _⟩
            cases (Prod.mk.inj z).1
          · rintro ⟨z, _⟩
            unfold mk at z
            rw [D.sub] at z
            have z2 : 900 + n = b := (Prod.mk.inj z).2
            rw [D.pl] at hs
            omega
        | t bs =>
          constructor
          · rintro ⟨z, _⟩
            cases (Prod.mk.inj z).1
          · rintro ⟨z, _⟩
            unfold mk at z
            rw [D.sub] at z
            cases (Prod.mk.inj z).1
        | f x y =>
          constructor
          · rintro ⟨z, _⟩
            cases (Prod.mk.inj z).1
          · rintro ⟨z, _⟩
            unfold mk at z
            rw [D.sub] at z
            cases (Prod.mk.inj z).1
      by_cases g : (D.v n).sameHd s
      · rw [if_pos g, if_pos (e.mp g)]
        exact ⟨rfl, fun _ z => by cases z; exact hst⟩
      · rw [if_neg g, if_neg (fun z => g (e.mpr z))]
        exact ⟨rfl, fun _ z => by cases z⟩
  | .c a as, s, st, hp, hs, ho, hst => by
    rw [mt_node c (.c a as) s st (fun n e => by cases e), mt_node k (mk (.c a as)) (mk s) (mkS st) (fun n e => by have := mk_nv (p := .c a as) rfl; rw [e] at this; cases this)]
    by_cases g : (D.c a as).sameHd s
    · rw [if_pos g, if_pos ((hd_mk hp hs rfl).mp g), mk_len _ rfl, mk_len s (sameHd_nv rfl g)]
      rw [D.occ] at ho
      exact mtL_mark c k hc hk as s.kids st (pl_kids _ hp) (pl_kids _ hs) ho hst
    · rw [if_neg g, if_neg (fun z => g ((hd_mk hp hs rfl).mpr z))]
      exact ⟨rfl, fun _ z => by cases z⟩
  | .t as, s, st, hp, hs, ho, hst => by
    rw [mt_node c (.t as) s st (fun n e => by cases e), mt_node k (mk (.t as)) (mk s) (mkS st) (fun n e => by have := mk_nv (p := .t as) rfl; rw [e] at this; cases this)]
    by_cases g : (D.t as).sameHd s
    · rw [if_pos g, if_pos ((hd_mk hp hs rfl).mp g), mk_len _ rfl, mk_len s (sameHd_nv rfl g)]
      rw [D.occ] at ho
      exact mtL_mark c k hc hk as s.kids st (pl_kids _ hp) (pl_kids _ hs) ho hst
    · rw [if_neg g, if_neg (fun z => g ((hd_mk hp hs rfl).mpr z))]
      exact ⟨rfl, fun _ z => by cases z⟩
  | .f a b, s, st, hp, hs, ho, hst => by
    have e1 : mk (.f a b) = .f (mk a) (mk b) := by
      unfold mk
      rw [D.sub]
    have hh := hd_mk hp hs rfl
    rw [D.pl] at hp
    rw [D.occ, List.append_nil] at ho
    rw [e1] at hh
    rw [e1, mt, mt]
    by_cases g : (D.f a b).sameHd s
    · rw [if_pos g, if_pos (hh.mp g), mk_len s (sameHd_nv rfl g)]
      have pk := pl_kids _ hs
      obtain ⟨x, y, e⟩ := len_two (l := s.kids) g.2
      rw [e, D.plL, D.plL] at pk
      rw [e, D.subL, D.subL, D.subL]
      exact MkAns.bind (mt_mark c k hc hk a x st hp.1 pk.1 (fun n hn => ho n (List.mem_append_left _ hn)) hst) fun st1 _ h1 =>
        mt_mark c k hc hk b y st1 hp.2 pk.2.1 (fun n hn => ho n (List.mem_append_right _ hn)) h1
    · rw [if_neg g, if_neg (fun z => g (hh.mpr z))]
      exact ⟨rfl, fun _ z => by cases z⟩
theorem mtL_mark (c k : Int) (hc : c ≤ 1000000) (hk : 1000000 ≤ k) : ∀ (ps ss : List D) (st : List (Int × D)), D.plL ps → D.plL ss → (∀ n ∈ D.occL ps, n < c ∨ 1000000 ≤ n) → Pls st → MkAns (mtL c ps ss st) (mtL k (D.subL mkm ps) (D.subL mkm ss) (mkS st))
  | [], ss, st, _, _, _, hst => by
    rw [D.subL, mtL, mtL]
    exact ⟨rfl, fun _ z => by cases z; exact hst⟩
  | p :: ps, ss, st, hp, hs, ho, hst => by
    rw [D.plL] at hp
    rw [D.occL] at ho
    cases ss with
    | nil =>
      rw [D.subL, D.subL, mtL, mtL]
      exact ⟨rfl, fun _ z => by cases z⟩
    | cons x r =>
      rw [D.plL] at hs
      rw [D.subL, D.subL, mtL, mtL]
      exact MkAns.bind (mt_mark c k hc hk p x st hp.1 hs.1 (fun n hn => ho n (List.mem_append_left _ hn)) hst) fun st1 _ h1 =>
        mtL_mark c k hc hk ps r st1 hp.2 hs.2 (fun n hn => ho n (List.mem_append_right _ hn)) h1
end
end Vs
namespace Vs
open PySem PySem.Spec PyProof.Rows L2
mutual
theorem mt_bd (c : Int) (B : Nat) : ∀ (p s : D) (st st' : List (Int × D)), mt c p s st = some st' → s.depth ≤ B → (∀ x ∈ st, x.2.depth ≤ B) → st'.length ≤ st.length + p.size ∧ ∀ x ∈ st', x.2.depth ≤ B
  | .v n, s, st, st', h, hs, hst => by
    have z1 : (D.v n).size = 1 := by simp only [D.size]
    by_cases hn : n < c
    · rw [mt_var c n s st hn] at h
      cases q : lk st n with
      | some e =>
        rw [q] at h
        dsimp only at h
        split at h
        · cases h
          exact ⟨by omega, hst⟩
        · cases h
      | none =>
        rw [q] at h
        cases h
        refine ⟨by rw [List.length_append, z1]; exact Nat.le_refl _, fun x hx => ?_⟩
        rcases List.mem_append.mp hx with hx | hx
        · exact hst x hx
        · rw [List.mem_singleton.mp hx]
          exact hs
    · rw [mt_node c _ s st (fun k hk => by cases hk; exact hn)] at h
      split at h
      · rw [D.kids, mtL] at h
        cases h
        exact ⟨by omega, hst⟩
      · cases h
  | .c a as, s, st, st', h, hs, hst => by
    rw [mt] at h
    split at h
    · have dk := depth_kids s
      have := mtL_bd c B as s.kids st st' h (by omega) hst
      rw [D.size]
      exact ⟨by omega, this.2⟩
    · cases h
  | .t as, s, st, st', h, hs, hst => by
    rw [mt] at h
    split at h
    · have dk := depth_kids s
      have := mtL_bd c B as s.kids st st' h (by omega) hst
      rw [D.size]
      exact ⟨by omega, this.2⟩
    · cases h
  | .f a b, s, st, st', h, hs, hst => by
    rw [mt] at h
    split at h
    · split at h
      · rename_i x y ek
        have dk := depth_kids s
        rw [ek, D.depthL, D.depthL, D.depthL] at dk
        cases q : mt c a x st with
        | none =>
          rw [q] at h
          cases h
        | some st1 =>
          rw [q] at h
          have h1 := mt_bd c B a x st st1 q (by omega) hst
          have h2 := mt_bd c B b y st1 st' h (by omega) h1.2
          rw [D.size]
          exact ⟨by omega, h2.2⟩
      · cases h
    · cases h
theorem mtL_bd (c : Int) (B : Nat) : ∀ (ps ss : List D) (st st' : List (Int × D)), mtL c ps ss st = some st' → D.depthL ss ≤ B → (∀ x ∈ st, x.2.depth ≤ B) → st'.length ≤ st.length + D.sizeL ps ∧ ∀ x ∈ st', x.2.depth ≤ B
  | [], ss, st, st', h, _, hst => by
    rw [mtL] at h
    cases h
    exact ⟨by omega, hst⟩
  | p :: ps, ss, st, st', h, hs, hst => by
    rw [mtL.eq_def] at h
    cases ss with
    | nil => cases h
    | cons x r =>
      dsimp only at h
      rw [D.depthL] at hs
      cases q : mt c p x st with
      | none =>
        rw [q] at h
        cases h
      | some st1 =>
        rw [q] at h
        have h1 := mt_bd c B p x st st1 q (by omega) hst
        have h2 := mtL_bd c B ps r st1 st' h (by omega) h1.2
        rw [D.sizeL]
        exact ⟨by omega, h2.2⟩
end
/-- the string that stands first -/
def D.tg : D → Str
  | .v _ => "v"
  | .c _ _ => "c"
  | .t _ => "t"
  | .f _ _ => "f"
theorem Rp.tag2 {K : PySem.W.Frag} {H : Hp} : ∀ {d : D} {v : V}, Rp K H v d → ∃ p rest, v = .ref p ∧ TA K H p (.str d.tg :: rest)
  | .v n, _, h => by
    cases h with
    | v h => exact ⟨_, _, rfl, h⟩
  | .c _ as, _, h => by
    cases h with
    | c h1 h2 h3 => exact ⟨_, _, rfl, h1⟩
  | .t as, _, h => by
    cases h with
    | t h1 h2 h3 => exact ⟨_, _, rfl, h1⟩
  | .f a b, _, h => by
    cases h with
    | f h1 h2 h3 => exact ⟨_, _, rfl, h1⟩
theorem tg_hd {p s : D} (h : p.hd = s.hd) : p.tg = s.tg := by
  cases p <;> cases s <;> first | rfl | (exact absurd (Prod.mk.inj h).1 (by decide))
theorem tg_inV (p : D) : inV (.str p.tg) [.str "t", .str "f"] = true ↔ (∃ as, p = .t as) ∨ ∃ a b, p = .f a b := by
  cases p with
  | v n => exact ⟨fun h => absurd h (show ¬ inV (.str "v") [.str "t", .str "f"] = true by decide +kernel), fun h => by rcases h with ⟨_, h⟩ | ⟨_, _, h⟩ <;> cases h⟩
  | c a as => exact ⟨fun h => absurd h (show ¬ inV (.str "c") [.str "t", .str "f"] = true by decide +kernel), fun h => by rcases h with ⟨_, h⟩ | ⟨_, _, h⟩ <;> cases h⟩
  | t as => exact ⟨fun _ => .inl ⟨_, rfl⟩, fun _ => show inV (.str "t") [.str "t", .str "f"] = true by decide +kernel⟩
  | f a b => exact ⟨fun _ => .inr ⟨_, _, rfl⟩, fun _ => show inV (.str "f") [.str "t", .str "f"] = true by decide +kernel⟩
/-- the number that stands second in a variable or a constructor -/
theorem Rp.num {K : PySem.W.Frag} {H : Hp} {d : D} {v : V} (h : Rp K H v d) (hn : ¬ ((∃ as, d = .t as) ∨ ∃ a b, d = .f a b)) : ∃ p n rest, v = .ref p ∧ TA K H p (.str d.tg :: .int n :: rest) ∧ n = d.hd.2 := by
  cases h with
  | v h => exact ⟨_, _, _, rfl, h, rfl⟩
  | c h1 h2 h3 => exact ⟨_, _, _, rfl, h1, rfl⟩
  | t h1 h2 h3 => exact absurd (.inl ⟨_, rfl⟩) hn
  | f h1 h2 h3 => exact absurd (.inr ⟨_, _, rfl⟩) hn
theorem hd_tg {p s : D} (h : p.tg = s.tg) : p.hd.1 = s.hd.1 := by
  cases p <;> cases s <;> first | rfl | (simp only [D.tg] at h; exact absurd h (by decide +kernel))
end Vs

set_option Elab.async false
set_option linter.all false
set_option maxRecDepth 100000
namespace Vs
open PySem PySem.Spec PyProof.Rows L2
mutual
theorem sub_congr {f g : Int → Option D} : ∀ d : D, (∀ n ∈ d.occ, f n = g n) → d.sub f = d.sub g
  | .v n, h => by rw [D.sub, D.sub, h n (by rw [D.occ]; exact List.mem_cons_self)]
  | .c s as, h => by rw [D.sub, D.sub, subL_congr as (fun n hn => h n (by rw [D.occ]; exact hn))]
  | .t as, h => by rw [D.sub, D.sub, subL_congr as (fun n hn => h n (by rw [D.occ]; exact hn))]
  | .f a b, h => by
    rw [D.sub, D.sub, sub_congr a (fun n hn => h n (by rw [D.occ]; exact List.mem_append_left _ hn)), sub_congr b (fun n hn => h n (by rw [D.occ]; exact List.mem_append_right _ (List.mem_append_left _ hn)))]
theorem subL_congr {f g : Int → Option D} : ∀ as : List D, (∀ n ∈ D.occL as, f n = g n) → D.subL f as = D.subL g as
  | [], _ => rfl
  | x :: r, h => by
    rw [D.subL, D.subL, sub_congr x (fun n hn => h n (by rw [D.occL]; exact List.mem_append_left _ hn)), subL_congr r (fun n hn => h n (by rw [D.occL]; exact List.mem_append_right _ hn))]
end
mutual
theorem sub_comp {f g h : Int → Option D} (hh : ∀ n, h n = match f n with
    | some e => some (e.sub g)
    | none => g n) : ∀ d : D, (d.sub f).sub g = d.sub h
  | .v n => by
    rw [D.sub, D.sub, hh n]
    cases f n with
    | some e => rfl
    | none =>
      show (D.v n).sub g = _
      rw [D.sub]
  | .c s as => by rw [D.sub, D.sub, D.sub, subL_comp hh as]
  | .t as => by rw [D.sub, D.sub, D.sub, subL_comp hh as]
  | .f a b => by rw [D.sub, D.sub, D.sub, sub_comp hh a, sub_comp hh b]
theorem subL_comp {f g h : Int → Option D} (hh : ∀ n, h n = match f n with
    | some e => some (e.sub g)
    | none => g n) : ∀ as : List D, D.subL g (D.subL f as) = D.subL h as
  | [] => rfl
  | x :: r => by rw [D.subL, D.subL, D.subL, sub_comp hh x, subL_comp hh r]
end
def stepm (ns : List Int) (n : Int) : Option D := if n ∈ ns then some (.c (900 + n) []) else none
theorem stepm_nil (d : D) : d.sub (stepm []) = d := sub_none _ (fun n => by unfold stepm; rw [if_neg (by simp)]) d
theorem stepm_snoc (ns : List Int) (n : Int) (d : D) : (d.sub (stepm ns)).sub (lk [(n, .c (900 + n) [])]) = d.sub (stepm (ns ++ [n])) := by
  refine sub_comp (fun k => ?_) d
  unfold stepm
  by_cases h : k ∈ ns
  · rw [if_pos h, if_pos (List.mem_append_left _ h)]
    show some (D.c (900 + k) []) = some ((D.c (900 + k) []).sub _)
    rw [D.sub, D.subL]
  · rw [if_neg h]
    by_cases e : n = k
    · rw [if_pos (by rw [← e]; exact List.mem_append_right _ List.mem_cons_self)]
      show _ = lk [(n, D.c (900 + n) [])] k
      rw [lk_pos e, ← e]
    · rw [if_neg (by
        intro z
        rcases List.mem_append.mp z with z | z
        · exact h z
        · exact e (List.mem_singleton.mp z).symm)]
      show none = lk [(n, D.c (900 + n) [])] k
      rw [lk_neg e]
      rfl
theorem stepm_size (ns : List Int) (d : D) : (d.sub (stepm ns)).size ≤ d.size ∧ (d.sub (stepm ns)).depth ≤ d.depth + 1 := by
  have e1 : ∀ n e, stepm ns n = some e → e.size = 1 ∧ e.depth = 1 := by
    intro n e h
    unfold stepm at h
    split at h
    · cases h
      exact ⟨by simp only [D.size, D.sizeL], by simp only [D.depth, D.depthL]⟩
    · cases h
  have a := size_sub_le (stepm ns) 1 (by decide) (fun n e h => by rw [(e1 n e h).1]; omega) d
  have b := depth_sub_le (stepm ns) 1 (fun n e h => by rw [(e1 n e h).2]; omega) d
  exact ⟨by omega, b⟩
theorem stepm_all {d : D} (h : ∀ n ∈ d.occ, 1000000 ≤ n) : d.sub (stepm d.vars) = mk d := by
  refine sub_congr d fun n hn => ?_
  unfold stepm mkm
  rw [if_pos (vars_mem.mpr hn), if_pos (h n hn)]
theorem stepm_free (d : D) : d.sub (stepm (d.vars.filter fun z => decide (z ≥ 1000000))) = mk d := by
  refine sub_congr d fun n hn => ?_
  unfold stepm mkm
  by_cases h : 1000000 ≤ n
  · rw [if_pos h, if_pos (List.mem_filter.mpr ⟨vars_mem.mpr hn, decide_eq_true h⟩)]
  · have hz : ¬ n ∈ d.vars.filter (fun z => decide (z ≥ 1000000)) := fun z => h (of_decide_eq_true (p := n ≥ 1000000) (List.mem_filter.mp z).2)
    rw [if_neg h, if_neg hz]
end Vs

set_option Elab.async false
set_option linter.all false
set_option maxRecDepth 100000
namespace Vs
open PySem PySem.Spec PyProof.Rows L2
/-- a pair of a number and a shape, as data -/
def prD (k : Int) (d : D) : PyData := .tuple [.int k, d.py]
theorem prD_lay (k : Int) (d : D) : (prD k d).canLay0 = true := by
  unfold prD
  show (true && (d.py.canLay0 && true)) = true
  rw [py_lay d]
  rfl
theorem prD_depth (k : Int) (d : D) : (prD k d).depth ≤ 2 * d.depth + 1 := by
  have := py_depth d
  have := depth_pos d
  unfold prD
  simp only [PyData.depth, PyData.depthAll]
  omega
theorem prD_self (k : Int) (d : D) : PyData.eqv (prD k d) (prD k d) = true := SeqAt.eqv_refl _ (prD_lay k d)
theorem prD_dp {K : PySem.W.Frag} {H : Hp} {p : Addr} {k : Int} {v : V} {d : D} (h : H p = some (.tup [.int k, v])) (R : Rp K H v d) : Dp K H (.ref p) (prD k d) := .tup (.inl (.inl h)) (.cons (.int _) (.cons R.dp .nil))
theorem prD_shaped {k : Int} {d : D} (h : d.depth ≤ 31) : SeqAt.shaped (prD k d) = true := by
  have := prD_depth k d
  unfold SeqAt.shaped
  rw [prD_lay, decide_eq_true (by omega)]
  rfl

mutual
theorem depth_sub_one (m : Int → Option D) (B : Nat) (hB : 1 ≤ B) (h : ∀ n e, m n = some e → e.depth ≤ B) : ∀ d : D, (d.sub m).depth + 1 ≤ d.depth + B
  | .v n => by
    rw [D.sub]
    cases q : m n with
    | none =>
      show 1 + 1 ≤ 1 + B
      omega
    | some e =>
      show e.depth + 1 ≤ 1 + B
      have := h n e q
      omega
  | .c s as => by
    have := depthL_sub_one m B hB h as
    have hd : (D.depthL as = 0 ∧ as = []) ∨ 1 ≤ D.depthL as := depthL_zero as
    rcases hd with ⟨_, rfl⟩ | hd
    · simp only [D.sub, D.subL, D.depth, D.depthL]
      omega
    · simp only [D.sub, D.depth]
      have := this hd
      omega
  | .t as => by
    have := depthL_sub_one m B hB h as
    have hd : (D.depthL as = 0 ∧ as = []) ∨ 1 ≤ D.depthL as := depthL_zero as
    rcases hd with ⟨_, rfl⟩ | hd
    · simp only [D.sub, D.subL, D.depth, D.depthL]
      omega
    · simp only [D.sub, D.depth]
      have := this hd
      omega
  | .f a b => by
    have := depth_sub_one m B hB h a
    have := depth_sub_one m B hB h b
    simp only [D.sub, D.depth]
    omega
theorem depthL_sub_one (m : Int → Option D) (B : Nat) (hB : 1 ≤ B) (h : ∀ n e, m n = some e → e.depth ≤ B) : ∀ as : List D, 1 ≤ D.depthL as → D.depthL (D.subL m as) + 1 ≤ D.depthL as + B
  | [], hz => by
    rw [D.depthL] at hz
    omega
  | x :: r, hz => by
    have h1 := depth_sub_one m B hB h x
    have h2 := depthL_sub_one m B hB h r
    have hd := depthL_zero r
    have dx := depth_pos x
    rw [D.subL, D.depthL, D.depthL]
    rcases hd with ⟨hd, rfl⟩ | hd
    · rw [D.subL, D.depthL]
      omega
    · have := h2 hd
      omega
theorem depthL_zero : ∀ as : List D, (D.depthL as = 0 ∧ as = []) ∨ 1 ≤ D.depthL as
  | [] => .inl ⟨by rw [D.depthL], rfl⟩
  | x :: r => .inr (by
    have := depth_pos x
    rw [D.depthL]
    omega)
end
mutual
theorem occ_sub {m : Int → Option D} {n : Int} : ∀ d : D, n ∈ (d.sub m).occ ↔ ∃ k ∈ d.occ, n ∈ ((m k).getD (.v k)).occ
  | .v k => by
    rw [D.sub, D.occ]
    constructor
    · intro h
      exact ⟨k, List.mem_cons_self, h⟩
    · rintro ⟨j, hj, h⟩
      rw [List.mem_singleton] at hj
      rw [← hj]
      exact h
  | .c s as => by
    rw [D.sub, D.occ, D.occ]
    exact occL_sub as
  | .t as => by
    rw [D.sub, D.occ, D.occ]
    exact occL_sub as
  | .f a b => by
    rw [D.sub, D.occ, D.occ, List.append_nil, List.append_nil, List.mem_append, occ_sub a, occ_sub b]
    constructor
    · rintro (⟨k, hk, h⟩ | ⟨k, hk, h⟩)
      · exact ⟨k, List.mem_append_left _ hk, h⟩
      · exact ⟨k, List.mem_append_right _ hk, h⟩
    · rintro ⟨k, hk, h⟩
      rcases List.mem_append.mp hk with hk | hk
      · exact .inl ⟨k, hk, h⟩
      · exact .inr ⟨k, hk, h⟩
theorem occL_sub {m : Int → Option D} {n : Int} : ∀ as : List D, n ∈ D.occL (D.subL m as) ↔ ∃ k ∈ D.occL as, n ∈ ((m k).getD (.v k)).occ
  | [] => by
    rw [D.subL, D.occL]
    constructor
    · intro h
      cases h
    · rintro ⟨k, hk, _⟩
      cases hk
  | x :: r => by
    rw [D.subL, D.occL, D.occL, List.mem_append, occ_sub x, occL_sub r]
    constructor
    · rintro (⟨k, hk, h⟩ | ⟨k, hk, h⟩)
      · exact ⟨k, List.mem_append_left _ hk, h⟩
      · exact ⟨k, List.mem_append_right _ hk, h⟩
    · rintro ⟨k, hk, h⟩
      rcases List.mem_append.mp hk with hk | hk
      · exact .inl ⟨k, hk, h⟩
      · exact .inr ⟨k, hk, h⟩
end
mutual
theorem sub_pl {m : Int → Option D} (h : ∀ n e, m n = some e → e.pl) : ∀ d : D, d.pl → (d.sub m).pl
  | .v k, _ => by
    rw [D.sub]
    cases q : m k with
    | none =>
      show (D.v k).pl
      rw [D.pl]
      exact True.intro
    | some e => exact h k e q
  | .c s as, hd => by
    rw [D.pl] at hd
    rw [D.sub, D.pl]
    exact ⟨hd.1, subL_pl h as hd.2⟩
  | .t as, hd => by
    rw [D.pl] at hd
    rw [D.sub, D.pl]
    exact subL_pl h as hd
  | .f a b, hd => by
    rw [D.pl] at hd
    rw [D.sub, D.pl]
    exact ⟨sub_pl h a hd.1, sub_pl h b hd.2⟩
theorem subL_pl {m : Int → Option D} (h : ∀ n e, m n = some e → e.pl) : ∀ as : List D, D.plL as → D.plL (D.subL m as)
  | [], _ => by
    rw [D.subL, D.plL]
    exact True.intro
  | x :: r, hd => by
    rw [D.plL] at hd
    rw [D.subL, D.plL]
    exact ⟨sub_pl h x hd.1, subL_pl h r hd.2⟩
end
theorem plL_all : ∀ {as : List D}, (∀ x ∈ as, x.pl) → D.plL as
  | [], _ => by
    rw [D.plL]
    exact True.intro
  | x :: r, h => by
    rw [D.plL]
    exact ⟨h x List.mem_cons_self, plL_all fun y hy => h y (List.mem_cons_of_mem _ hy)⟩
theorem GenD.pl {fr : List Int} {l : Nat} {d : D} (h : GenD fr l d) : d.pl := by
  induction h with
  | leafv h =>
    rw [D.pl]
    exact True.intro
  | leafc h =>
    rw [D.pl, D.plL]
    exact ⟨by omega, True.intro⟩
  | f ha hb iha ihb =>
    rw [D.pl]
    exact ⟨iha, ihb⟩
  | one h ha ih =>
    rw [D.pl, D.plL, D.plL]
    exact ⟨by omega, ih, True.intro⟩
  | t h2 h4 h ih =>
    rw [D.pl]
    exact plL_all ih
/-- a row of shapes, as data -/
def rowD (es : List D) : PyData := .tuple (D.pyL es)
theorem rowD_lay (es : List D) : (rowD es).canLay0 = true := by
  unfold rowD
  show PyData.canLayAll0 (D.pyL es) = true
  exact pyL_lay es
theorem rowD_self (es : List D) : PyData.eqv (rowD es) (rowD es) = true := SeqAt.eqv_refl _ (rowD_lay es)
theorem rowD_shaped {es : List D} (h : D.depthL es ≤ 31) : SeqAt.shaped (rowD es) = true := by
  have := pyL_depth es
  unfold SeqAt.shaped
  have hd : (rowD es).depth ≤ 64 := by
    unfold rowD
    simp only [PyData.depth]
    omega
  rw [rowD_lay, decide_eq_true hd]
  rfl
end Vs

set_option Elab.async false
set_option linter.all false
set_option maxRecDepth 100000
namespace Vs
open PySem PySem.Spec PyProof.Rows L2
/-! ### matching is sound: what it finds gives the shape back -/
theorem hd_v {n : Int} {s : D} (h : (D.v n).sameHd s) : s = .v n := by
  cases s with
  | v m => rw [show m = n from (Prod.mk.inj h.1).2.symm]
  | c b bs => exact absurd (Prod.mk.inj h.1).1 (show ¬ (0 : Int) = 1 by decide)
  | t bs => exact absurd (Prod.mk.inj h.1).1 (show ¬ (0 : Int) = 2 by decide)
  | f x y => exact absurd (Prod.mk.inj h.1).1 (show ¬ (0 : Int) = 3 by decide)
theorem hd_c {a : Int} {as : List D} {s : D} (h : (D.c a as).sameHd s) : ∃ bs, s = .c a bs ∧ as.length = bs.length := by
  cases s with
  | v m => exact absurd (Prod.mk.inj h.1).1 (show ¬ (1 : Int) = 0 by decide)
  | c b bs => exact ⟨bs, by rw [show b = a from (Prod.mk.inj h.1).2.symm], h.2⟩
  | t bs => exact absurd (Prod.mk.inj h.1).1 (show ¬ (1 : Int) = 2 by decide)
  | f x y => exact absurd (Prod.mk.inj h.1).1 (show ¬ (1 : Int) = 3 by decide)
theorem hd_t {as : List D} {s : D} (h : (D.t as).sameHd s) : ∃ bs, s = .t bs ∧ as.length = bs.length := by
  cases s with
  | v m => exact absurd (Prod.mk.inj h.1).1 (show ¬ (2 : Int) = 0 by decide)
  | c b bs => exact absurd (Prod.mk.inj h.1).1 (show ¬ (2 : Int) = 1 by decide)
  | t bs => exact ⟨bs, rfl, h.2⟩
  | f x y => exact absurd (Prod.mk.inj h.1).1 (show ¬ (2 : Int) = 3 by decide)
theorem hd_f {a b s : D} (h : (D.f a b).sameHd s) : ∃ x y, s = .f x y := by
  cases s with
  | v m => exact absurd (Prod.mk.inj h.1).1 (show ¬ (3 : Int) = 0 by decide)
  | c b bs => exact absurd (Prod.mk.inj h.1).1 (show ¬ (3 : Int) = 1 by decide)
  | t bs => exact absurd (Prod.mk.inj h.1).1 (show ¬ (3 : Int) = 2 by decide)
  | f x y => exact ⟨x, y, rfl⟩
def gm (c : Int) (sf : List (Int × D)) (n : Int) : Option D := if n < c then lk sf n else none
mutual
theorem mt_sound (c : Int) : ∀ (p s : D) (st st' : List (Int × D)), mt c p s st = some st' → ∀ sf, Ext st' sf → p.sub (gm c sf) = s
  | .v n, s, st, st', h, sf, hx => by
    rw [D.sub]
    by_cases hn : n < c
    · have g : gm c sf n = lk sf n := by
        unfold gm
        rw [if_pos hn]
      rw [mt_var c n s st hn] at h
      cases q : lk st n with
      | some e =>
        rw [q] at h
        dsimp only at h
        split at h
        · rename_i ee
          cases h
          rw [g, hx n e q, eqv_py e s ee]
          rfl
        · cases h
      | none =>
        rw [q] at h
        cases h
        have e : lk (st ++ [(n, s)]) n = some s := by
          rw [lk_snoc, q]
          show (if n = n then some s else none) = some s
          rw [if_pos rfl]
        rw [g, hx n s e]
        rfl
    · have g : gm c sf n = none := by
        unfold gm
        rw [if_neg hn]
      rw [mt_node c _ s st (fun k hk => by cases hk; exact hn)] at h
      split at h
      · rename_i sh
        rw [g, hd_v sh]
        rfl
      · cases h
  | .c a as, s, st, st', h, sf, hx => by
    rw [mt] at h
    split at h
    · rename_i sh
      obtain ⟨bs, rfl, hl⟩ := hd_c sh
      rw [D.kids] at h
      rw [D.sub, mtL_sound c as bs st st' hl h sf hx]
    · cases h
  | .t as, s, st, st', h, sf, hx => by
    rw [mt] at h
    split at h
    · rename_i sh
      obtain ⟨bs, rfl, hl⟩ := hd_t sh
      rw [D.kids] at h
      rw [D.sub, mtL_sound c as bs st st' hl h sf hx]
    · cases h
  | .f a b, s, st, st', h, sf, hx => by
    rw [mt] at h
    split at h
    · rename_i sh
      obtain ⟨x, y, rfl⟩ := hd_f sh
      have h' : ((mt c a x st).bind fun st1 => mt c b y st1) = some st' := h
      cases q : mt c a x st with
      | none =>
        rw [q] at h'
        cases h'
      | some st1 =>
        rw [q] at h'
        have h2 : mt c b y st1 = some st' := h'
        have e2 := (mt_ext c b y st1 st' h2).1
        rw [D.sub, mt_sound c a x st st1 q sf (fun n e z => hx n e (e2 n e z)), mt_sound c b y st1 st' h2 sf hx]
    · cases h
theorem mtL_sound (c : Int) : ∀ (ps ss : List D) (st st' : List (Int × D)), ps.length = ss.length → mtL c ps ss st = some st' → ∀ sf, Ext st' sf → D.subL (gm c sf) ps = ss
  | [], ss, st, st', hl, h, sf, hx => by
    cases ss with
    | nil => rfl
    | cons x r => cases hl
  | p :: ps, ss, st, st', hl, h, sf, hx => by
    cases ss with
    | nil => cases hl
    | cons x r =>
      rw [mtL] at h
      cases q : mt c p x st with
      | none =>
        rw [q] at h
        cases h
      | some st1 =>
        rw [q] at h
        have h2 : mtL c ps r st1 = some st' := h
        have e2 := (mtL_ext c ps r st1 st' h2).1
        rw [D.subL, mt_sound c p x st st1 q sf (fun n e z => hx n e (e2 n e z)), mtL_sound c ps r st1 st' (Nat.succ.inj hl) h2 sf hx]
end
end Vs

set_option Elab.async false
set_option linter.all false
set_option maxRecDepth 100000
namespace Vs
open PySem PySem.Spec PyProof.Rows L2
/-! ### two schemes, each more general than the other -/
theorem addAll_map {f : Int → Int} : ∀ (xs ns : List Int), (∀ a ∈ ns ++ xs, ∀ b ∈ ns ++ xs, f a = f b → a = b) → addAll (ns.map f) (xs.map f) = (addAll ns xs).map f
  | [], ns, _ => rfl
  | x :: r, ns, h => by
    have e : addK (ns.map f) (f x) = (addK ns x).map f := by
      unfold addK
      by_cases c : x ∈ ns
      · rw [if_pos c, if_pos (List.mem_map_of_mem c)]
      · rw [if_neg c, if_neg (fun z => by
          obtain ⟨y, hy, e⟩ := List.mem_map.mp z
          have := h y (List.mem_append_left _ hy) x (List.mem_append_right _ List.mem_cons_self) e
          rw [this] at hy
          exact c hy), List.map_append]
        rfl
    show addAll (addK (ns.map f) (f x)) (r.map f) = (addAll (addK ns x) r).map f
    rw [e]
    refine addAll_map r (addK ns x) fun a ha b hb => h a ?_ b ?_
    · rcases List.mem_append.mp ha with ha | ha
      · rcases addK_mem.mp ha with ha | ha
        · exact List.mem_append_left _ ha
        · rw [ha]
          exact List.mem_append_right _ List.mem_cons_self
      · exact List.mem_append_right _ (List.mem_cons_of_mem _ ha)
    · rcases List.mem_append.mp hb with hb | hb
      · rcases addK_mem.mp hb with hb | hb
        · exact List.mem_append_left _ hb
        · rw [hb]
          exact List.mem_append_right _ List.mem_cons_self
      · exact List.mem_append_right _ (List.mem_cons_of_mem _ hb)
mutual
theorem occ_ren {m : Int → Option D} {f : Int → Int} : ∀ d : D, (∀ n ∈ d.occ, (m n).getD (.v n) = .v (f n)) → (d.sub m).occ = d.occ.map f
  | .v n, h => by
    have := h n (by rw [D.occ]; exact List.mem_cons_self)
    rw [D.sub, this, D.occ, D.occ]
    rfl
  | .c s as, h => by
    rw [D.occ] at h
    rw [D.sub, D.occ, D.occ, occL_ren as h]
  | .t as, h => by
    rw [D.occ] at h
    rw [D.sub, D.occ, D.occ, occL_ren as h]
  | .f a b, h => by
    rw [D.occ, List.append_nil] at h
    rw [D.sub, D.occ, D.occ, occ_ren a (fun n hn => h n (List.mem_append_left _ hn)), occ_ren b (fun n hn => h n (List.mem_append_right _ hn)), List.append_nil, List.append_nil, List.map_append]
theorem occL_ren {m : Int → Option D} {f : Int → Int} : ∀ as : List D, (∀ n ∈ D.occL as, (m n).getD (.v n) = .v (f n)) → D.occL (D.subL m as) = (D.occL as).map f
  | [], _ => by
    rw [D.subL, D.occL]
    rfl
  | x :: r, h => by
    rw [D.occL] at h
    rw [D.subL, D.occL, D.occL, occ_ren x (fun n hn => h n (List.mem_append_left _ hn)), occL_ren r (fun n hn => h n (List.mem_append_right _ hn)), List.map_append]
end
mutual
theorem sub_fix {m : Int → Option D} : ∀ d : D, d.sub m = d → ∀ n ∈ d.occ, (m n).getD (.v n) = .v n
  | .v k, h, n, hn => by
    rw [D.occ, List.mem_singleton] at hn
    rw [D.sub] at h
    rw [hn]
    exact h
  | .c s as, h, n, hn => by
    rw [D.sub] at h
    rw [D.occ] at hn
    exact subL_fix as (D.c.inj h).2 n hn
  | .t as, h, n, hn => by
    rw [D.sub] at h
    rw [D.occ] at hn
    exact subL_fix as (D.t.inj h) n hn
  | .f a b, h, n, hn => by
    rw [D.sub] at h
    rw [D.occ, List.append_nil] at hn
    have h2 := D.f.inj h
    exact (List.mem_append.mp hn).elim (sub_fix a h2.1 n) (sub_fix b h2.2 n)
theorem subL_fix {m : Int → Option D} : ∀ as : List D, D.subL m as = as → ∀ n ∈ D.occL as, (m n).getD (.v n) = .v n
  | [], _, n, hn => by
    rw [D.occL] at hn
    cases hn
  | x :: r, h, n, hn => by
    rw [D.subL] at h
    rw [D.occL] at hn
    have h2 := List.cons.inj h
    exact (List.mem_append.mp hn).elim (sub_fix x h2.1 n) (subL_fix r h2.2 n)
end
/-- general variables 0 to m - 1 in the order of their first occurrence, the others free -/
structure Norm (m : Nat) (p : D) : Prop where
  le : m ≤ 1000000
  gen : (p.vars.filter fun z => decide (z < (m : Int))) = iota m
  occ : ∀ k ∈ p.occ, (0 ≤ k ∧ k < (m : Int)) ∨ 1000000 ≤ k
theorem sub_var {e : D} {t : Int → Option D} {n : Int} (h : e.sub t = .v n) : ∃ k, e = .v k ∧ (t k).getD (.v k) = .v n := by
  cases e with
  | v k =>
    rw [D.sub] at h
    exact ⟨k, rfl, h⟩
  | c s as =>
    rw [D.sub] at h
    cases h
  | t as =>
    rw [D.sub] at h
    cases h
  | f a b =>
    rw [D.sub] at h
    cases h
theorem gen_antisymm {mA mB : Nat} {pA pB : D} (nA : Norm mA pA) (nB : Norm mB pB) {s t : Int → Option D} (ds : ∀ n, ¬ n < (mA : Int) → s n = none) (dt : ∀ n, ¬ n < (mB : Int) → t n = none) (h1 : pA.sub s = pB) (h2 : pB.sub t = pA) : mA = mB ∧ pA = pB := by
  have lA := nA.le
  have lB := nB.le
  have hc := sub_comp (f := s) (g := t) (h := fun n => match s n with
    | some e => some (e.sub t)
    | none => t n) (fun _ => rfl) pA
  rw [h1, h2] at hc
  have fx := sub_fix pA hc.symm
  -- s renames
  have ren : ∀ n ∈ pA.occ, ∃ k, (s n).getD (.v n) = .v k ∧ (t k).getD (.v k) = .v n := by
    intro n hn
    have f1 := fx n hn
    cases q : s n with
    | some e =>
      have f2 : e.sub t = .v n := by
        simp only [q] at f1
        exact f1
      obtain ⟨k, rfl, hk⟩ := sub_var f2
      exact ⟨k, rfl, hk⟩
    | none =>
      have f2 : (t n).getD (.v n) = .v n := by
        simp only [q] at f1
        exact f1
      exact ⟨n, rfl, f2⟩
  let r : Int → Int := fun n => match (s n).getD (.v n) with
    | .v k => k
    | _ => n
  have hr : ∀ n ∈ pA.occ, (s n).getD (.v n) = .v (r n) ∧ (t (r n)).getD (.v (r n)) = .v n := by
    intro n hn
    obtain ⟨k, a, b⟩ := ren n hn
    have : r n = k := by
      show (match (s n).getD (.v n) with
        | .v k => k
        | _ => n) = k
      rw [a]
    rw [this]
    exact ⟨a, b⟩
  have inj : ∀ a ∈ pA.occ, ∀ b ∈ pA.occ, r a = r b → a = b := by
    intro a ha b hb e
    have x := (hr a ha).2
    rw [e, (hr b hb).2] at x
    exact (D.v.inj x).symm
  have oB : pB.occ = pA.occ.map r := by
    rw [← h1]
    exact occ_ren pA fun n hn => (hr n hn).1
  have vB : pB.vars = pA.vars.map r := by
    unfold D.vars
    rw [oB]
    exact addAll_map pA.occ [] (fun a ha b hb => inj a ha b hb)
  have same : ∀ n ∈ pA.vars, decide (r n < (mB : Int)) = decide (n < (mA : Int)) := by
    intro n hn'
    have hn := vars_mem.mp hn'
    have hB : r n ∈ pB.occ := by
      rw [oB]
      exact List.mem_map_of_mem hn
    by_cases c : n < (mA : Int)
    · rw [decide_eq_true c]
      refine decide_eq_true ?_
      rcases nB.occ _ hB with h | h
      · exact h.2
      · exfalso
        have x := (hr n hn).2
        rw [dt (r n) (by omega)] at x
        have := D.v.inj x
        omega
    · rw [decide_eq_false c]
      refine decide_eq_false ?_
      have x := (hr n hn).1
      rw [ds n c] at x
      have x2 := D.v.inj x
      rcases nA.occ n hn with h | h
      · exact absurd h.2 c
      · omega
  have io : iota mB = (iota mA).map r := by
    rw [← nB.gen, ← nA.gen, vB, List.filter_map]
    congr 1
    exact List.filter_congr fun n hn => same n hn
  have em : mA = mB := by
    have := congrArg List.length io
    rw [List.length_map, iota_len, iota_len] at this
    exact this.symm
  refine ⟨em, ?_⟩
  have rid : ∀ n ∈ pA.occ, r n = n := by
    intro n hn
    rcases nA.occ n hn with h | h
    · have hi : n.toNat < mA := by omega
      have a := iota_get (m := mB) (i := n.toNat) (by omega)
      rw [io, List.getElem?_map, iota_get hi] at a
      have b : r ((n.toNat : Nat) : Int) = ((n.toNat : Nat) : Int) := Option.some.inj a
      rw [show ((n.toNat : Nat) : Int) = n by omega] at b
      exact b
    · have x := (hr n hn).1
      rw [ds n (by omega)] at x
      exact (D.v.inj x).symm
  rw [← h1]
  refine (sub_idn s pA fun n hn => ?_).symm
  have x := (hr n hn).1
  rw [rid n hn] at x
  cases q : s n with
  | none => exact .inl rfl
  | some e =>
    rw [q] at x
    right
    rw [show e = .v n from x]
end Vs

set_option Elab.async false
set_option linter.all false
set_option maxRecDepth 100000
namespace Vs
open PySem PySem.Spec PyProof.Rows L2
/-! ### constants taken back -/
mutual
def D.um (f : Int → Option Int) : D → D
  | .v n => .v n
  | .c s as => match f s with
    | some n => .v n
    | none => .c s (D.umL f as)
  | .t as => .t (D.umL f as)
  | .f a b => .f (a.um f) (b.um f)
def D.umL (f : Int → Option Int) : List D → List D
  | [] => []
  | x :: r => x.um f :: D.umL f r
end
mutual
def D.stp (f : Int → Option Int) : D → Prop
  | .v _ => True
  | .c s as => f s = none ∧ D.stpL f as
  | .t as => D.stpL f as
  | .f a b => a.stp f ∧ b.stp f
def D.stpL (f : Int → Option Int) : List D → Prop
  | [] => True
  | x :: r => x.stp f ∧ D.stpL f r
end
mutual
theorem um_sub {f : Int → Option Int} {m : Int → Option D} : ∀ d : D, d.stp f → (d.sub m).um f = d.sub (fun n => (m n).map (D.um f))
  | .v n, _ => by
    rw [D.sub, D.sub]
    cases m n with
    | none =>
      show (D.v n).um f = .v n
      rw [D.um]
    | some e => rfl
  | .c s as, h => by
    rw [D.stp] at h
    rw [D.sub, D.sub, D.um, h.1]
    show D.c s (D.umL f (D.subL m as)) = _
    rw [umL_sub as h.2]
  | .t as, h => by
    rw [D.stp] at h
    rw [D.sub, D.sub, D.um, umL_sub as h]
  | .f a b, h => by
    rw [D.stp] at h
    rw [D.sub, D.sub, D.um, um_sub a h.1, um_sub b h.2]
theorem umL_sub {f : Int → Option Int} {m : Int → Option D} : ∀ as : List D, D.stpL f as → D.umL f (D.subL m as) = D.subL (fun n => (m n).map (D.um f)) as
  | [], _ => by
    rw [D.subL, D.subL, D.umL]
  | x :: r, h => by
    rw [D.stpL] at h
    rw [D.subL, D.subL, D.umL, um_sub x h.1, umL_sub r h.2]
end
theorem um_c {f : Int → Option Int} {s n : Int} (h : f s = some n) : (D.c s []).um f = .v n := by
  rw [D.um, h]
/-- the second shape is an instance of the first one -/
def Gen (m : Nat) (p q : D) : Prop := ∃ s : Int → Option D, (∀ n, ¬ n < (m : Int) → s n = none) ∧ p.sub s = q
theorem sub_congr' {f g : Int → Option D} (d : D) (h : ∀ n ∈ d.occ, (f n).getD (.v n) = (g n).getD (.v n)) : d.sub f = d.sub g := by
  have e : ∀ m : Int → Option D, d.sub m = d.sub fun n => some ((m n).getD (.v n)) := fun m => by
    have := sub_comp (f := fun _ => none) (g := m) (h := fun n => some ((m n).getD (.v n))) 
    clear this
    exact sub_full m d
  rw [e f, e g]
  exact sub_congr d fun n hn => by rw [h n hn]
where
  sub_full (m : Int → Option D) (d : D) : d.sub m = d.sub fun n => some ((m n).getD (.v n)) := full m d
  full (m : Int → Option D) : ∀ d : D, d.sub m = d.sub fun n => some ((m n).getD (.v n))
    | .v n => by
      rw [D.sub, D.sub]
      rfl
    | .c s as => by rw [D.sub, D.sub, fullL m as]
    | .t as => by rw [D.sub, D.sub, fullL m as]
    | .f a b => by rw [D.sub, D.sub, full m a, full m b]
  fullL (m : Int → Option D) : ∀ as : List D, D.subL m as = D.subL (fun n => some ((m n).getD (.v n))) as
    | [] => rfl
    | x :: r => by rw [D.subL, D.subL, full m x, fullL m r]
/-- constants for the general variables of a scheme -/
def kap (m : Nat) (g : Int → Int) (n : Int) : Option D := if 0 ≤ n ∧ n < (m : Int) then some (.c (g n) []) else none
theorem kap_back {m : Nat} {g : Int → Int} {f : Int → Option Int} {q : D} (hf : ∀ n, 0 ≤ n → n < (m : Int) → f (g n) = some n) (hq : q.stp f) : (q.sub (kap m g)).um f = q := by
  rw [um_sub q hq]
  refine sub_idn _ q fun n _ => ?_
  unfold kap
  by_cases h : 0 ≤ n ∧ n < (m : Int)
  · rw [if_pos h]
    right
    show some ((D.c (g n) []).um f) = some (.v n)
    rw [um_c (hf n h.1 h.2)]
  · rw [if_neg h]
    exact .inl rfl
theorem gen_match {mA mB : Nat} {pA pB : D} (hA : ∀ k ∈ pA.occ, k < (mA : Int) ∨ (¬ k < (mA : Int) ∧ ¬ k < (mB : Int))) {g : Int → Int} {f : Int → Option Int} (hf : ∀ n, 0 ≤ n → n < (mB : Int) → f (g n) = some n) (sA : pA.stp f) (sB : pB.stp f) :
    (∃ st, mt (mA : Int) pA (pB.sub (kap mB g)) [] = some st) ↔ Gen mA pA pB := by
  constructor
  · rintro ⟨st, h⟩
    have e := mt_sound (mA : Int) pA _ [] st h st (fun _ _ z => z)
    have e2 := congrArg (D.um f) e
    rw [um_sub pA sA, kap_back hf sB] at e2
    refine ⟨_, fun n hn => ?_, e2⟩
    show (gm (mA : Int) st n).map _ = none
    unfold gm
    rw [if_neg hn]
    rfl
  · rintro ⟨s, ds, e⟩
    let s' : Int → Option D := fun n => if n < (mA : Int) then some ((s n).getD (.v n)) else none
    have e' : pA.sub s' = pB := by
      rw [← e]
      refine sub_congr' pA fun n _ => ?_
      show (if n < (mA : Int) then some ((s n).getD (.v n)) else none).getD (.v n) = _
      by_cases h : n < (mA : Int)
      · rw [if_pos h]
        rfl
      · rw [if_neg h, ds n h]
    have e2 := sub_comp (f := s') (g := kap mB g) (h := fun n => match s' n with
      | some e => some (e.sub (kap mB g))
      | none => kap mB g n) (fun _ => rfl) pA
    rw [e'] at e2
    obtain ⟨st, hst, _⟩ := mt_inst (mA : Int) (fun n => match s' n with
      | some e => some (e.sub (kap mB g))
      | none => kap mB g n) pA [] (fun n hn => by
        rcases hA n hn with h | h
        · left
          refine ⟨h, ((s n).getD (.v n)).sub (kap mB g), ?_⟩
          show (match (if n < (mA : Int) then some ((s n).getD (.v n)) else none) with
            | some e => some (e.sub (kap mB g))
            | none => kap mB g n) = _
          rw [if_pos h]
        · right
          have hn : ¬ n < (mA : Int) := h.1
          refine ⟨hn, ?_⟩
          show (match (if n < (mA : Int) then some ((s n).getD (.v n)) else none) with
            | some e => some (e.sub (kap mB g))
            | none => kap mB g n) = none
          rw [if_neg hn]
          show kap mB g n = none
          unfold kap
          rw [if_neg (fun z => h.2 z.2)]) (fun n e h => by cases h)
    rw [← e2] at hst
    exact ⟨st, hst⟩
end Vs

set_option Elab.async false
set_option linter.all false
set_option maxRecDepth 100000
namespace Vs
open PySem PySem.Spec PyProof.Rows L2
def ungx (fx : List Int) (d : D) : List Int := d.vars.filter fun z => !decide (z ∈ fx)
def schx (fx : List Int) (d : D) : D := d.sub (lk (numb 0 (ungx fx d)))
section
variable {fr fx : List Int} {d : D}
theorem ungx_occ {n : Int} (h : n ∈ ungx fx d) : n ∈ d.occ := vars_mem.mp (List.mem_filter.mp h).1
theorem ungx_nodup : (ungx fx d).Nodup := (vars_nodup d).filter _
theorem schx_occ (hf : ∀ n ∈ fr, (1000000 : Int) ≤ n) (g : ∀ n ∈ d.occ, n ∈ fr) {k : Int} (h : k ∈ (schx fx d).occ) : (0 ≤ k ∧ k < ((ungx fx d).length : Int)) ∨ 1000000 ≤ k := by
  obtain ⟨j, hj, hk⟩ := (occ_sub d).mp h
  by_cases c : j ∈ ungx fx d
  · obtain ⟨i, hi⟩ := List.getElem?_of_mem c
    rw [lk_numb ungx_nodup hi] at hk
    have hk2 : k ∈ (D.v ((0 + i : Nat) : Int)).occ := hk
    rw [D.occ, List.mem_singleton] at hk2
    have := (List.getElem?_eq_some_iff.mp hi).1
    left
    omega
  · rw [lk_numb_none c] at hk
    have hk2 : k ∈ (D.v j).occ := hk
    rw [D.occ, List.mem_singleton] at hk2
    right
    rw [hk2]
    exact hf j (g j hj)
theorem schx_cov {i : Nat} (h : i < (ungx fx d).length) : (i : Int) ∈ (schx fx d).occ := by
  refine (occ_sub d).mpr ⟨(ungx fx d)[i], ungx_occ (List.getElem_mem h), ?_⟩
  rw [lk_numb (k := 0) (i := i) ungx_nodup (List.getElem?_eq_getElem h)]
  show (i : Int) ∈ (D.v ((0 + i : Nat) : Int)).occ
  rw [D.occ, Nat.zero_add]
  exact List.mem_cons_self
theorem schx_size : (schx fx d).size ≤ d.size ∧ (schx fx d).depth ≤ d.depth := by
  have a := size_sub_le (lk (numb 0 (ungx fx d))) 1 (by decide) (fun k e h => by rw [(lk_numb_size h).1]; omega) d
  have b := depth_sub_one (lk (numb 0 (ungx fx d))) 1 (by decide) (fun k e h => by rw [(lk_numb_size h).2]; omega) d
  unfold schx
  omega
theorem schx_pl (g : d.pl) : (schx fx d).pl := sub_pl (fun k e h => by
  obtain ⟨_, j, rfl⟩ := numb_keys _ _ _ (lk_mem h)
  rw [D.pl]
  exact True.intro) d g
end

theorem nodup_len : ∀ (fr ns : List Int), ns.Nodup → (∀ n ∈ ns, n ∈ fr) → ns.length ≤ fr.length
  | [], ns, _, h => by
    cases ns with
    | nil => exact Nat.le_refl _
    | cons n r => exact absurd (h n List.mem_cons_self) (by simp)
  | x :: r, ns, nd, h => by
    have h1 := nodup_len r (ns.erase x) (nd.erase x) fun n hn => by
      have hm := (List.Nodup.mem_erase_iff nd).mp hn
      exact (List.mem_cons.mp (h n hm.2)).resolve_left hm.1
    have h2 : ns.length ≤ (ns.erase x).length + 1 := by
      rw [List.length_erase]
      split <;> omega
    rw [List.length_cons]
    omega
theorem schx_norm {fr fx : List Int} {d : D} (hf : ∀ n ∈ fr, (1000000 : Int) ≤ n) (lf : fr.length ≤ 10) (g : ∀ n ∈ d.occ, n ∈ fr) : Norm (ungx fx d).length (schx fx d) := by
  have len : (ungx fx d).length ≤ fr.length := nodup_len fr _ ungx_nodup fun n hn => g n (ungx_occ hn)
  let r : Int → Int := fun n => match lk (numb 0 (ungx fx d)) n with
    | some (.v k) => k
    | _ => n
  have rin : ∀ (i : Nat) n, (ungx fx d)[i]? = some n → lk (numb 0 (ungx fx d)) n = some (.v (i : Int)) ∧ r n = (i : Int) := by
    intro i n hi
    have e := lk_numb (k := 0) ungx_nodup hi
    rw [Nat.zero_add] at e
    refine ⟨e, ?_⟩
    show (match lk (numb 0 (ungx fx d)) n with
      | some (.v k) => k
      | _ => n) = _
    rw [e]
  have rout : ∀ n, n ∉ ungx fx d → lk (numb 0 (ungx fx d)) n = none ∧ r n = n := by
    intro n hn
    have e := lk_numb_none (k := 0) hn
    refine ⟨e, ?_⟩
    show (match lk (numb 0 (ungx fx d)) n with
      | some (.v k) => k
      | _ => n) = _
    rw [e]
  have hr : ∀ n ∈ d.occ, (lk (numb 0 (ungx fx d)) n).getD (.v n) = .v (r n) := by
    intro n _
    by_cases c : n ∈ ungx fx d
    · obtain ⟨i, hi⟩ := List.getElem?_of_mem c
      rw [(rin i n hi).1, (rin i n hi).2]
      rfl
    · rw [(rout n c).1, (rout n c).2]
      rfl
  have big6 : ∀ n ∈ d.occ, (1000000 : Int) ≤ n := fun n hn => hf n (g n hn)
  have inj : ∀ a ∈ d.occ, ∀ b ∈ d.occ, r a = r b → a = b := by
    intro a ha b hb e
    have a6 := big6 a ha
    have b6 := big6 b hb
    by_cases ca : a ∈ ungx fx d
    · obtain ⟨i, hi⟩ := List.getElem?_of_mem ca
      have il := (List.getElem?_eq_some_iff.mp hi).1
      rw [(rin i a hi).2] at e
      by_cases cb : b ∈ ungx fx d
      · obtain ⟨j, hj⟩ := List.getElem?_of_mem cb
        rw [(rin j b hj).2] at e
        have : i = j := by omega
        rw [this, hj] at hi
        exact (Option.some.inj hi).symm
      · rw [(rout b cb).2] at e
        omega
    · rw [(rout a ca).2] at e
      by_cases cb : b ∈ ungx fx d
      · obtain ⟨j, hj⟩ := List.getElem?_of_mem cb
        have jl := (List.getElem?_eq_some_iff.mp hj).1
        rw [(rin j b hj).2] at e
        omega
      · rw [(rout b cb).2] at e
        exact e
  have oB : (schx fx d).occ = d.occ.map r := occ_ren d hr
  have vB : (schx fx d).vars = d.vars.map r := by
    unfold D.vars
    rw [oB]
    exact addAll_map d.occ [] (fun a ha b hb => inj a ha b hb)
  have fl : ((d.vars.map r).filter fun z => decide (z < ((ungx fx d).length : Int))) = (ungx fx d).map r := by
    rw [List.filter_map]
    show (d.vars.filter fun n => decide (r n < ((ungx fx d).length : Int))).map r = (d.vars.filter fun z => !decide (z ∈ fx)).map r
    congr 1
    refine List.filter_congr fun n hn => ?_
    have n6 := big6 n (vars_mem.mp hn)
    by_cases c : n ∈ ungx fx d
    · obtain ⟨i, hi⟩ := List.getElem?_of_mem c
      have il := (List.getElem?_eq_some_iff.mp hi).1
      rw [(rin i n hi).2, decide_eq_true (by omega)]
      exact (List.mem_filter.mp c).2.symm
    · rw [(rout n c).2, decide_eq_false (by omega)]
      cases q : !decide (n ∈ fx) with
      | false => rfl
      | true => exact absurd (List.mem_filter.mpr ⟨hn, q⟩) c
  refine ⟨by omega, ?_, fun k hk => schx_occ hf g hk⟩
  rw [vB, fl]
  refine List.ext_getElem? fun i => ?_
  rw [List.getElem?_map]
  by_cases hi : i < (ungx fx d).length
  · have e := List.getElem?_eq_getElem hi
    rw [e, iota_get hi]
    show some (r _) = _
    rw [(rin i _ e).2]
  · rw [List.getElem?_eq_none (by omega), List.getElem?_eq_none (by rw [iota_len]; omega)]
    rfl
/-! ### the law's own constants -/
def mu (n : Int) : Option D := if n = 1000009 then some (.c 777 []) else none
def fmu (s : Int) : Option Int := if s = 777 then some 1000009 else none
theorem gen_mu {mA : Nat} {pA pB : D} (lA : mA ≤ 1000) (hA : ∀ k ∈ pA.occ, (0 ≤ k ∧ k < (mA : Int)) ∨ k = 1000009) (sA : pA.stp fmu) (sB : pB.stp fmu) : Gen 900000000 (pA.sub mu) (pB.sub mu) ↔ Gen mA pA pB := by
  have back : ∀ q : D, q.stp fmu → (q.sub mu).um fmu = q := by
    intro q hq
    rw [um_sub q hq]
    refine sub_idn _ q fun n _ => ?_
    unfold mu
    by_cases h : n = 1000009
    · rw [if_pos h]
      right
      show some ((D.c 777 []).um fmu) = some (.v n)
      rw [um_c (f := fmu) (n := 1000009) rfl, h]
    · rw [if_neg h]
      exact .inl rfl
  constructor
  · rintro ⟨s, _, e⟩
    have e1 := sub_comp (f := mu) (g := s) (h := fun n => match mu n with
      | some e => some (e.sub s)
      | none => s n) (fun _ => rfl) pA
    rw [e] at e1
    have e2 := congrArg (D.um fmu) e1
    rw [back pB sB, um_sub pA sA] at e2
    refine ⟨fun n => if n < (mA : Int) then (s n).map (D.um fmu) else none, fun n hn => if_neg hn, ?_⟩
    rw [e2]
    refine sub_congr' pA fun n hn => ?_
    rcases hA n hn with h | h
    · rw [if_pos h.2]
      have : mu n = none := by
        unfold mu
        rw [if_neg (by omega)]
      simp only [this]
    · rw [if_neg (by omega)]
      have : mu n = some (.c 777 []) := by
        unfold mu
        rw [if_pos h]
      simp only [this]
      show D.v n = ((D.c 777 []).sub s).um fmu
      rw [D.sub, D.subL, um_c (f := fmu) (n := 1000009) rfl, h]
  · rintro ⟨s, ds, e⟩
    let s2 : Int → Option D := fun n => if n < (mA : Int) then some (((s n).getD (.v n)).sub mu) else none
    refine ⟨s2, fun n hn => if_neg (by omega), ?_⟩
    rw [← e, sub_comp (f := mu) (g := s2) (h := fun n => match mu n with
      | some e => some (e.sub s2)
      | none => s2 n) (fun _ => rfl) pA, sub_comp (f := s) (g := mu) (h := fun n => match s n with
      | some e => some (e.sub mu)
      | none => mu n) (fun _ => rfl) pA]
    refine sub_congr' pA fun n hn => ?_
    rcases hA n hn with h | h
    · have m0 : mu n = none := by
        unfold mu
        rw [if_neg (by omega)]
      have e2 : s2 n = some (((s n).getD (.v n)).sub mu) := if_pos h.2
      simp only [m0, e2]
      cases q : s n with
      | some e => rfl
      | none =>
        show (D.v n).sub mu = .v n
        rw [D.sub, m0]
        rfl
    · have m1 : mu n = some (.c 777 []) := by
        unfold mu
        rw [if_pos h]
      simp only [m1, ds n (show ¬ n < (mA : Int) by omega)]
      show (D.c 777 []).sub s2 = .c 777 []
      rw [D.sub, D.subL]
mutual
theorem sub_stp {f : Int → Option Int} {m : Int → Option D} (h : ∀ n e, m n = some e → e.stp f) : ∀ d : D, d.stp f → (d.sub m).stp f
  | .v k, _ => by
    rw [D.sub]
    cases q : m k with
    | none =>
      show (D.v k).stp f
      rw [D.stp]
      exact True.intro
    | some e => exact h k e q
  | .c s as, hd => by
    rw [D.stp] at hd
    rw [D.sub, D.stp]
    exact ⟨hd.1, subL_stp h as hd.2⟩
  | .t as, hd => by
    rw [D.stp] at hd
    rw [D.sub, D.stp]
    exact subL_stp h as hd
  | .f a b, hd => by
    rw [D.stp] at hd
    rw [D.sub, D.stp]
    exact ⟨sub_stp h a hd.1, sub_stp h b hd.2⟩
theorem subL_stp {f : Int → Option Int} {m : Int → Option D} (h : ∀ n e, m n = some e → e.stp f) : ∀ as : List D, D.stpL f as → D.stpL f (D.subL m as)
  | [], _ => by
    rw [D.subL, D.stpL]
    exact True.intro
  | x :: r, hd => by
    rw [D.stpL] at hd
    rw [D.subL, D.stpL]
    exact ⟨sub_stp h x hd.1, subL_stp h r hd.2⟩
end
theorem stpL_all {f : Int → Option Int} : ∀ {as : List D}, (∀ x ∈ as, x.stp f) → D.stpL f as
  | [], _ => by
    rw [D.stpL]
    exact True.intro
  | x :: r, h => by
    rw [D.stpL]
    exact ⟨h x List.mem_cons_self, stpL_all fun y hy => h y (List.mem_cons_of_mem _ hy)⟩
theorem GenD.stp {f : Int → Option Int} (hf : ∀ s, 0 ≤ s → s ≤ 6 → f s = none) {fr : List Int} {l : Nat} {d : D} (h : GenD fr l d) : d.stp f := by
  induction h with
  | leafv h =>
    rw [D.stp]
    exact True.intro
  | leafc h =>
    rw [D.stp, D.stpL]
    exact ⟨hf _ (by omega) (by omega), True.intro⟩
  | f ha hb iha ihb =>
    rw [D.stp]
    exact ⟨iha, ihb⟩
  | one h ha ih =>
    rw [D.stp, D.stpL, D.stpL]
    exact ⟨hf _ (by omega) (by omega), ih, True.intro⟩
  | t h2 h4 h ih =>
    rw [D.stp]
    exact stpL_all ih
/-- every choice of constants leaves these shapes alone -/
def Low (d : D) : Prop := ∀ f : Int → Option Int, (∀ s, 0 ≤ s → s ≤ 6 → f s = none) → d.stp f
theorem Low.gen {fr : List Int} {l : Nat} {d : D} (h : GenD fr l d) : Low d := fun _ hf => h.stp hf
theorem Low.sub {d : D} {m : Int → Option D} (h : Low d) (hm : ∀ n e, m n = some e → Low e) : Low (d.sub m) := fun f hf => sub_stp (fun n e q => hm n e q f hf) d (h f hf)
theorem Low.v (n : Int) : Low (.v n) := fun f _ => by
  rw [D.stp]
  exact True.intro
theorem Low.schx {fx : List Int} {d : D} (h : Low d) : Low (schx fx d) := h.sub fun k e q => by
  obtain ⟨_, j, rfl⟩ := numb_keys _ _ _ (lk_mem q)
  exact Low.v j
theorem mu_occ {mA : Nat} {p : D} (lA : mA ≤ 1000) (h : ∀ k ∈ p.occ, (0 ≤ k ∧ k < (mA : Int)) ∨ k = 1000009) {k : Int} (hk : k ∈ (p.sub mu).occ) : 0 ≤ k ∧ k < (mA : Int) := by
  obtain ⟨j, hj, hk⟩ := (occ_sub p).mp hk
  unfold mu at hk
  rcases h j hj with z | z
  · rw [if_neg (by omega)] at hk
    have hk2 : k ∈ (D.v j).occ := hk
    rw [D.occ, List.mem_singleton] at hk2
    rw [hk2]
    exact z
  · rw [if_pos z] at hk
    have hk2 : k ∈ (D.c 777 []).occ := hk
    rw [D.occ, D.occL] at hk2
    cases hk2
/-- the law's own test -/
theorem gen_law {mA mB : Nat} {pA pB : D} (lA : mA ≤ 10) (lB : mB ≤ 10) (hA : ∀ k ∈ pA.occ, (0 ≤ k ∧ k < (mA : Int)) ∨ k = 1000009) (sA : Low pA) (sB : Low pB) :
    (∃ st, mt 900000000 (pA.sub mu) ((pB.sub mu).sub (kap mB fun n => 700 + n)) [] = some st) ↔ Gen mA pA pB := by
  have low : ∀ p : D, Low p → (p.sub mu).stp (fun s => if 700 ≤ s ∧ s < 710 then some (s - 700) else none) := fun p hp =>
    sub_stp (fun n e q => by
      unfold mu at q
      split at q
      · cases q
        rw [D.stp, D.stpL]
        exact ⟨by decide, True.intro⟩
      · cases q) p (hp _ fun s h0 h6 => if_neg (by omega))
  have fm : ∀ p : D, Low p → p.stp fmu := fun p hp => hp fmu fun s h0 h6 => if_neg (by omega)
  rw [← gen_mu (by omega) hA (fm pA sA) (fm pB sB)]
  exact gen_match (mA := 900000000) (g := fun n => 700 + n) (f := fun s => if 700 ≤ s ∧ s < 710 then some (s - 700) else none)
    (fun k hk => .inl (by have := (mu_occ (by omega) hA hk).2; omega)) (fun n h0 h1 => by
      show (if 700 ≤ 700 + n ∧ 700 + n < 710 then some (700 + n - 700) else none) = some n
      rw [if_pos (by omega)]
      congr 1
      omega) (low pA sA) (low pB sB)
end Vs

set_option Elab.async false
set_option linter.all false
set_option maxRecDepth 100000
namespace Vs
open PySem PySem.Spec PyProof.Rows L2
def fr9 : List Int := [1000000, 1000001, 1000002, 1000003, 1000009]
/-- what is known of a scheme of the law -/
structure Sch (m : Nat) (p : D) : Prop where
  nm : Norm m p
  le : m ≤ 10
  sz : p.size ≤ 900
  dp : p.depth ≤ 9
  low : Low p
  occ9 : ∀ k ∈ p.occ, (0 ≤ k ∧ k < (m : Int)) ∨ k = 1000009
theorem fr9_big : ∀ n ∈ fr9, (1000000 : Int) ≤ n := by decide
theorem ungx_not {d : D} {j : Int} (hj : j ∈ d.occ) (c : j ∉ ungx [1000009] d) : j = 1000009 := by
  cases q : !decide (j ∈ ([1000009] : List Int)) with
  | true => exact absurd (List.mem_filter.mpr ⟨vars_mem.mpr hj, q⟩) c
  | false =>
    by_cases e : j = 1000009
    · exact e
    · rw [decide_eq_false (fun z => e (List.mem_singleton.mp z))] at q
      cases q
theorem ungx_nine {d : D} : (1000009 : Int) ∉ ungx [1000009] d := fun h => by
  have := (List.mem_filter.mp h).2
  cases this
theorem sch_ok {d : D} (h : ∀ n ∈ d.occ, n ∈ fr9) (hs : d.size ≤ 900) (hd : d.depth ≤ 9) (hl : Low d) : Sch (ungx [1000009] d).length (schx [1000009] d) := by
  obtain ⟨a, b⟩ := schx_size (fx := [1000009]) (d := d)
  have len : (ungx [1000009] d).length ≤ 5 := nodup_len fr9 _ ungx_nodup fun n hn => h n (ungx_occ hn)
  refine ⟨schx_norm fr9_big (by decide) h, by omega, by omega, by omega, hl.schx, fun k hk => ?_⟩
  obtain ⟨j, hj, hk⟩ := (occ_sub d).mp hk
  by_cases c : j ∈ ungx [1000009] d
  · obtain ⟨i, hi⟩ := List.getElem?_of_mem c
    rw [lk_numb ungx_nodup hi] at hk
    have hk2 : k ∈ (D.v ((0 + i : Nat) : Int)).occ := hk
    rw [D.occ, List.mem_singleton] at hk2
    have := (List.getElem?_eq_some_iff.mp hi).1
    left
    omega
  · rw [lk_numb_none c] at hk
    have hk2 : k ∈ (D.v j).occ := hk
    rw [D.occ, List.mem_singleton] at hk2
    right
    rw [hk2]
    exact ungx_not hj c
theorem gen_refl (m : Nat) (p : D) : Gen m p p := ⟨fun _ => none, fun _ _ => rfl, sub_none _ (fun _ => rfl) p⟩
theorem gen_eq {mA mB : Nat} {pA pB : D} (a : Sch mA pA) (b : Sch mB pB) (h1 : Gen mA pA pB) (h2 : Gen mB pB pA) : mA = mB ∧ pA = pB := by
  obtain ⟨s, ds, es⟩ := h1
  obtain ⟨t, dt, et⟩ := h2
  exact gen_antisymm a.nm b.nm ds dt es et
theorem gen_inst {m : Nat} {p : D} {f : Int → Option D} (hp : Sch m p) (hf : ∀ n, ¬ n < (m : Int) → f n = none) : Gen m p (schx [1000009] (p.sub f)) := by
  refine ⟨fun n => if n < (m : Int) then some (((f n).getD (.v n)).sub (lk (numb 0 (ungx [1000009] (p.sub f))))) else none, fun n hn => if_neg hn, ?_⟩
  unfold schx
  rw [sub_comp (f := f) (g := lk (numb 0 (ungx [1000009] (p.sub f)))) (h := fun n => match f n with
    | some e => some (e.sub (lk (numb 0 (ungx [1000009] (p.sub f)))))
    | none => lk (numb 0 (ungx [1000009] (p.sub f))) n) (fun _ => rfl) p]
  refine sub_congr' p fun n hn => ?_
  rcases hp.occ9 n hn with h | h
  · rw [if_pos h.2]
    cases q : f n with
    | some e => rfl
    | none =>
      show (D.v n).sub _ = (lk (numb 0 (ungx [1000009] (p.sub f))) n).getD (.v n)
      rw [D.sub]
  · have l10 := hp.le
    have hn2 : ¬ n < (m : Int) := by omega
    rw [if_neg hn2]
    simp only [hf n hn2]
    rw [h, lk_numb_none ungx_nine]
theorem gen_ren {d : D} (hd : ∀ n ∈ d.occ, n ∈ fr9) {r : Int → Option D} (hr : r 1000009 = none) : Gen (ungx [1000009] d).length (schx [1000009] d) (schx [1000009] (d.sub r)) := by
  let ns := ungx [1000009] d
  refine ⟨fun n => if n < ((ungx [1000009] d).length : Int) then (match (ungx [1000009] d)[n.toNat]? with
    | some k => some (((r k).getD (.v k)).sub (lk (numb 0 (ungx [1000009] (d.sub r)))))
    | none => none) else none, fun n hn => if_neg hn, ?_⟩
  unfold schx
  rw [sub_comp (f := lk (numb 0 (ungx [1000009] d))) (h := fun n => match lk (numb 0 (ungx [1000009] d)) n with
    | some e => some (e.sub _)
    | none => (fun n => if n < ((ungx [1000009] d).length : Int) then (match (ungx [1000009] d)[n.toNat]? with
    | some k => some (((r k).getD (.v k)).sub (lk (numb 0 (ungx [1000009] (d.sub r)))))
    | none => none) else none) n) (fun _ => rfl) d,
    sub_comp (f := r) (g := lk (numb 0 (ungx [1000009] (d.sub r)))) (h := fun n => match r n with
    | some e => some (e.sub (lk (numb 0 (ungx [1000009] (d.sub r)))))
    | none => lk (numb 0 (ungx [1000009] (d.sub r))) n) (fun _ => rfl) d]
  refine sub_congr' d fun n hn => ?_
  by_cases c : n ∈ ungx [1000009] d
  · obtain ⟨i, hi⟩ := List.getElem?_of_mem c
    have il := (List.getElem?_eq_some_iff.mp hi).1
    have e := lk_numb (k := 0) ungx_nodup hi
    rw [Nat.zero_add] at e
    simp only [e]
    rw [Option.getD_some, D.sub, if_pos (by omega), show ((i : Int)).toNat = i from Int.toNat_natCast i, hi]
    show ((r n).getD (.v n)).sub _ = _
    cases q : r n with
    | some e => rfl
    | none =>
      show (D.v n).sub _ = (lk (numb 0 (ungx [1000009] (d.sub r))) n).getD (.v n)
      rw [D.sub]
  · have n9 := ungx_not hn c
    simp only [lk_numb_none c]
    have l5 : (ungx [1000009] d).length ≤ 5 := nodup_len fr9 _ ungx_nodup fun n hn => hd n (ungx_occ hn)
    rw [if_neg (by omega), n9, hr]
    show _ = (lk (numb 0 (ungx [1000009] (d.sub r))) 1000009).getD _
    rw [lk_numb_none ungx_nine]
end Vs

set_option Elab.async false
set_option linter.all false
set_option maxRecDepth 100000
namespace Vs
open PySem PySem.Spec PyProof.Rows L2 RT StX Vr
open C8 (pss_cut tCut)
open RZ
/-! ### the text -/
def topS (i : Nat) : Stmt := PySem.Challenge.pw_shapewright_k15_order_of_generality.main.body.getD i (.Pass ⟨0, 0, 0, 0⟩)
abbrev sPartsOfShape : Stmt := topS 6
theorem scPartsOfShape : FnScope ["shape"] ["shape"] (defScope sPartsOfShape) := ⟨rfl, rfl, rfl, by decide +kernel, rfl, by decide +kernel, by decide +kernel⟩
abbrev sWithParts : Stmt := topS 7
theorem scWithParts : FnScope ["shape", "parts"] ["shape", "parts"] (defScope sWithParts) := ⟨rfl, rfl, rfl, by decide +kernel, rfl, by decide +kernel, by decide +kernel⟩
abbrev sMeasures : Stmt := topS 8
theorem scMeasures : FnScope ["shape", "count", "deepest", "waiting", "part", "level", "inner"] ["shape"] (defScope sMeasures) := ⟨rfl, rfl, rfl, by decide +kernel, rfl, by decide +kernel, by decide +kernel⟩
abbrev sSubstitute : Stmt := topS 9
theorem scSubstitute : FnScope ["shape", "mapping"] ["shape", "mapping"] (defScope sSubstitute) := ⟨rfl, rfl, rfl, by decide +kernel, rfl, by decide +kernel, by decide +kernel⟩
abbrev sCheckResult : Stmt := topS 10
theorem scCheckResult : FnScope ["shape", "mapping", "known", "count", "waiting", "part", "level", "deepest", "number", "inner"] ["shape", "mapping"] (defScope sCheckResult) := ⟨rfl, rfl, rfl, by decide +kernel, rfl, by decide +kernel, by decide +kernel⟩
abbrev sReplaced : Stmt := topS 11
theorem scReplaced : FnScope ["shape", "mapping", "parts", "part"] ["shape", "mapping"] (defScope sReplaced) := ⟨rfl, rfl, rfl, by decide +kernel, rfl, by decide +kernel, by decide +kernel⟩
abbrev sInstantiate : Stmt := topS 13
theorem scInstantiate : FnScope ["scheme", "shapes", "index", "shape"] ["scheme", "shapes"] (defScope sInstantiate) := ⟨rfl, rfl, rfl, by decide +kernel, rfl, by decide +kernel, by decide +kernel⟩
abbrev sMatchInstance : Stmt := topS 14
theorem scMatchInstance : FnScope ["scheme", "shape", "count", "pattern", "found", "index"] ["scheme", "shape"] (defScope sMatchInstance) := ⟨rfl, rfl, rfl, by decide +kernel, rfl, by decide +kernel, by decide +kernel⟩
abbrev sMatches : Stmt := topS 15
theorem scMatches : FnScope ["pattern", "shape", "count", "found", "inner", "part"] ["pattern", "shape", "count", "found"] (defScope sMatches) := ⟨rfl, rfl, rfl, by decide +kernel, rfl, by decide +kernel, by decide +kernel⟩
abbrev sSameHead : Stmt := topS 16
theorem scSameHead : FnScope ["first", "second"] ["first", "second"] (defScope sSameHead) := ⟨rfl, rfl, rfl, by decide +kernel, rfl, by decide +kernel, by decide +kernel⟩
abbrev sAtLeastAsGeneral : Stmt := topS 17
theorem scAtLeastAsGeneral : FnScope ["scheme", "other", "count", "shape", "first", "constants", "index"] ["scheme", "other"] (defScope sAtLeastAsGeneral) := ⟨rfl, rfl, rfl, by decide +kernel, rfl, by decide +kernel, by decide +kernel⟩
abbrev sGreatestStamp : Stmt := topS 18
theorem scGreatestStamp : FnScope ["shape", "greatest", "part"] ["shape"] (defScope sGreatestStamp) := ⟨rfl, rfl, rfl, by decide +kernel, rfl, by decide +kernel, by decide +kernel⟩
abbrev sLawTape : Stmt := topS 20
theorem scLawTape : FnScope ["script", "many", "cells", "cell", "big", "value", "tape", "k"] ["script", "many"] (defScope sLawTape) := ⟨rfl, rfl, rfl, by decide +kernel, rfl, by decide +kernel, by decide +kernel⟩
abbrev sLawPick : Stmt := topS 21
theorem scLawPick : FnScope ["tape", "at", "many"] ["tape", "at", "many"] (defScope sLawPick) := ⟨rfl, rfl, rfl, by decide +kernel, rfl, by decide +kernel, by decide +kernel⟩
abbrev sLawLeaf : Stmt := topS 22
theorem scLawLeaf : FnScope ["tape", "at", "free", "pick"] ["tape", "at", "free"] (defScope sLawLeaf) := ⟨rfl, rfl, rfl, by decide +kernel, rfl, by decide +kernel, by decide +kernel⟩
abbrev sLawShape : Stmt := topS 23
theorem scLawShape : FnScope ["tape", "at", "level", "free", "pick", "left", "right", "inner", "parts", "many", "k", "part"] ["tape", "at", "level", "free"] (defScope sLawShape) := ⟨rfl, rfl, rfl, by decide +kernel, rfl, by decide +kernel, by decide +kernel⟩
abbrev sLawParts : Stmt := topS 24
theorem scLawParts : FnScope ["shape"] ["shape"] (defScope sLawParts) := ⟨rfl, rfl, rfl, by decide +kernel, rfl, by decide +kernel, by decide +kernel⟩
abbrev sLawRebuilt : Stmt := topS 25
theorem scLawRebuilt : FnScope ["shape", "parts"] ["shape", "parts"] (defScope sLawRebuilt) := ⟨rfl, rfl, rfl, by decide +kernel, rfl, by decide +kernel, by decide +kernel⟩
abbrev sLawApply : Stmt := topS 26
theorem scLawApply : FnScope ["shape", "pairs", "number", "due", "part"] ["shape", "pairs"] (defScope sLawApply) := ⟨rfl, rfl, rfl, by decide +kernel, rfl, by decide +kernel, by decide +kernel⟩
abbrev sLawVariables : Stmt := topS 27
theorem scLawVariables : FnScope ["shape", "found", "part"] ["shape", "found"] (defScope sLawVariables) := ⟨rfl, rfl, rfl, by decide +kernel, rfl, by decide +kernel, by decide +kernel⟩
abbrev sLawMatch : Stmt := topS 28
theorem scLawMatch : FnScope ["pattern", "shape", "found", "number", "due", "actual", "k", "part"] ["pattern", "shape", "found"] (defScope sLawMatch) := ⟨rfl, rfl, rfl, by decide +kernel, rfl, by decide +kernel, by decide +kernel⟩
abbrev sLawScheme : Stmt := topS 29
theorem scLawScheme : FnScope ["shape", "pairs", "number"] ["shape"] (defScope sLawScheme) := ⟨rfl, rfl, rfl, by decide +kernel, rfl, by decide +kernel, by decide +kernel⟩
abbrev sLawGeneral : Stmt := topS 30
theorem scLawGeneral : FnScope ["one", "other", "pairs", "k"] ["one", "other"] (defScope sLawGeneral) := ⟨rfl, rfl, rfl, by decide +kernel, rfl, by decide +kernel, by decide +kernel⟩
abbrev sLaw : Stmt := topS 31
theorem scLaw : FnScope ["script", "tape", "free", "shape", "at", "one", "kind", "pairs", "k", "part", "other", "drawn", "first", "second"] ["script"] (defScope sLaw) := ⟨rfl, rfl, rfl, by decide +kernel, rfl, by decide +kernel, by decide +kernel⟩
section
variable {P : Program} {w : World} {K : PySem.W.Frag} {mg : Str → Option Value} {base : Heap}
theorem ok_parts {f : Addr} {fd : FuncData} {k : Nat} (F : Fun K "parts_of_shape" "parts_of_shape" sPartsOfShape f fd) : FnOk P w K mg base CX0 (k + 1) f fd ["shape"] (spParts K) := by
  refine F.ok scPartsOfShape (fun vs H Q E h => ?_) (fun cdv A outer s H vs Q E hr h => ?_)
  · obtain ⟨x, d, rfl, _⟩ := h
    rfl
  obtain ⟨x, d, rfl, R, q⟩ := h
  refine ⟨_, pss_cons (ps_if (pt_cmpR op_eq (pe_ix ix_tup (pv 0) pe_int (fun _ _ => rfl)) pe_str (nomark _)) (pss_one (ps_ret (pe_tup pa_nil))) pss_nil)
      (pss_cons (ps_if (pt_cmpR op_eq (pe_ix ix_tup (pv 0) pe_int (fun _ _ => rfl)) pe_str (nomark _)) (pss_one (ps_ret (pe_slice sl_tupA (pv 0) (po_some pe_int) po_none))) pss_nil)
      (pss_one (ps_ret (pe_ix ix_tup (pv 0) (pe_un un_neg pe_int) (fun _ _ => rfl))))), ?_⟩
  cases R with
  | @v p n h1 =>
    refine ⟨_, rfl, p, _, _, _, rfl, rfl, h1.sq, atI_nat (j := 0) rfl, rfl, _, rfl, iteY ?_⟩
    exact ⟨zz 0, fun c hc => q _ c [] (same_upd hc) (.of upd_same) .nil⟩
  | @c p qa s vs as h1 h2 h3 =>
    refine ⟨_, rfl, p, _, _, _, rfl, rfl, h1.sq, atI_nat (j := 0) rfl, rfl, _, rfl, iteN (by decide +kernel) ?_⟩
    refine ⟨_, rfl, p, _, _, _, rfl, rfl, h1.sq, atI_nat (j := 0) rfl, rfl, _, rfl, iteN (by decide +kernel) ?_⟩
    exact ⟨_, rfl, 1, rfl, p, _, _, _, rfl, rfl, h1.sq, atI_last [_, _] _, q _ qa vs (Same.refl _) h2 h3⟩
  | @t p qa vs as h1 h2 h3 =>
    refine ⟨_, rfl, p, _, _, _, rfl, rfl, h1.sq, atI_nat (j := 0) rfl, rfl, _, rfl, iteN (by decide +kernel) ?_⟩
    refine ⟨_, rfl, p, _, _, _, rfl, rfl, h1.sq, atI_nat (j := 0) rfl, rfl, _, rfl, iteN (by decide +kernel) ?_⟩
    exact ⟨_, rfl, 1, rfl, p, _, _, _, rfl, rfl, h1.sq, atI_last [_] _, q _ qa vs (Same.refl _) h2 h3⟩
  | @f p x y a b h1 h2 h3 =>
    refine ⟨_, rfl, p, _, _, _, rfl, rfl, h1.sq, atI_nat (j := 0) rfl, rfl, _, rfl, iteN (by decide +kernel) ?_⟩
    refine ⟨_, rfl, p, _, _, _, rfl, rfl, h1.sq, atI_nat (j := 0) rfl, rfl, _, rfl, iteY ?_⟩
    refine ⟨_, rfl, 1, rfl, p, _, rfl, h1.sq, fun hw => absurd hw.1 (by show ¬ (HT.sIx 3 0 (some 1) = 0); decide), fun _ c hc => ?_⟩
    have S1 := same_upd hc (o := .tup (cutV [.str "f", x, y] (some 1) none))
    refine q _ c [x, y] S1 (.of ?_) (.cons (h2.same S1) (.cons (h3.same S1) .nil))
    rw [upd_same]
    rfl
theorem ok_with {f : Addr} {fd : FuncData} {k : Nat} (F : Fun K "with_parts" "with_parts" sWithParts f fd) (m_tuple : mg "tuple" = none) : FnOk P w K mg base CX0 (k + 1) f fd ["shape", "parts"] (spWith K) := by
  refine F.ok scWithParts (fun vs H Q E h => ?_) (fun cdv A outer s H vs Q E hr h => ?_)
  · obtain ⟨x, d, L, ws, ds, rfl, _⟩ := h
    rfl
  obtain ⟨x, d, L, ws, ds, rfl, R, nv, hL, RL, hl, q⟩ := h
  have lw := RL.len
  refine ⟨_, pss_cons (ps_if (pt_cmpR op_eq (pe_ix ix_tup (pv 0) pe_int (fun _ _ => rfl)) pe_str (nomark _)) (pss_one (ps_ret (pv 0))) pss_nil)
      (pss_cons (ps_if (pt_cmpR op_eq (pe_ix ix_tup (pv 0) pe_int (fun _ _ => rfl)) pe_str (nomark _)) (pss_one (ps_ret (pe_tup (pa_cons pe_str (pa_cons (pe_ix ix_list (pv 1) pe_int (fun _ _ => rfl)) (pa_cons (pe_ix ix_list (pv 1) pe_int (fun _ _ => rfl)) pa_nil)))))) pss_nil)
      (pss_one (ps_ret (pe_tup (pa_star (pe_slice sl_tupA (pv 0) po_none (po_some (pe_un un_neg pe_int))) (pa_cons (pe_callTy call_tuple_of (by rfl) m_tuple (by decide +kernel) (pa_cons (pv 1) pa_nil)) pa_nil)))))), ?_⟩
  cases R with
  | @v p n h1 => cases nv
  | @c p qa s vs as h1 h2 h3 =>
    refine ⟨_, rfl, p, _, _, _, rfl, rfl, h1.sq, atI_nat (j := 0) rfl, rfl, _, rfl, iteN (by decide +kernel) ?_⟩
    refine ⟨_, rfl, p, _, _, _, rfl, rfl, h1.sq, atI_nat (j := 0) rfl, rfl, _, rfl, iteN (by decide +kernel) ?_⟩
    obtain ⟨c1, c2⟩ := cut_last [.str "c", .int s] (.ref qa)
    refine ⟨_, rfl, 1, rfl, _, rfl, p, _, rfl, h1.sq, fun hw => absurd hw c2, fun _ c hc => ?_⟩
    refine ⟨c, _, rfl, .inl (SqT.of upd_same), _, rfl, L, ws, rfl, .inl ⟨SqL.of (same_upd hc _ _ hL), fun l hl1 => ⟨zz 3, fun r hr1 => ?_⟩⟩⟩
    have S3 := (same_upd hc (o := .tup (cutV [.str "c", .int s, .ref qa] none (some (-1))))).trans ((same_upd hl1 (o := .tup ws)).trans (same_upd hr1 (o := .tup [.str "c", .int s, .ref l])))
    exact q _ (.ref r) S3 (.c (.of upd_same) (.of (same_upd hr1 _ _ upd_same)) (RL.same S3))
  | @t p qa vs as h1 h2 h3 =>
    refine ⟨_, rfl, p, _, _, _, rfl, rfl, h1.sq, atI_nat (j := 0) rfl, rfl, _, rfl, iteN (by decide +kernel) ?_⟩
    refine ⟨_, rfl, p, _, _, _, rfl, rfl, h1.sq, atI_nat (j := 0) rfl, rfl, _, rfl, iteN (by decide +kernel) ?_⟩
    obtain ⟨c1, c2⟩ := cut_last [.str "t"] (.ref qa)
    refine ⟨_, rfl, 1, rfl, _, rfl, p, _, rfl, h1.sq, fun hw => absurd hw c2, fun _ c hc => ?_⟩
    refine ⟨c, _, rfl, .inl (SqT.of upd_same), _, rfl, L, ws, rfl, .inl ⟨SqL.of (same_upd hc _ _ hL), fun l hl1 => ⟨zz 2, fun r hr1 => ?_⟩⟩⟩
    have S3 := (same_upd hc (o := .tup (cutV [.str "t", .ref qa] none (some (-1))))).trans ((same_upd hl1 (o := .tup ws)).trans (same_upd hr1 (o := .tup [.str "t", .ref l])))
    exact q _ (.ref r) S3 (.t (.of upd_same) (.of (same_upd hr1 _ _ upd_same)) (RL.same S3))
  | @f p x y a b h1 h2 h3 =>
    refine ⟨_, rfl, p, _, _, _, rfl, rfl, h1.sq, atI_nat (j := 0) rfl, rfl, _, rfl, iteN (by decide +kernel) ?_⟩
    refine ⟨_, rfl, p, _, _, _, rfl, rfl, h1.sq, atI_nat (j := 0) rfl, rfl, _, rfl, iteY ?_⟩
    obtain ⟨d1, d2, rfl⟩ : ∃ d1 d2, ds = [d1, d2] := by
      match ds, hl with
      | [d1, d2], _ => exact ⟨d1, d2, rfl⟩
    obtain ⟨x1, e1, r1⟩ := RL.at (i := 0) rfl
    obtain ⟨x2, e2, r2⟩ := RL.at (i := 1) rfl
    refine ⟨_, rfl, L, _, _, _, rfl, rfl, SqL.of hL, atI_nat (j := 0) e1, _, rfl, L, _, _, _, rfl, rfl, SqL.of hL, atI_nat (j := 1) e2, zz 3, fun r hr1 => ?_⟩
    have S3 := same_upd hr1 (o := .tup [.str "f", x1, x2])
    exact q _ (.ref r) S3 (.f (.of upd_same) (r1.same S3) (r2.same S3))
/-- measures: the walk's word -/
def MeasW (K : PySem.W.Frag) (H : Hp) (x : V) (d : D) (L : Addr) : Nat → L2.St → Hp → Prop := fun m σ H' => ∃ (cn dp : Nat) (ws : List V) (its : List (D × Nat)) (y4 y5 y6 : Option V),
  σ = [some x, some (.int (cn : Int)), some (.int (dp : Int)), some (.ref L), y4, y5, y6] ∧ Same H H' ∧ H' L = some (.lst ws) ∧ Stk K H' ws its ∧ m = szS its ∧ cn + szS its = d.size ∧ max dp (dpS its) = d.depth
theorem max_int (dp l : Nat) : (if ((l : Nat) : Int) > ((dp : Nat) : Int) then ((l : Nat) : Int) else ((dp : Nat) : Int)) = ((max dp l : Nat) : Int) := by
  by_cases h : ((l : Nat) : Int) > ((dp : Nat) : Int)
  · rw [if_pos h]
    omega
  · rw [if_neg h]
    omega
theorem ok_meas {f f2 : Addr} {fd d2 : FuncData} {k : Nat} (F : Fun K "measures" "measures" sMeasures f fd) (Oq : Own P w K mg base CX0 k "parts_of_shape" f2 d2 ["shape"] (spParts K)) (m_max : mg "max" = none) : FnOk P w K mg base CX0 (k + 1) f fd ["shape"] (spMeas K) := by
  refine F.ok scMeasures (fun vs H Q E h => ?_) (fun cdv A outer s H vs Q E hr h => ?_)
  · obtain ⟨x, d, rfl, _⟩ := h
    rfl
  obtain ⟨x, d, rfl, R, big, q⟩ := h
  refine ⟨_, pss_cons (ps_set (i := 1) scMeasures.nd rfl (.inl rfl) pe_int)
      (pss_cons (ps_set (i := 2) scMeasures.nd rfl (.inl rfl) pe_int)
      (pss_cons (ps_set (i := 3) scMeasures.nd rfl (.inl rfl) (pe_lst (pa_cons (pe_tup (pa_cons (pv 0) (pa_cons pe_int pa_nil))) pa_nil)))
      (pss_cons (ps_while PassesOwn.never (pt_truth (pv 3) (by intro _; rfl)) (pss_cons (ps_asg (pe_bm0 PySem.F.plainAttrs_list PySem.F.slot_list_pop PySem.F.type_list_pop mt_pop (pv 3)) (pg_tup rfl (pgs_cons (pg_name (i := 4) scMeasures.nd rfl (.inl rfl)) (pgs_cons (pg_name (i := 5) scMeasures.nd rfl (.inl rfl)) pgs_nil))))
      (pss_cons (ps_aug (i := 1) scMeasures.nd rfl (.inl rfl) pe_int ip_add)
      (pss_cons (ps_set (i := 2) scMeasures.nd rfl (.inl rfl) (pe_callB (call_max2 rfl) (by rfl) m_max (by decide +kernel) (pa_cons (pv 2) (pa_cons (pv 5) pa_nil))))
      (pss_one (ps_for PassesOwn.never rfl (pi_tup (pe_call Oq.ok hr rfl Oq.at_ Oq.kp Oq.bd .nil pass0 (pa_cons (pv 4) pa_nil))) (pg_name (i := 6) scMeasures.nd rfl (.inl rfl)) (pss_one (ps_expr (pe_bm PySem.F.plainAttrs_list PySem.F.slot_list_append PySem.F.type_list_append mt_append (pv 3) (pa_cons (pe_tup (pa_cons (pv 6) (pa_cons (pe_op op_add (pv 5) pe_int) pa_nil))) pa_nil))))))))))
      (pss_one (ps_ret (pe_tup (pa_cons (pv 1) (pa_cons (pv 2) pa_nil)))))))), ?_⟩
  refine ⟨_, rfl, zz 2, fun p hp => ⟨zz 1, fun L hL => ?_⟩⟩
  have S0 := (same_upd hp (o := .tup [x, .int 1])).trans (same_upd hL (o := .lst [.ref p]))
  have nL : H L = none := (same_upd hp (o := .tup [x, .int 1])).free hL
  refine ⟨MeasW K H x d L, ⟨_, 0, 0, [.ref p], [(d, 1)], _, _, _, rfl, S0, upd_same, .cons (same_upd hL _ _ upd_same) (R.same S0) .nil, rfl, ?_, ?_⟩, fun m σ H' h => ?_⟩
  · simp only [szS]
    omega
  · simp only [dpS]
    omega
  obtain ⟨cn, dp, ws, its, y4, y5, y6, rfl, S1, hL1, ST1, rfl, e1, e2⟩ := h
  rcases ST1.last with ⟨rfl, rfl⟩ | ⟨ws', its', p', x', d', l, rfl, rfl, ST2, hp', R'⟩
  · refine ⟨_, rfl, false, .inl ⟨_, SqL.of hL1, rfl⟩, iteF ?_⟩
    have g1 : cn = d.size := e1
    have g2 : dp = d.depth := by
      have : max dp 0 = d.depth := e2
      omega
    subst g1 g2
    exact ⟨_, rfl, _, rfl, zz 2, fun r hr1 => q _ r (S1.trans (same_upd hr1)) upd_same⟩
  · rw [szS_app] at e1
    rw [dpS_app] at e2
    have len1 := (ST2.app (.cons hp' R' .nil)).len
    have len2 := len_szS (its' ++ [(d', l)])
    rw [szS_app] at len2
    have e1' : cn + (szS its' + (d'.size + 0)) = d.size := e1
    have e2' : max dp (max (dpS its') (max (l + d'.depth - 1) 0)) = d.depth := e2
    refine ⟨_, rfl, true, .inl ⟨_, SqL.of hL1, by cases ws' <;> rfl⟩, iteT ⟨fun σ' H'' => ∃ m', m' < szS (its' ++ [(d', l)]) ∧ MeasW K H x d L m' σ' H'', fun _ _ h => h, ?_⟩⟩
    refine ⟨_, rfl, .inl ⟨rfl, _, SqL.of hL1⟩, L, _, _, rfl, rfl, hL1, last_get _ _, ?_⟩
    rw [List.dropLast_concat]
    have X1 : ST H' (upd H' L (.lst ws')) := ST.lst hL1 _
    refine ⟨p', _, rfl, SqT.of (X1 _ _ hp'), rfl, _, _, rfl, _, _, rfl, rfl, ?_⟩
    refine ⟨_, rfl, _, _, rfl, rfl, ?_⟩
    refine ⟨_, rfl, _, rfl, _, _, rfl, ?_⟩
    have SL : Same H (upd H' L (.lst ws')) := same_skip S1 nL
    refine ⟨_, rfl, x', d', rfl, R'.mono X1, fun H2 qa vs2 S2 h2 RL => ⟨qa, rfl, ⟨_, h2.sq⟩, ?_⟩⟩
    have lv := RL.len
    refine for_tup (K := K) (a := qa) (xs := vs2) (fun j σ H'' => ∃ y6 ps, σ = [some x, some (.int ((cn : Int) + 1)), some (.int (if ((l : Nat) : Int) > ((dp : Nat) : Int) then ((l : Nat) : Int) else ((dp : Nat) : Int))), some (.ref L), some x', some (.int ((l : Nat) : Int)), y6] ∧ Same H H'' ∧ ST H2 H'' ∧ H'' L = some (.lst (ws' ++ ps)) ∧ Stk K H'' ps (push (l + 1) (d'.kids.take j)))
      ⟨_, [], rfl, SL.trans S2, ST.refl _, by rw [List.append_nil]; exact S2 _ _ upd_same, .nil⟩ (fun i σ H'' _ h => ?_) (fun i z σ H'' hz h => ?_) (fun σ H'' h => ?_)
    · obtain ⟨y6, ps, _, _, X2, _⟩ := h
      exact (h2.mono X2).sq
    · obtain ⟨y6, ps, rfl, S3, X2, hL3, SP⟩ := h
      obtain ⟨dz, hdz, Rz⟩ := RL.get hz
      have hi : i < d'.kids.length := (List.getElem?_eq_some_iff.mp hdz).1
      refine ⟨_, rfl, .inl ⟨rfl, _, SqL.of hL3⟩, _, rfl, _, rfl, _, _, rfl, rfl, zz 2, fun pt hpt => ?_⟩
      have Sp := same_upd hpt (o := .tup [z, .int (((l : Nat) : Int) + 1)])
      have hL4 := Sp _ _ hL3
      have bound : (ws' ++ ps).length ≤ 100000 := by
        have t1 := SP.len
        have t2 := ST2.len
        have t3 := len_szS its'
        have t4 := len_szS (push (l + 1) (d'.kids.take i))
        have t5 : (push (l + 1) (d'.kids.take i)).length ≤ d'.size := by
          show ((d'.kids.take i).map _).length ≤ _
          rw [List.length_map, List.length_take, size_kids]
          have t6 := len_szS (push 0 d'.kids)
          rw [szS_push] at t6
          have t7 : (push 0 d'.kids).length = d'.kids.length := List.length_map _
          omega
        rw [List.length_append]
        omega
      refine ⟨L, _, _, rfl, rfl, hL4, zbig bound, ?_⟩
      have X3 : ST (upd H'' pt (.tup [z, .int (((l : Nat) : Int) + 1)])) (upd (upd H'' pt (.tup [z, .int (((l : Nat) : Int) + 1)])) L (.lst (ws' ++ ps ++ [.ref pt]))) := ST.lst hL4 _
      refine ⟨_, ps ++ [.ref pt], rfl, same_skip (S3.trans Sp) nL, X2.trans ((ST.same Sp).trans X3), by rw [upd_same, List.append_assoc], ?_⟩
      have e3 : push (l + 1) (d'.kids.take (i + 1)) = push (l + 1) (d'.kids.take i) ++ [(dz, l + 1)] := by
        rw [List.take_add_one, hdz]
        exact List.map_append
      rw [e3]
      refine (SP.mono ((ST.same Sp).trans X3)).app (.cons (X3 _ _ upd_same) ?_ .nil)
      exact Rz.mono (X2.trans ((ST.same Sp).trans X3))
    · obtain ⟨y6, ps, rfl, S3, X2, hL3, SP⟩ := h
      rw [lv, List.take_length] at SP
      refine ⟨szS (its' ++ push (l + 1) d'.kids), ?_, cn + 1, max dp l, ws' ++ ps, its' ++ push (l + 1) d'.kids, some x', some (.int ((l : Nat) : Int)), y6, ?_, S3, hL3, (ST2.mono ((X1.trans (ST.same S2)).trans X2)).app SP, rfl, ?_, ?_⟩
      · rw [szS_app, szS_app, szS_push]
        show _ < _ + (d'.size + 0)
        rw [size_kids d']
        omega
      · rw [max_int]
        rfl
      · rw [szS_app, szS_push]
        rw [size_kids d'] at e1'
        omega
      · rw [dpS_app]
        rw [depth_kids d'] at e2'
        by_cases hk : d'.kids = []
        · rw [hk] at e2' ⊢
          have e4 : dpS (push (l + 1) []) = 0 := rfl
          have e5 : D.depthL [] = 0 := by simp only [D.depthL]
          rw [e4]
          rw [e5] at e2'
          omega
        · have e4 := dpS_push (l + 1) d'.kids hk
          obtain ⟨z, hz, e5⟩ := depthL_ex hk
          have := depth_pos z
          omega
/-- check_result: the walk's word -/
def CheckW (K : PySem.W.Frag) (H : Hp) (x : V) (d : D) (m kn L : Addr) (f : Int → Option D) : Nat → L2.St → Hp → Prop := fun mm σ H' => ∃ (cn : Nat) (ws : List V) (its : List (D × Nat)) (kvs : List (Key × V)) (y5 y6 y7 y8 y9 : Option V),
  σ = [some x, some (.ref m), some (.ref kn), some (.int (cn : Int)), some (.ref L), y5, y6, y7, y8, y9] ∧ Same H H' ∧ H' L = some (.lst ws) ∧ Stk K H' ws its ∧ H' kn = some (.dK kvs) ∧ KnOk H' kvs f ∧ kvs.length ≤ cn ∧ cn ≤ 2000 ∧
  mm = szS its ∧ szS its ≤ d.size ∧ cn + szS (subS f its) = (d.sub f).size ∧ dpS (subS f its) ≤ (d.sub f).depth ∧ ((d.sub f).depth ≤ 100 ∨ dpS (subS f its) = (d.sub f).depth)
theorem ok_check {f f2 f3 C : Addr} {fd d2 d3 : FuncData} {k : Nat} {u1 u2 : Tok} (F : Fun K "check_result" "check_result" sCheckResult f fd) (Oq : Own P w K mg base CX0 k "parts_of_shape" f2 d2 ["shape"] (spParts K)) (Om : Own P w K mg base CX0 k "measures" f3 d3 ["shape"] (spMeas K))
    (T : ExcT K mg "TooLarge" C) (eMS : mg "MAX_SIZE" = some (.int 2000 u1)) (eMD : mg "MAX_DEPTH" = some (.int 100 u2)) : FnOk P w K mg base (L2.CX P w) (k + 1) f fd ["shape", "mapping"] (spCheck K C) := by
  refine F.okX scCheckResult (fun vs H Q E h => ?_) (fun cdv A outer s H vs Q E hr h => ?_)
  · obtain ⟨x, d, m, ms, rfl, _⟩ := h
    rfl
  obtain ⟨x, d, m, ms, rfl, R, M, sz, szm, qE, qQ⟩ := h
  refine ⟨_, pss_cons (ps_set (i := 2) scCheckResult.nd rfl (.inl rfl) pe_dnewK)
      (pss_cons (ps_set (i := 3) scCheckResult.nd rfl (.inl rfl) pe_int)
      (pss_cons (ps_set (i := 4) scCheckResult.nd rfl (.inl rfl) (pe_lst (pa_cons (pe_tup (pa_cons (pv 0) (pa_cons pe_int pa_nil))) pa_nil)))
      (pss_one (ps_while (passes_of rfl) (pt_truth (pv 4) (by intro _; rfl)) (pss_cons (ps_asg (pe_bm0 PySem.F.plainAttrs_list PySem.F.slot_list_pop PySem.F.type_list_pop mt_pop (pv 4)) (pg_tup rfl (pgs_cons (pg_name (i := 5) scCheckResult.nd rfl (.inl rfl)) (pgs_cons (pg_name (i := 6) scCheckResult.nd rfl (.inl rfl)) pgs_nil))))
      (pss_cons (ps_aug (i := 3) scCheckResult.nd rfl (.inl rfl) pe_int ip_add)
      (pss_cons (ps_set (i := 7) scCheckResult.nd rfl (.inl rfl) (pv 6))
      (pss_cut (ps_if (PW.pt (pw_and (pt_cmpR op_eq (pe_ix ix_tup (pv 5) pe_int (fun _ _ => rfl)) pe_str (nomark _)) (pw_and1 (pt_cmp (pc_din (hu_of hr) (pe_ix ix_tup (pv 5) pe_int (fun _ _ => rfl)) (pv 1)))))) (pss_cons (ps_set (i := 8) scCheckResult.nd rfl (.inl rfl) (pe_ix ix_tup (pv 5) pe_int (fun _ _ => rfl)))
      (pss_cut (ps_if (pt_cmp (pc_dnotin (hu_of hr) (pv 8) (pv 2))) (pss_one (ps_dput (hu_of hr) (pv 2) (pv 8) (pe_call Om.ok hr rfl Om.at_ Om.kp Om.bd .nil pass0 (pa_cons (pe_dget (hu_of hr) (pv 1) (pv 8) (fun _ _ => rfl)) pa_nil)) rfl)) pss_nil)
      (pss_cons (ps_aug (i := 3) scCheckResult.nd rfl (.inl rfl) (pe_op op_sub (pe_ix ix_tup (pe_dget (hu_of hr) (pv 2) (pv 8) (fun _ _ => rfl)) pe_int (fun _ _ => rfl)) pe_int) ip_add)
      (pss_one (ps_aug (i := 7) scCheckResult.nd rfl (.inl rfl) (pe_op op_sub (pe_ix ix_tup (pe_dget (hu_of hr) (pv 2) (pv 8) (fun _ _ => rfl)) pe_int (fun _ _ => rfl)) pe_int) ip_add))))) pss_nil)
      (pss_cut (ps_if (PW.pt (pw_or (pt_cmpR op_gt (pv 3) (pe_glob (v := .int 2000) rfl eMS ⟨_, rfl⟩) (nomark _)) (pw_or1 (pt_cmpR op_gt (pv 7) (pe_glob (v := .int 100) rfl eMD ⟨_, rfl⟩) (nomark _))))) (pss_one (ps_raise rfl (takes_of rfl rfl rfl rfl) (pmk_own PySem.F.excBase_ValueError T.xP T.gP T.kP (raises_own T.bP T.tP) rfl))) pss_nil)
      (pss_one (ps_for (passes_of rfl) rfl (pi_tup (pe_call Oq.ok hr rfl Oq.at_ Oq.kp Oq.bd .nil pass0 (pa_cons (pv 5) pa_nil))) (pg_name (i := 9) scCheckResult.nd rfl (.inl rfl)) (pss_one (ps_expr (pe_bm PySem.F.plainAttrs_list PySem.F.slot_list_append PySem.F.type_list_append mt_append (pv 4) (pa_cons (pe_tup (pa_cons (pv 9) (pa_cons (pe_op op_add (pv 6) pe_int) pa_nil))) pa_nil))))))))))))))), ?_⟩
  refine fun kn hkn => ?_
  have Sk := same_upd hkn (o := .dK [])
  refine ⟨_, rfl, zz 2, fun p hp => ⟨zz 1, fun L hL => ?_⟩⟩
  have Sp := same_upd hp (o := .tup [x, .int 1])
  have SL0 := same_upd hL (o := .lst [.ref p])
  have S0 := Sk.trans (Sp.trans SL0)
  have nL : H L = none := Sk.free (Sp.free hL)
  have hknL := SL0 _ _ (Sp _ _ (upd_same (H := H) (a := kn) (o := .dK [])))
  refine ⟨CheckW K H x d m kn L (lk ms), ⟨_, 0, [.ref p], [(d, 1)], [], _, _, _, _, _, rfl, S0, upd_same, .cons (SL0 _ _ upd_same) (R.same S0) .nil, hknL, fun n v e => (by cases e), Nat.le_refl _, by omega, rfl, ?_, ?_, ?_, ?_⟩, fun mm σ H' h => ?_⟩
  · simp only [szS]
    omega
  · simp only [subS, szS, List.map]
    omega
  · simp only [subS, dpS, List.map]
    omega
  · simp only [subS, dpS, List.map]
    omega
  obtain ⟨cn, ws, its, kvs, y5, y6, y7, y8, y9, rfl, S1, hL1, ST1, hk1, kn1, lk1, c2000, rfl, z0, e1, e2, e3⟩ := h
  rcases ST1.last with ⟨rfl, rfl⟩ | ⟨ws', its', p', x', d', l, rfl, rfl, ST2, hp', R'⟩
  · refine ⟨_, rfl, false, .inl ⟨_, SqL.of hL1, rfl⟩, iteF ?_⟩
    have g1 : cn + 0 = (d.sub (lk ms)).size := e1
    have g2 : (d.sub (lk ms)).depth ≤ 100 := by
      rcases e3 with h | h
      · exact h
      · have h' : 0 = (d.sub (lk ms)).depth := h
        have := depth_pos (d.sub (lk ms))
        omega
    refine qQ (fun hb => ?_) _ S1
    rcases hb with h | h <;> omega
  · rw [subS_app, szS_app] at e1
    rw [subS_app, dpS_app] at e2 e3
    have e1' : cn + (szS (subS (lk ms) its') + ((d'.sub (lk ms)).size + 0)) = (d.sub (lk ms)).size := e1
    have e2' : max (dpS (subS (lk ms) its')) (max (l + (d'.sub (lk ms)).depth - 1) 0) ≤ (d.sub (lk ms)).depth := e2
    have e3' : (d.sub (lk ms)).depth ≤ 100 ∨ max (dpS (subS (lk ms) its')) (max (l + (d'.sub (lk ms)).depth - 1) 0) = (d.sub (lk ms)).depth := e3
    have z1 := z0
    rw [szS_app] at z1
    have z1' : szS its' + (d'.size + 0) ≤ d.size := z1
    refine ⟨_, rfl, true, .inl ⟨_, SqL.of hL1, by cases ws' <;> rfl⟩, iteT ⟨fun σ' H'' => ∃ m', m' < szS (its' ++ [(d', l)]) ∧ CheckW K H x d m kn L (lk ms) m' σ' H'', fun _ _ h => h, ?_⟩⟩
    refine ⟨_, rfl, .inl ⟨rfl, _, SqL.of hL1⟩, L, _, _, rfl, rfl, hL1, last_get _ _, ?_⟩
    rw [List.dropLast_concat]
    have X1 : ST H' (upd H' L (.lst ws')) := ST.lst hL1 _
    have SL : Same H (upd H' L (.lst ws')) := same_skip S1 nL
    have nkL : kn ≠ L := ne_of hk1 hL1 (fun z => by cases z)
    have hk2 : upd H' L (.lst ws') kn = some (.dK kvs) := by rw [upd_ne nkL]; exact hk1
    have hL2 : upd H' L (.lst ws') L = some (.lst ws') := upd_same
    have kn2 := kn1.mono X1
    have ST3 := ST2.mono X1
    have R2 := R'.mono X1
    refine ⟨p', _, rfl, SqT.of (X1 _ _ hp'), rfl, _, _, rfl, _, _, rfl, rfl, ?_⟩
    generalize upd H' L (.lst ws') = H2 at SL hk2 hL2 kn2 ST3 R2
    refine ⟨_, rfl, _, _, rfl, rfl, ?_⟩
    refine ⟨_, rfl, ?_⟩
    -- the node's own measure
    refine ⟨fun σ' H3 => ∃ (cn' dp' : Nat) (kvs' : List (Key × V)) (y8 y9 : Option V), σ' = [some x, some (.ref m), some (.ref kn), some (.int (cn' : Int)), some (.ref L), some x', some (.int ((l : Nat) : Int)), some (.int (dp' : Int)), y8, y9] ∧ Same H H3 ∧ ST H2 H3 ∧ H3 L = some (.lst ws') ∧ H3 kn = some (.dK kvs') ∧
      KnOk H3 kvs' (lk ms) ∧ kvs'.length ≤ cn' ∧ cn' + D.sizeL (D.subL (lk ms) d'.kids) = cn + (d'.sub (lk ms)).size ∧ dp' ≤ l + (d'.sub (lk ms)).depth - 1 ∧ (d'.kids = [] → dp' = l + (d'.sub (lk ms)).depth - 1) ∧ (d'.kids ≠ [] → d'.isV = false), ?_, ?_⟩
    · have plain : (∀ n, d' = .v n → lk ms n = none) → (d'.kids ≠ [] → d'.isV = false) ∧ (cn + 1) + D.sizeL (D.subL (lk ms) d'.kids) = cn + (d'.sub (lk ms)).size ∧ l ≤ l + (d'.sub (lk ms)).depth - 1 ∧ (d'.kids = [] → l = l + (d'.sub (lk ms)).depth - 1) := by
        intro hn
        have hp1 := depth_pos (d'.sub (lk ms))
        cases hv : d'.isV with
        | true =>
          cases d' with
          | v n =>
            rw [sub_v_none (hn n rfl)]
            refine ⟨fun z => absurd rfl z, ?_, (by show l ≤ l + 1 - 1; omega), fun _ => ?_⟩
            · show (cn + 1) + 0 = cn + 1
              omega
            · show l = l + 1 - 1
              omega
          | c _ _ => cases hv
          | t _ => cases hv
          | f _ _ => cases hv
        | false =>
          refine ⟨fun _ => rfl, ?_, by omega, fun hk => ?_⟩
          · rw [size_kids (d'.sub (lk ms)), sub_kids _ _ hv]
            omega
          · rw [depth_kids (d'.sub (lk ms)), sub_kids _ _ hv, hk]
            show l = l + (1 + 0) - 1
            omega
      have skip : (∀ n, d' = .v n → lk ms n = none) → ∃ (cn' dp' : Nat) (kvs' : List (Key × V)) (y8' y9' : Option V), [some x, some (.ref m), some (.ref kn), some (.int ((cn : Int) + 1)), some (.ref L), some x', some (.int ((l : Nat) : Int)), some (.int ((l : Nat) : Int)), y8, y9] = [some x, some (.ref m), some (.ref kn), some (.int (cn' : Int)), some (.ref L), some x', some (.int ((l : Nat) : Int)), some (.int (dp' : Int)), y8', y9'] ∧ Same H H2 ∧ ST H2 H2 ∧ H2 L = some (.lst ws') ∧ H2 kn = some (.dK kvs') ∧
          KnOk H2 kvs' (lk ms) ∧ kvs'.length ≤ cn' ∧ cn' + D.sizeL (D.subL (lk ms) d'.kids) = cn + (d'.sub (lk ms)).size ∧ dp' ≤ l + (d'.sub (lk ms)).depth - 1 ∧ (d'.kids = [] → dp' = l + (d'.sub (lk ms)).depth - 1) ∧ (d'.kids ≠ [] → d'.isV = false) := by
        intro hn
        obtain ⟨p1, p2, p3, p4⟩ := plain hn
        exact ⟨cn + 1, l, kvs, y8, y9, rfl, SL, ST.refl _, hL2, hk2, kn2, by omega, p2, p3, p4, p1⟩
      obtain ⟨pa, ka, ra, rfl, hta, hva, _⟩ := R2.tag
      refine ⟨_, rfl, pa, _, _, _, rfl, rfl, hta.sq, atI_nat (j := 0) rfl, rfl, _, rfl, ite2 (fun c1 => ?_) (fun c1 => ?_)⟩
      · have k1 : ka = "v" := V.str.inj (of_decide_eq_true c1)
        cases R2 with
        | c h1 h2 h3 => exact absurd (hva.mpr k1) (by intro z; cases z)
        | t h1 h2 h3 => exact absurd (hva.mpr k1) (by intro z; cases z)
        | f h1 h2 h3 => exact absurd (hva.mpr k1) (by intro z; cases z)
        | @v _ n h1 =>
          obtain ⟨kvm, hm, Mm⟩ := M
          have hm2 := SL _ _ hm
          refine ⟨_, rfl, pa, _, _, _, rfl, rfl, h1.sq, atI_nat (j := 1) rfl, _, rfl, m, _, rfl, DGet.k (k := Sum.inl n) hm2, _, rfl, ?_⟩
          rcases Mm.get n with ⟨g1, g2⟩ | ⟨v, e, g1, g2, Re⟩
          · rw [g1]
            refine iteF ?_
            exact skip (fun n' hn => by cases hn; exact g2)
          · rw [g1]
            refine iteT ?_
            have Re2 := Re.mono (ST.same SL)
            refine ⟨_, rfl, pa, _, _, _, rfl, rfl, h1.sq, atI_nat (j := 1) rfl, ?_⟩
            refine ⟨fun σ' H3 => ∃ (kvs' : List (Key × V)) (py : Addr), σ' = [some x, some (.ref m), some (.ref kn), some (.int ((cn : Int) + 1)), some (.ref L), some (.ref pa), some (.int ((l : Nat) : Int)), some (.int ((l : Nat) : Int)), some (.int n), y9] ∧ Same H H3 ∧ ST H2 H3 ∧ H3 L = some (.lst ws') ∧ H3 kn = some (.dK kvs') ∧
              KnOk H3 kvs' (lk ms) ∧ kvs'.length ≤ cn + 1 ∧ valV kvs' (.inl n) = some (.ref py) ∧ H3 py = some (.tup [.int (e.size : Int), .int (e.depth : Int)]), ?_, ?_⟩
            · refine ⟨_, rfl, _, rfl, kn, _, rfl, DGet.k (k := Sum.inl n) hk2, _, rfl, ?_⟩
              cases gk : valV kvs (.inl n) with
              | none =>
                refine iteT ?_
                refine ⟨_, rfl, _, rfl, m, _, rfl, (by have g := DGet.k (k := Sum.inl n) hm2; rw [g1] at g; exact g), v, e, rfl, Re2, szm n e g2, fun H3 r S3 hr3 => ?_⟩
                have hk3 := S3 _ _ hk2
                refine ⟨_, rfl, _, rfl, kn, _, rfl, DPut.k (k := Sum.inl n) hk3 (zbig (n := kvs.length) (by omega)), ?_⟩
                have X3 : ST H3 (upd H3 kn (.dK (putK kvs (.inl n) (.ref r)))) := ST.dct hk3 _
                have nk : H kn = none := hkn
                refine ⟨_, r, rfl, same_skip (SL.trans S3) nk, (ST.same S3).trans X3, ?_, upd_same, fun n' v' ev => ?_, ?_, ?_, X3 _ _ hr3⟩
                · rw [upd_ne nkL.symm]
                  exact S3 _ _ hL2
                · rw [valV_put] at ev
                  by_cases cc : (Sum.inl n' : Key) = Sum.inl n
                  · rw [if_pos cc] at ev
                    cases ev
                    cases cc
                    exact ⟨r, e, rfl, g2, X3 _ _ hr3⟩
                  · rw [if_neg cc] at ev
                    exact (kn2.mono ((ST.same S3).trans X3)) n' v' ev
                · have := length_putK kvs (Sum.inl n : Key) (.ref r)
                  omega
                · rw [valV_put, if_pos rfl]
              | some vk =>
                refine iteF ?_
                obtain ⟨py, e', rfl, g3, g4⟩ := kn2 n vk gk
                have ee : e' = e := Option.some.inj (g3.symm.trans g2)
                subst ee
                exact ⟨kvs, py, rfl, SL, ST.refl _, hL2, hk2, kn2, by omega, gk, g4⟩
            · rintro σ' H3 ⟨kvs', py, rfl, S3, X3, hL3, hk3, kn3, lk3, gy, hy⟩
              have dg : DGet H3 kn (.int n) (some (.ref py)) := by
                have g := DGet.k (k := Sum.inl n) hk3
                rw [gy] at g
                exact g
              refine ⟨_, rfl, _, rfl, _, rfl, kn, _, rfl, dg, py, _, _, _, rfl, rfl, SqT.of hy, atI_nat (j := 0) rfl, _, _, rfl, rfl, _, _, rfl, rfl, ?_⟩
              refine ⟨_, rfl, _, rfl, _, rfl, kn, _, rfl, dg, py, _, _, _, rfl, rfl, SqT.of hy, atI_nat (j := 1) rfl, _, _, rfl, rfl, _, _, rfl, rfl, ?_⟩
              have ps := size_pos e
              have pd := depth_pos e
              have i1 : ((cn : Int) + 1 + ((e.size : Int) - 1)) = ((cn + e.size : Nat) : Int) := by omega
              have i2 : (((l : Nat) : Int) + ((e.depth : Int) - 1)) = ((l + e.depth - 1 : Nat) : Int) := by omega
              refine ⟨cn + e.size, l + e.depth - 1, kvs', some (.int n), y9, ?_, S3, X3, hL3, hk3, kn3, by omega, ?_, ?_, fun _ => ?_, fun z => absurd rfl z⟩
              · rw [← i1, ← i2]
                rfl
              · rw [sub_size_v g2]
                show cn + e.size + 0 = _
                omega
              · rw [sub_size_v g2]
                exact Nat.le_refl _
              · rw [sub_size_v g2]
      · have k1 : ¬ ka = "v" := fun z => c1 (decide_eq_true (congrArg V.str z))
        refine skip (fun n hn => ?_)
        subst hn
        exact absurd (hva.mp rfl) k1
    · rintro σ' H3 ⟨cn', dp', kvs', y8', y9', rfl, S3, X3, hL3, hk3, kn3, lk3, f1, f2, f3, f4⟩
      have R3 := R2.mono X3
      -- the bounds
      have cnN : cn' ≤ (d.sub (lk ms)).size := by omega
      have dpN : dp' ≤ (d.sub (lk ms)).depth := by omega
      refine ⟨fun σ' H4 => σ' = [some x, some (.ref m), some (.ref kn), some (.int (cn' : Int)), some (.ref L), some x', some (.int ((l : Nat) : Int)), some (.int (dp' : Int)), y8', y9'] ∧ H4 = H3 ∧ cn' ≤ 2000 ∧ dp' ≤ 100, ?_, ?_⟩
      · refine ⟨_, rfl, _, _, rfl, rfl, _, rfl, ite2 (fun b1 => ?_) (fun b1 => ?_)⟩
        · have b1' : (2000 : Int) < (cn' : Int) := of_decide_eq_true b1
          exact qE (.inl (by omega)) _ S3
        · have b1' : ¬ (2000 : Int) < (cn' : Int) := fun z => b1 (decide_eq_true z)
          refine ⟨_, rfl, _, _, rfl, rfl, _, rfl, ite2 (fun b2 => ?_) (fun b2 => ?_)⟩
          · have b2' : (100 : Int) < (dp' : Int) := of_decide_eq_true b2
            exact qE (.inr (by omega)) _ S3
          · have b2' : ¬ (100 : Int) < (dp' : Int) := fun z => b2 (decide_eq_true z)
            exact ⟨rfl, rfl, by omega, by omega⟩
      · rintro σ' H4 ⟨rfl, rfl, b1, b2⟩
        refine ⟨_, rfl, x', d', rfl, R3, fun H5 qa vs2 S5 h5 RL => ⟨qa, rfl, ⟨_, h5.sq⟩, ?_⟩⟩
        have lv := RL.len
        refine for_tup (K := K) (a := qa) (xs := vs2) (fun j σ H'' => ∃ y9 ps, σ = [some x, some (.ref m), some (.ref kn), some (.int (cn' : Int)), some (.ref L), some x', some (.int ((l : Nat) : Int)), some (.int (dp' : Int)), y8', y9] ∧ Same H H'' ∧ ST H5 H'' ∧ H'' L = some (.lst (ws' ++ ps)) ∧ H'' kn = some (.dK kvs') ∧ Stk K H'' ps (push (l + 1) (d'.kids.take j)))
          ⟨_, [], rfl, S3.trans S5, ST.refl _, by rw [List.append_nil]; exact S5 _ _ hL3, S5 _ _ hk3, .nil⟩ (fun i σ H'' _ h => ?_) (fun i z σ H'' hz h => ?_) (fun σ H'' h => ?_)
        · obtain ⟨y9, ps, _, _, X4, _⟩ := h
          exact (h5.mono X4).sq
        · obtain ⟨y9, ps, rfl, S6, X4, hL4, hk4, SP⟩ := h
          obtain ⟨dz, hdz, Rz⟩ := RL.get hz
          have hi : i < d'.kids.length := (List.getElem?_eq_some_iff.mp hdz).1
          refine ⟨_, rfl, .inl ⟨rfl, _, SqL.of hL4⟩, _, rfl, _, rfl, _, _, rfl, rfl, zz 2, fun pt hpt => ?_⟩
          have Sp := same_upd hpt (o := .tup [z, .int (((l : Nat) : Int) + 1)])
          have hL5 := Sp _ _ hL4
          have bound : (ws' ++ ps).length ≤ 100000 := by
            have t1 := SP.len
            have t2 := ST2.len
            have t3 := len_szS its'
            have t5 : (push (l + 1) (d'.kids.take i)).length ≤ d'.size := by
              show ((d'.kids.take i).map _).length ≤ _
              rw [List.length_map, List.length_take, size_kids]
              have t6 := len_szS (push 0 d'.kids)
              rw [szS_push] at t6
              have t7 : (push 0 d'.kids).length = d'.kids.length := List.length_map _
              omega
            rw [List.length_append]
            omega
          refine ⟨L, _, _, rfl, rfl, hL5, zbig bound, ?_⟩
          have X5 : ST (upd H'' pt (.tup [z, .int (((l : Nat) : Int) + 1)])) (upd (upd H'' pt (.tup [z, .int (((l : Nat) : Int) + 1)])) L (.lst (ws' ++ ps ++ [.ref pt]))) := ST.lst hL5 _
          refine ⟨_, ps ++ [.ref pt], rfl, same_skip (S6.trans Sp) nL, X4.trans ((ST.same Sp).trans X5), by rw [upd_same, List.append_assoc], by rw [upd_ne nkL]; exact Sp _ _ hk4, ?_⟩
          have e5 : push (l + 1) (d'.kids.take (i + 1)) = push (l + 1) (d'.kids.take i) ++ [(dz, l + 1)] := by
            rw [List.take_add_one, hdz]
            exact List.map_append
          rw [e5]
          refine (SP.mono ((ST.same Sp).trans X5)).app (.cons (X5 _ _ upd_same) ?_ .nil)
          exact Rz.mono (X4.trans ((ST.same Sp).trans X5))
        · obtain ⟨y9, ps, rfl, S6, X4, hL4, hk4, SP⟩ := h
          rw [lv, List.take_length] at SP
          have X45 := (ST.same S5).trans X4
          refine ⟨szS (its' ++ push (l + 1) d'.kids), ?_, cn', ws' ++ ps, its' ++ push (l + 1) d'.kids, kvs', some x', some (.int ((l : Nat) : Int)), some (.int (dp' : Int)), y8', y9, rfl, S6, hL4, ((ST3.mono X3).mono X45).app SP, hk4, kn3.mono X45, lk3, b1, rfl, ?_, ?_, ?_, ?_⟩
          · rw [szS_app, szS_app, szS_push]
            show _ < _ + (d'.size + 0)
            rw [size_kids d']
            omega
          · rw [szS_app, szS_push]
            rw [size_kids d'] at z1'
            omega
          · rw [subS_app, subS_push, szS_app, szS_push]
            omega
          · rw [subS_app, subS_push, dpS_app]
            by_cases hk : d'.kids = []
            · rw [hk]
              show max _ 0 ≤ _
              omega
            · have hne : D.subL (lk ms) d'.kids ≠ [] := by
                rw [subL_map]
                intro z
                exact hk (List.map_eq_nil_iff.mp z)
              have e4 := dpS_push (l + 1) _ hne
              have e5 := depth_kids (d'.sub (lk ms))
              rw [sub_kids _ _ (f4 hk)] at e5
              omega
          · rw [subS_app, subS_push, dpS_app]
            by_cases hk : d'.kids = []
            · rw [hk]
              have e6 := f3 hk
              show _ ∨ max _ 0 = _
              omega
            · have hne : D.subL (lk ms) d'.kids ≠ [] := by
                rw [subL_map]
                intro z
                exact hk (List.map_eq_nil_iff.mp z)
              have e4 := dpS_push (l + 1) _ hne
              have e5 := depth_kids (d'.sub (lk ms))
              rw [sub_kids _ _ (f4 hk)] at e5
              omega
/-- replaced -/
theorem repl_none {f : Addr} {fd : FuncData} : FnOk P w K mg base CX0 1 f fd ["shape", "mapping"] (spRepl K 0) := by
  have no : ∀ vs H Q E, ¬ spRepl K 0 vs H Q E := fun vs H Q E h => by
    obtain ⟨x, d, m, ms, _, _, _, _, h, _⟩ := h
    have := depth_pos d
    omega
  exact ⟨fun vs H Q E h => absurd h (no vs H Q E), fun A outer s H args us vs Q E _ _ _ _ h => absurd h (no vs H Q E)⟩
theorem ok_repl {f f2 f3 : Addr} {fd d2 d3 : FuncData} {n b : Nat} (F : Fun K "replaced" "replaced" sReplaced f fd) (hn : 1 ≤ n) (Oq : Own P w K mg base CX0 1 "parts_of_shape" f2 d2 ["shape"] (spParts K)) (Ow : Own P w K mg base CX0 1 "with_parts" f3 d3 ["shape", "parts"] (spWith K))
    (Orp : Own P w K mg base CX0 n "replaced" f fd ["shape", "mapping"] (spRepl K b)) : FnOk P w K mg base CX0 (n + 1) f fd ["shape", "mapping"] (spRepl K (b + 1)) := by
  refine F.ok scReplaced (fun vs H Q E h => ?_) (fun cdv A outer s H vs Q E hr h => ?_)
  · obtain ⟨x, d, m, ms, rfl, _⟩ := h
    rfl
  obtain ⟨x, d, m, ms, rfl, R, M, sz, dp, q⟩ := h
  have hr1 := hr.mono hn
  refine ⟨_, pss_cons (ps_if (pt_cmpR op_eq (pe_ix ix_tup (pv 0) pe_int (fun _ _ => rfl)) pe_str (nomark _)) (pss_one (ps_ret (pe_dget2 (hu_of hr) (pv 1) (pe_ix ix_tup (pv 0) pe_int (fun _ _ => rfl)) (pv 0) ⟨rfl, rfl, rfl, rfl⟩))) pss_nil)
      (pss_cons (ps_set (i := 2) scReplaced.nd rfl (.inl rfl) (pe_lst pa_nil))
      (pss_cons (ps_for PassesOwn.never rfl (pi_tup (pe_call Oq.ok hr1 rfl Oq.at_ Oq.kp Oq.bd .nil pass0 (pa_cons (pv 0) pa_nil))) (pg_name (i := 3) scReplaced.nd rfl (.inl rfl)) (pss_one (ps_expr (pe_bm PySem.F.plainAttrs_list PySem.F.slot_list_append PySem.F.type_list_append mt_append (pv 2) (pa_cons (pe_call Orp.ok hr rfl Orp.at_ Orp.kp Orp.bd .nil pass0 (pa_cons (pv 3) (pa_cons (pv 1) pa_nil))) pa_nil)))))
      (pss_one (ps_ret (pe_call Ow.ok hr1 rfl Ow.at_ Ow.kp Ow.bd .nil pass0 (pa_cons (pv 0) (pa_cons (pv 2) pa_nil))))))), ?_⟩
  obtain ⟨pa, ka, ra, rfl, hta, hva, _⟩ := R.tag
  refine ⟨_, rfl, pa, _, _, _, rfl, rfl, hta.sq, atI_nat (j := 0) rfl, rfl, _, rfl, ite2 (fun c1 => ?_) (fun c1 => ?_)⟩
  · have k1 : ka = "v" := V.str.inj (of_decide_eq_true c1)
    cases R with
    | c h1 h2 h3 => exact absurd (hva.mpr k1) (by intro z; cases z)
    | t h1 h2 h3 => exact absurd (hva.mpr k1) (by intro z; cases z)
    | f h1 h2 h3 => exact absurd (hva.mpr k1) (by intro z; cases z)
    | @v _ nn h1 =>
      obtain ⟨kvm, hm, Mm⟩ := M
      refine ⟨_, rfl, m, rfl, .inl ⟨_, .of hm⟩, _, rfl, pa, _, _, _, rfl, rfl, h1.sq, atI_nat (j := 1) rfl, _, rfl, _, DGet.k (k := Sum.inl nn) hm, ?_⟩
      rcases Mm.get nn with ⟨g1, g2⟩ | ⟨v, e, g1, g2, Re⟩
      · rw [g1]
        refine q _ _ (Same.refl _) ?_
        rw [sub_v_none g2]
        exact .v h1
      · rw [g1]
        refine q _ _ (Same.refl _) ?_
        rw [sub_size_v g2]
        exact Re
  · have nv : d.isV = false := by
      cases hv : d.isV with
      | false => rfl
      | true => exact absurd (decide_eq_true (congrArg V.str (hva.mp hv))) c1
    refine ⟨Nat.zero_le _, fun L hL => ?_⟩
    have S0 := same_upd hL (o := .lst [])
    refine ⟨_, rfl, _, d, rfl, R.same S0, fun H2 qa ws S2 h2 RL => ⟨qa, rfl, ⟨_, h2.sq⟩, ?_⟩⟩
    have lv := RL.len
    have kl := kids_len d
    have SS := S0.trans S2
    refine for_tup (K := K) (a := qa) (xs := ws) (fun j σ H' => ∃ y3 ps, σ = [some (.ref pa), some (.ref m), some (.ref L), y3] ∧ Same H H' ∧ ST H2 H' ∧ H' L = some (.lst ps) ∧ RpL K H' ps (D.subL (lk ms) (d.kids.take j)))
      ⟨_, [], rfl, SS, ST.refl _, S2 _ _ upd_same, .nil⟩ (fun i σ H' _ h => ?_) (fun i z σ H' hz h => ?_) (fun σ H' h => ?_)
    · obtain ⟨y3, ps, _, _, X, _⟩ := h
      exact (h2.mono X).sq
    · obtain ⟨y3, ps, rfl, S3, X3, hL3, RP⟩ := h
      obtain ⟨dz, hdz, Rz⟩ := RL.get hz
      have hi : i < d.kids.length := (List.getElem?_eq_some_iff.mp hdz).1
      have hmem := List.mem_of_getElem? hdz
      have k1 := kid_size hmem
      have k2 := kid_depth hmem
      refine ⟨_, rfl, .inl ⟨rfl, _, SqL.of hL3⟩, _, rfl, _, rfl, z, dz, m, ms, rfl, Rz.mono X3, M.same S3, by omega, by omega, fun H4 v4 S4 R4 => ?_⟩
      have hL4 := S4 _ _ hL3
      have l1 := RP.len
      rw [subL_len, List.length_take] at l1
      refine ⟨L, _, _, rfl, rfl, hL4, zbig (n := ps.length) (by omega), ?_⟩
      have X5 : ST H4 (upd H4 L (.lst (ps ++ [v4]))) := ST.lst hL4 _
      refine ⟨_, ps ++ [v4], rfl, same_skip (S3.trans S4) hL, X3.trans ((ST.same S4).trans X5), upd_same, ?_⟩
      rw [subL_take _ hdz]
      exact ((RP.same S4).mono X5).app (.cons (R4.mono X5) .nil)
    · obtain ⟨y3, ps, rfl, S3, X3, hL3, RP⟩ := h
      rw [lv, List.take_length] at RP
      refine ⟨_, rfl, _, rfl, _, d, L, ps, _, rfl, R.same S3, nv, hL3, RP, subL_len _ _, fun H5 v5 S5 R5 => ?_⟩
      rw [with_sub _ _ nv] at R5
      exact q _ _ (S3.trans S5) R5
theorem repl_all {f f2 f3 : Addr} {fd d2 d3 : FuncData} (F : Fun K "replaced" "replaced" sReplaced f fd) (bd : Binds K fd ["shape", "mapping"] []) (at_ : mg "replaced" = some (.ref f)) (Oq : Own P w K mg base CX0 1 "parts_of_shape" f2 d2 ["shape"] (spParts K)) (Ow : Own P w K mg base CX0 1 "with_parts" f3 d3 ["shape", "parts"] (spWith K)) :
    ∀ b : Nat, FnOk P w K mg base CX0 (b + 1) f fd ["shape", "mapping"] (spRepl K b)
  | 0 => repl_none
  | b + 1 => ok_repl F (by omega) Oq Ow ⟨repl_all F bd at_ Oq Ow b, bd, F.kp, at_⟩
theorem ok_subst {f f2 f3 C : Addr} {fd d2 d3 : FuncData} {n : Nat} (F : Fun K "substitute" "substitute" sSubstitute f fd) (Oc : Own P w K mg base (L2.CX P w) n "check_result" f2 d2 ["shape", "mapping"] (spCheck K C)) (hn : n ≤ 101)
    (Orp : Own P w K mg base CX0 101 "replaced" f3 d3 ["shape", "mapping"] (spRepl K 100)) : FnOk P w K mg base (L2.CX P w) 102 f fd ["shape", "mapping"] (spSubst K C) := by
  refine F.okX scSubstitute (fun vs H Q E h => ?_) (fun cdv A outer s H vs Q E hr h => ?_)
  · obtain ⟨x, d, m, ms, rfl, _⟩ := h
    rfl
  obtain ⟨x, d, m, ms, rfl, R, M, sz, szm, qE, qQ⟩ := h
  have hr1 := hr.mono hn
  refine ⟨_, pss_cons (ps_expr (pe_call Oc.ok hr1 rfl Oc.at_ Oc.kp Oc.bd .nil (passes_call (E := E) (takes_of rfl rfl rfl rfl) (fun _ _ _ _ h => h)) (pa_cons (pv 0) (pa_cons (pv 1) pa_nil))))
    (pss_one (ps_ret (pe_call Orp.ok hr rfl Orp.at_ Orp.kp Orp.bd .nil pass0 (pa_cons (pv 0) (pa_cons (pv 1) pa_nil))))), ?_⟩
  refine ⟨_, rfl, _, rfl, x, d, m, ms, rfl, R, M, sz, szm, qE, fun nb H1 S1 => ?_⟩
  have dd := depth_sub (lk ms) d
  have d100 : (d.sub (lk ms)).depth ≤ 100 := Nat.le_of_not_lt fun z => nb (.inr z)
  exact ⟨_, rfl, _, rfl, x, d, m, ms, rfl, R.same S1, M.same S1, sz, by omega, fun H2 v2 S2 R2 => qQ nb _ _ (S1.trans S2) R2⟩
end
end Vs

set_option Elab.async false
set_option linter.all false
set_option maxRecDepth 100000
namespace Vs
open PySem PySem.Spec PyProof.Rows L2 RT StX Vr
open C8 (pss_cut tCut)
open RZ
section
variable {P : Program} {w : World} {K : PySem.W.Frag} {mg : Str → Option Value} {base : Heap}
/-- all but L stays -/
def Off (L : Addr) (H H' : Hp) : Prop := ∀ c o, c ≠ L → H c = some o → H' c = some o
theorem Off.refl {L : Addr} {H : Hp} : Off L H H := fun _ _ _ h => h
theorem Off.trans {L : Addr} {H H1 H2 : Hp} (a : Off L H H1) (b : Off L H1 H2) : Off L H H2 := fun c o n h => b c o n (a c o n h)
theorem Off.same {L : Addr} {H H' : Hp} (a : Same H H') : Off L H H' := fun c o _ h => a c o h
theorem Off.upd {L : Addr} {H : Hp} {o : HO} : Off L H (upd H L o) := fun c x n h => by
  rw [upd_ne n]
  exact h
theorem Off.st {L : Addr} {H H' : Hp} {xs : List V} (a : Off L H H') (h : H L = some (.lst xs)) : ST H H' := fun b ys e => a b _ (ne_of e h (fun z => by cases z)) e
theorem occL_take {as : List D} {i : Nat} {e : D} (h : as[i]? = some e) : D.occL (as.take (i + 1)) = D.occL (as.take i) ++ e.occ := by
  rw [List.take_add_one, h, occL_app]
  show _ ++ D.occL [e] = _
  rw [D.occL, D.occL, List.append_nil]
theorem sizeL_take {as : List D} {i : Nat} {e : D} (h : as[i]? = some e) : D.sizeL (as.take i) + e.size ≤ D.sizeL as := by
  obtain ⟨hi, hh⟩ := List.getElem?_eq_some_iff.mp h
  have e1 : as = as.take i ++ (e :: as.drop (i + 1)) := by
    rw [← hh, ← List.drop_eq_getElem_cons hi, List.take_append_drop]
  have := congrArg D.sizeL e1
  rw [sizeL_app, D.sizeL] at this
  omega
def spLv (K : PySem.W.Frag) (b : Nat) : Sp := fun vs H Q _ => ∃ (x : V) (d : D) (L : Addr) (ns : List Int), vs = [x, .ref L] ∧ Rp K H x d ∧ H L = some (.lst (ns.map V.int)) ∧ ns.length + d.size ≤ 90000 ∧ d.depth ≤ b ∧
  ∀ H', Off L H H' → H' L = some (.lst ((addAll ns d.occ).map V.int)) → Q (.ref L) H'
theorem lv_none {f : Addr} {fd : FuncData} : FnOk P w K mg base CX0 1 f fd ["shape", "found"] (spLv K 0) := by
  have no : ∀ vs H Q E, ¬ spLv K 0 vs H Q E := fun vs H Q E h => by
    obtain ⟨x, d, L, ns, _, _, _, _, h, _⟩ := h
    have := depth_pos d
    omega
  exact ⟨fun vs H Q E h => absurd h (no vs H Q E), fun A outer s H args us vs Q E _ _ _ _ h => absurd h (no vs H Q E)⟩
theorem ok_lv {f f2 : Addr} {fd d2 : FuncData} {n b : Nat} (F : Fun K "_law_variables" "_law_variables" sLawVariables f fd) (hn : 1 ≤ n) (Oq : Own P w K mg base CX0 1 "_law_parts" f2 d2 ["shape"] (spParts K))
    (Oa : Own P w K mg base CX0 n "_law_variables" f fd ["shape", "found"] (spLv K b)) : FnOk P w K mg base CX0 (n + 1) f fd ["shape", "found"] (spLv K (b + 1)) := by
  refine F.ok scLawVariables (fun vs H Q E h => ?_) (fun cdv A outer s H vs Q E hr h => ?_)
  · obtain ⟨x, d, L, ns, rfl, _⟩ := h
    rfl
  obtain ⟨x, d, L, ns, rfl, R, hL, sz, dp, q⟩ := h
  have hr1 := hr.mono hn
  refine ⟨_, pss_cut (ps_if (pt_cmpR op_eq (pe_ix ix_tup (pv 0) pe_int (fun _ _ => rfl)) pe_str (nomark _)) (pss_one (ps_if (pt_cmpR op_notIn_seq (pe_ix ix_tup (pv 0) pe_int (fun _ _ => rfl)) (pv 1) (by with_unfolding_all rfl)) (pss_one (ps_expr (pe_bm PySem.F.plainAttrs_list PySem.F.slot_list_append PySem.F.type_list_append mt_append (pv 1) (pa_cons (pe_ix ix_tup (pv 0) pe_int (fun _ _ => rfl)) pa_nil)))) pss_nil)) (pss_one (ps_for PassesOwn.never rfl (pi_tup (pe_call Oq.ok hr1 rfl Oq.at_ Oq.kp Oq.bd .nil pass0 (pa_cons (pv 0) pa_nil))) (pg_name (i := 2) scLawVariables.nd rfl (.inl rfl)) (pss_one (ps_expr (pe_call Oa.ok hr rfl Oa.at_ Oa.kp Oa.bd .nil pass0 (pa_cons (pv 2) (pa_cons (pv 1) pa_nil))))))))
      (pss_one (ps_ret (pv 1))), ?_⟩
  refine ⟨fun σ' H' => ∃ y2, σ' = [some x, some (.ref L), y2] ∧ Off L H H' ∧ H' L = some (.lst ((addAll ns d.occ).map V.int)), ?_, ?_⟩
  · obtain ⟨pa, ka, ra, rfl, hta, hva, _⟩ := R.tag
    refine ⟨_, rfl, pa, _, _, _, rfl, rfl, hta.sq, atI_nat (j := 0) rfl, rfl, _, rfl, ite2 (fun c1 => ?_) (fun c1 => ?_)⟩
    · have k1 : ka = "v" := V.str.inj (of_decide_eq_true c1)
      cases R with
      | c h1 h2 h3 => exact absurd (hva.mpr k1) (by intro z; cases z)
      | t h1 h2 h3 => exact absurd (hva.mpr k1) (by intro z; cases z)
      | f h1 h2 h3 => exact absurd (hva.mpr k1) (by intro z; cases z)
      | @v _ nn h1 =>
        refine ⟨_, rfl, pa, _, _, _, rfl, rfl, h1.sq, atI_nat (j := 1) rfl, _, rfl, L, _, rfl, .inl (SqL.of hL), rfl, flat_ints ns, _, rfl, ?_⟩
        rw [inV_int]
        have e : addAll ns (D.v nn).occ = addK ns nn := rfl
        by_cases c : nn ∈ ns
        · rw [decide_eq_true c]
          refine iteF ⟨_, rfl, Off.refl, ?_⟩
          rw [e, addK, if_pos c]
          exact hL
        · rw [decide_eq_false c]
          refine iteT ?_
          refine ⟨_, rfl, .inl ⟨rfl, _, SqL.of hL⟩, _, rfl, pa, _, _, _, rfl, rfl, h1.sq, atI_nat (j := 1) rfl, L, _, _, rfl, rfl, hL, ?_, _, rfl, Off.upd, ?_⟩
          · refine zbig ?_
            have := size_pos (D.v nn)
            rw [List.length_map]
            omega
          · rw [upd_same, e, addK, if_neg c, List.map_append]
            rfl
    · have nv : d.isV = false := by
        cases hv : d.isV with
        | false => rfl
        | true => exact absurd (decide_eq_true (congrArg V.str (hva.mp hv))) c1
      refine ⟨_, rfl, _, d, rfl, R, fun H2 qa us S2 h2 RU => ?_⟩
      refine ⟨qa, rfl, ⟨_, h2.sq⟩, ?_⟩
      have hL2 := S2 _ _ hL
      refine for_tup (K := K) (a := qa) (xs := us) (fun i σ' H' => ∃ y2, σ' = [some (.ref pa), some (.ref L), y2] ∧ Off L H2 H' ∧ H' L = some (.lst ((addAll ns (D.occL (d.kids.take i))).map V.int)))
        ⟨_, rfl, Off.refl, by rw [List.take_zero, D.occL]; exact hL2⟩ (fun i σ' H' _ h => by obtain ⟨_, _, h, _⟩ := h; exact (h2.mono (h.st hL2)).sq) (fun i z σ' H' hz h => ?_) (fun σ' H' h => ?_)
      · obtain ⟨y2, rfl, O3, hL3⟩ := h
        obtain ⟨e, he, Re⟩ := RU.get hz
        have a1 := addAll_len (D.occL (d.kids.take i)) ns
        have a2 := occL_len (d.kids.take i)
        have a3 := sizeL_take he
        have a4 := size_kids d
        have a5 := depth_kids d
        have a6 := depthL_mem (List.mem_of_getElem? he)
        refine ⟨_, rfl, _, rfl, z, e, L, _, rfl, Re.mono (O3.st hL2), hL3, by omega, by omega, fun H4 O4 hL4 => ⟨_, rfl, O3.trans O4, ?_⟩⟩
        rw [hL4, occL_take he, addAll_app]
      · obtain ⟨y2, rfl, O3, hL3⟩ := h
        rw [RU.len, List.take_length, ← occ_kids _ nv] at hL3
        exact ⟨_, rfl, (Off.same S2).trans O3, hL3⟩
  · rintro σ' H' ⟨y2, rfl, O1, hL1⟩
    exact ⟨_, rfl, q _ O1 hL1⟩
theorem lv_all {f f2 : Addr} {fd d2 : FuncData} (F : Fun K "_law_variables" "_law_variables" sLawVariables f fd) (bd : Binds K fd ["shape", "found"] []) (at_ : mg "_law_variables" = some (.ref f)) (Oq : Own P w K mg base CX0 1 "_law_parts" f2 d2 ["shape"] (spParts K)) :
    ∀ b : Nat, FnOk P w K mg base CX0 (b + 1) f fd ["shape", "found"] (spLv K b)
  | 0 => lv_none
  | b + 1 => ok_lv F (by omega) Oq ⟨lv_all F bd at_ Oq b, bd, F.kp, at_⟩
end
end Vs

set_option Elab.async false
set_option linter.all false
set_option maxRecDepth 100000
namespace Vs
open PySem PySem.Spec PyProof.Rows L2 RT StX Vr
open C8 (pss_cut tCut)
open RZ
section
variable {P : Program} {w : World} {K : PySem.W.Frag} {mg : Str → Option Value} {base : Heap}
theorem ok_tape {f : Addr} {fd : FuncData} {k : Nat} (F : Fun K "_law_tape" "_law_tape" sLawTape f fd) (ma : mg "abs" = none) (mm : mg "max" = none) (ml : mg "len" = none) (mr : mg "range" = none) (mi : mg "int" = none) : FnOk P w K mg base CX0 (k + 1) f fd ["script", "many"] (spTape K) := by
  refine F.ok scLawTape (fun vs H Q E h => ?_) (fun cdv A outer s H vs Q E hr h => ?_)
  · obtain ⟨a, ns, many, rfl, _⟩ := h
    rfl
  obtain ⟨a, ns, many, rfl, hS, m0, m1, q⟩ := h
  refine ⟨_, pss_cons (ps_set (i := 2) scLawTape.nd rfl (.inl rfl) (pe_lst (pa_cons pe_int pa_nil)))
    (pss_cons (ps_for PassesOwn.never rfl (pi_list (pe_slice sl_list (pv 0) po_none (po_some pe_int))) (pg_name (i := 3) scLawTape.nd rfl (.inl rfl))
      (pss_one (ps_expr (pe_bm PySem.F.plainAttrs_list PySem.F.slot_list_append PySem.F.type_list_append mt_append (pv 2) (pa_cons (pe_callB call_abs (by rfl) ma (by decide +kernel) (pa_cons (pv 3) pa_nil)) pa_nil)))))
    (pss_cons (ps_set (i := 4) scLawTape.nd rfl (.inl rfl) (pe_callB (cr_max rfl) (by rfl) mm (by decide +kernel) (pa_cons (pv 2) pa_nil)))
    (pss_cons (ps_if (pt_cmpR op_lt (pv 4) (pe_op op_pow pe_int pe_int) (nomark _)) (pss_one (ps_set (i := 4) scLawTape.nd rfl (.inl rfl) pe_int)) pss_nil)
    (pss_cons (ps_set (i := 5) scLawTape.nd rfl (.inl rfl) (pe_op op_add pe_int (pe_callB call_len_seq (by rfl) ml PySem.boot_len (pa_cons (pv 2) pa_nil))))
    (pss_cons (ps_set (i := 6) scLawTape.nd rfl (.inl rfl) (pe_lst pa_nil))
    (pss_cons (ps_for PassesOwn.never rfl (pi_range1 rfl mr (pa_cons (pv 1) pa_nil)) (pg_name (i := 7) scLawTape.nd rfl (.inl rfl))
      (pss_one (ps_if (pt_cmpR op_gt (pv 4) pe_int (nomark _))
        (pss_cons (ps_expr (pe_bm PySem.F.plainAttrs_list PySem.F.slot_list_append PySem.F.type_list_append mt_append (pv 6) (pa_cons (pe_op op_mod (pe_callTy call_int1 (by rfl) mi (by decide +kernel) (pa_cons (pv 4) pa_nil)) pe_int) pa_nil)))
        (pss_one (ps_set (i := 4) scLawTape.nd rfl (.inl rfl) (pe_op op_fdiv (pv 4) pe_int))))
        (pss_cons (ps_set (i := 5) scLawTape.nd rfl (.inl rfl) (pe_op op_mod (pe_callTy call_int1 (by rfl) mi (by decide +kernel) (pa_cons
          (pe_op op_add (pe_op op_add (pe_op op_mul (pv 5) pe_int) (pe_op op_mul (pe_ix ix_list (pv 2) (pe_op op_mod (pe_callTy call_int1 (by rfl) mi (by decide +kernel) (pa_cons (pv 7) pa_nil)) (pe_callB call_len_seq (by rfl) ml PySem.boot_len (pa_cons (pv 2) pa_nil))) (fun _ _ => rfl)) pe_int)) (pv 7)) pa_nil)) pe_int))
        (pss_one (ps_expr (pe_bm PySem.F.plainAttrs_list PySem.F.slot_list_append PySem.F.type_list_append mt_append (pv 6) (pa_cons (pe_op op_mod (pe_callTy call_int1 (by rfl) mi (by decide +kernel) (pa_cons
          (pe_op op_add (pe_op op_mul (pv 5) pe_int) (pe_op op_mul (pv 7) pe_int)) pa_nil)) pe_int) pa_nil))))))))
    (pss_one (ps_ret (pv 6))))))))), ?_⟩
  -- cells = [0]
  refine ⟨(by show 1 ≤ sizeLine; decide), fun ce hce => ?_⟩
  have S1 : Same H (upd H ce (.lst [.int 0])) := same_upd hce
  obtain ⟨ms, ems, lms⟩ := cut_front ns
  refine ⟨_, rfl, 63, rfl, a, _, rfl, S1.seq hS, fun c hc => ?_⟩
  rw [ems]
  have nce : ce ≠ c := ne_of_none upd_same hc
  have S2 : Same (upd H ce (.lst [.int 0])) (upd (upd H ce (.lst [.int 0])) c (.lst (ms.map V.int))) := same_upd hc
  refine ⟨c, rfl, ⟨_, SqL.of upd_same⟩, ?_⟩
  refine for_list (K := K) (a := c) (xs := ms.map V.int) (fun i σ H' => (∃ y3, σ = [some (.ref a), some (.int many), some (.ref ce), y3, none, none, none, none]) ∧ Same H H' ∧ H' c = some (.lst (ms.map V.int)) ∧ ∃ cs : List Int, H' ce = some (.lst (cs.map V.int)) ∧ cs.length = i + 1)
    ⟨⟨_, rfl⟩, S1.trans S2, upd_same, [0], by rw [upd_ne nce, upd_same]; rfl, rfl⟩ (fun i σ H' _ h => SqL.of h.2.2.1) (fun i x σ H' hx h => ?_) (fun σ H' h => ?_)
  · obtain ⟨⟨y3, rfl⟩, s1, hc1, cs, hcs, lcs⟩ := h
    have hi : i < ms.length := by
      have := (List.getElem?_eq_some_iff.mp hx).1
      rw [List.length_map] at this
      exact this
    rw [List.getElem?_map, List.getElem?_eq_getElem hi] at hx
    cases hx
    refine ⟨_, rfl, .inl ⟨rfl, _, SqL.of hcs⟩, _, rfl, _, rfl, ce, _, _, rfl, rfl, hcs, small1000 (by rw [List.length_map]; omega), ?_⟩
    rw [snoc_map]
    refine ⟨⟨_, rfl⟩, same_skip s1 hce, ?_, _, upd_same, ?_⟩
    · rw [upd_ne nce.symm]
      exact hc1
    · rw [List.length_append, lcs]
      rfl
  obtain ⟨⟨y3, rfl⟩, s1, hc1, cs, hcs, lcs⟩ := h
  rw [List.length_map] at lcs
  -- big = max(cells)
  refine ⟨_, rfl, ce, cs, rfl, SqL.of hcs, by omega, fun big _ _ => ?_⟩
  refine ⟨_, rfl, 10, 18, rfl, rfl, ⟨by decide, by decide, by decide⟩, _, _, rfl, rfl, _, rfl, ?_⟩
  have lcs' : (((cs.map V.int).length : Nat) : Int) = (cs.length : Int) := by rw [List.length_map]
  refine ite2 (fun c1 => ?_) (fun c1 => ?_)
  all_goals
    refine ⟨_, rfl, ce, _, rfl, .inl (SqL.of hcs), _, _, rfl, rfl, ?_⟩
    refine ⟨Nat.zero_le _, fun tp htp => ?_⟩
    have ntp : ce ≠ tp := ne_of_none hcs htp
    refine ⟨_, rfl, many, rfl, by omega, by omega, ?_⟩
    refine for_range (n := many.toNat) (fun i σ H' => ∃ bg vl y7 ts, σ = [some (.ref a), some (.int many), some (.ref ce), y3, some (.int bg), some (.int vl), some (.ref tp), y7] ∧ Same H H' ∧ H' ce = some (.lst (cs.map V.int)) ∧ H' tp = some (.lst ((ts : List Int).map V.int)) ∧ ts.length = i ∧ ∀ t ∈ ts, 0 ≤ t)
      ⟨_, _, none, [], rfl, s1.trans (same_upd htp), by rw [upd_ne ntp]; exact hcs, upd_same, rfl, fun t ht => by cases ht⟩ (fun i σ H' hi h => ?_) (fun σ H' h => ?_)
    · obtain ⟨bg, vl, y7, ts, rfl, s2, hcs2, hts, lts, nts⟩ := h
      have lt1 : (ts.map V.int).length < sizeLine := small1000 (by rw [List.length_map]; omega)
      have fresh : H tp = none := s1.free htp
      have nn : ∀ z : Int, ∀ t ∈ ts ++ [z], 0 ≤ z → 0 ≤ t := fun z t ht hz => by
        rcases List.mem_append.mp ht with h | h
        · exact nts t h
        · rw [List.mem_singleton.mp h]
          exact hz
      refine ⟨_, rfl, _, _, rfl, rfl, _, rfl, ite2 (fun c2 => ?_) (fun c2 => ?_)⟩
      · refine ⟨_, rfl, .inl ⟨rfl, _, SqL.of hts⟩, _, rfl, .inl ⟨_, rfl, _, _, rfl, rfl, (by show (0 : Int) < 1009; decide), tp, _, _, rfl, rfl, hts, lt1, ?_⟩⟩
        rw [snoc_map]
        refine ⟨_, rfl, _, _, rfl, rfl, ⟨by decide, by decide⟩, ?_⟩
        refine ⟨_, _, _, _, rfl, same_skip s2 fresh, by rw [upd_ne ntp]; exact hcs2, upd_same, by rw [List.length_append, lts]; rfl, fun t ht => nn _ t ht (Int.emod_nonneg _ (by decide))⟩
      · have pos : 0 < (((cs.map V.int).length : Nat) : Int) := by omega
        obtain ⟨v, hv, _⟩ := int_at (ns := cs) (i := (0 + (i : Int)) % (((cs.map V.int).length : Nat) : Int)) (Int.emod_nonneg _ (by omega)) (by rw [← lcs']; exact Int.emod_lt_of_pos _ pos)
        refine ⟨_, rfl, _, _, rfl, rfl, .inr ⟨by decide, by decide⟩, _, rfl, _, rfl, .inl ⟨_, rfl, _, rfl, ce, _, rfl, .inl (SqL.of hcs2), _, _, rfl, rfl, pos, ce, _, _, _, rfl, rfl, SqL.of hcs2, hv, _, _, rfl, rfl, .inr ⟨by decide, by decide⟩, _, _, rfl, rfl, ?_⟩⟩
        refine ⟨_, rfl, _, _, rfl, rfl, .inl ⟨_, rfl, _, _, rfl, rfl, (by show (0 : Int) < 2147483647; decide), ?_⟩⟩
        refine ⟨_, rfl, .inl ⟨rfl, _, SqL.of hts⟩, _, rfl, _, _, rfl, rfl, .inr ⟨by decide, by decide⟩, _, rfl, _, _, rfl, rfl, .inr ⟨by decide, by decide⟩, _, _, rfl, rfl, .inl ⟨_, rfl, _, _, rfl, rfl, (by show (0 : Int) < 1000003; decide), tp, _, _, rfl, rfl, hts, lt1, ?_⟩⟩
        rw [snoc_map]
        refine ⟨_, _, _, _, rfl, same_skip s2 fresh, by rw [upd_ne ntp]; exact hcs2, upd_same, by rw [List.length_append, lts]; rfl, fun t ht => nn _ t ht (Int.emod_nonneg _ (by decide))⟩
    · obtain ⟨bg, vl, y7, ts, rfl, s2, hcs2, hts, lts, nts⟩ := h
      exact ⟨_, rfl, q _ _ ts s2 hts lts nts⟩
theorem ok_pick {f : Addr} {fd : FuncData} {k : Nat} (F : Fun K "_law_pick" "_law_pick" sLawPick f fd) (m_int : mg "int" = none) (m_len : mg "len" = none) : FnOk P w K mg base CX0 (k + 1) f fd ["tape", "at", "many"] (spPick K) := by
  refine F.ok scLawPick (fun vs H Q E h => ?_) (fun cdv A outer s H vs Q E hr h => ?_)
  · obtain ⟨a, ns, at_, many, rfl, _⟩ := h
    rfl
  obtain ⟨a, ns, at_, many, rfl, hS, hl, hm, q⟩ := h
  refine ⟨_, pss_one (ps_ret (pe_op op_mod (pe_callTy call_int1 (by rfl) m_int (by decide +kernel) (pa_cons (pe_ix ix_list (pv 0) (pe_op op_mod (pe_callTy call_int1 (by rfl) m_int (by decide +kernel) (pa_cons (pv 1) pa_nil)) (pe_callB call_len_seq (by rfl) m_len PySem.boot_len (pa_cons (pv 0) pa_nil))) (fun _ _ => rfl)) pa_nil)) (pv 2))), ?_⟩
  have e0 : (((ns.map V.int).length : Nat) : Int) = (ns.length : Int) := by rw [List.length_map]
  have hl' : 0 < (((ns.map V.int).length : Nat) : Int) := by omega
  have b0 : 0 ≤ at_ % (((ns.map V.int).length : Nat) : Int) := Int.emod_nonneg _ (by omega)
  have b1 : at_ % (((ns.map V.int).length : Nat) : Int) < (((ns.map V.int).length : Nat) : Int) := Int.emod_lt_of_pos _ hl'
  have hj2 : (at_ % (ns.length : Int)).toNat < ns.length := by
    rw [e0] at b0 b1
    omega
  have g : atI (ns.map V.int) (at_ % (((ns.map V.int).length : Nat) : Int)) = some (.int (ns.getD (at_ % (ns.length : Int)).toNat 0)) := by
    rw [e0] at b0 ⊢
    have z : at_ % (ns.length : Int) = (((at_ % (ns.length : Int)).toNat : Nat) : Int) := (Int.toNat_of_nonneg b0).symm
    rw [show atI (ns.map V.int) (at_ % (ns.length : Int)) = atI (ns.map V.int) (((at_ % (ns.length : Int)).toNat : Nat) : Int) from congrArg _ z]
    refine atI_nat ?_
    rw [List.getElem?_map, List.getElem?_eq_getElem hj2, List.getD_eq_getElem?_getD, List.getElem?_eq_getElem hj2]
    rfl
  refine ⟨_, rfl, _, rfl, .inl ⟨_, rfl, _, rfl, a, _, rfl, .inl hS, _, _, rfl, rfl, hl', a, _, _, _, rfl, rfl, hS, g, .inl ⟨_, rfl, _, rfl, _, _, rfl, rfl, hm, ?_⟩⟩⟩
  exact q
theorem leaf_stamp {r : Int} (h0 : 0 ≤ r) (h1 : r < 4) : ∃ s : Int, atI [V.int 0, .int 1, .int 4, .int 0] r = some (.int s) ∧ (s = 0 ∨ s = 1 ∨ s = 4) := by
  have c : r = 0 ∨ r = 1 ∨ r = 2 ∨ r = 3 := by omega
  rcases c with rfl | rfl | rfl | rfl
  · exact ⟨0, atI_nat (j := 0) rfl, .inl rfl⟩
  · exact ⟨1, atI_nat (j := 1) rfl, .inr (.inl rfl)⟩
  · exact ⟨4, atI_nat (j := 2) rfl, .inr (.inr rfl)⟩
  · exact ⟨0, atI_nat (j := 3) rfl, .inl rfl⟩
theorem one_stamp {r : Int} (h0 : 0 ≤ r) (h1 : r < 3) : ∃ s : Int, atI [V.int 3, .int 5, .int 6] r = some (.int s) ∧ (s = 3 ∨ s = 5 ∨ s = 6) := by
  have c : r = 0 ∨ r = 1 ∨ r = 2 := by omega
  rcases c with rfl | rfl | rfl
  · exact ⟨3, atI_nat (j := 0) rfl, .inl rfl⟩
  · exact ⟨5, atI_nat (j := 1) rfl, .inr (.inl rfl)⟩
  · exact ⟨6, atI_nat (j := 2) rfl, .inr (.inr rfl)⟩
theorem ok_leaf {f f2 : Addr} {fd d2 : FuncData} {k : Nat} (F : Fun K "_law_leaf" "_law_leaf" sLawLeaf f fd) (Op : Own P w K mg base CX0 k "_law_pick" f2 d2 ["tape", "at", "many"] (spPick K)) (m_len : mg "len" = none) : FnOk P w K mg base CX0 (k + 1) f fd ["tape", "at", "free"] (spLeaf K) := by
  refine F.ok scLawLeaf (fun vs H Q E h => ?_) (fun cdv A outer s H vs Q E hr h => ?_)
  · obtain ⟨T, Fr, ts, fr, at_, rfl, _⟩ := h
    rfl
  obtain ⟨T, Fr, ts, fr, at_, rfl, hT, hp, hF, q⟩ := h
  refine ⟨_, pss_cons (ps_set (i := 3) scLawLeaf.nd rfl (.inl rfl) (pe_call Op.ok hr rfl Op.at_ Op.kp Op.bd .nil pass0 (pa_cons (pv 0) (pa_cons (pv 1) (pa_cons (pe_op op_add pe_int (pe_callB call_len_seq (by rfl) m_len PySem.boot_len (pa_cons (pv 2) pa_nil))) pa_nil)))))
      (pss_cons (ps_if (pt_cmpR op_ge (pv 3) pe_int (nomark _)) (pss_one (ps_ret (pe_tup (pa_cons pe_str (pa_cons (pe_ix ix_list (pv 2) (pe_op op_sub (pv 3) pe_int) (fun _ _ => rfl)) pa_nil))))) pss_nil)
      (pss_one (ps_ret (pe_tup (pa_cons pe_str (pa_cons (pe_ix ix_tup (pe_tup (pa_cons pe_int (pa_cons pe_int (pa_cons pe_int (pa_cons pe_int pa_nil))))) (pv 3) (fun _ _ => rfl)) (pa_cons (pe_tup pa_nil) pa_nil))))))), ?_⟩
  have e0 : (((fr.map V.int).length : Nat) : Int) = (fr.length : Int) := by rw [List.length_map]
  have many0 : (0 : Int) < 4 + (((fr.map V.int).length : Nat) : Int) := by omega
  refine ⟨_, rfl, _, rfl, _, rfl, Fr, _, rfl, .inl hF, _, _, rfl, rfl, T, ts, _, _, rfl, hT, hp, many0, ?_⟩
  have p0 := pk_lo (ts := ts) (a := at_) many0
  have p1 := pk_hi (ts := ts) (a := at_) many0
  generalize pk ts at_ (4 + (((fr.map V.int).length : Nat) : Int)) = r at p0 p1
  refine ⟨_, rfl, _, _, rfl, rfl, _, rfl, ite2 (fun c1 => ?_) (fun c1 => ?_)⟩
  · have c1' : (4 : Int) ≤ r := of_decide_eq_true c1
    obtain ⟨v, hv, hm⟩ := int_at (ns := fr) (i := r - 4) (by omega) (by omega)
    refine ⟨_, rfl, _, rfl, _, _, rfl, rfl, Fr, _, _, _, rfl, rfl, hF, hv, zz 2, fun p hp1 => ?_⟩
    exact q _ _ (.v v) (same_upd hp1) (.v (.of upd_same)) (fun l => .leafv hm)
  · have c1' : ¬ (4 : Int) ≤ r := fun z => c1 (decide_eq_true z)
    obtain ⟨sv, hs, hk⟩ := leaf_stamp p0 (by omega)
    refine ⟨zz 4, fun p hp1 => ⟨_, rfl, p, _, _, _, rfl, rfl, SqT.of upd_same, hs, zz 0, fun e he => ⟨zz 3, fun p2 hp2 => ?_⟩⟩⟩
    have S := (same_upd hp1 (o := .tup [.int 0, .int 1, .int 4, .int 0])).trans ((same_upd he (o := .tup [])).trans (same_upd hp2 (o := .tup [.str "c", .int sv, .ref e])))
    exact q _ _ (.c sv []) S (.c (.of upd_same) (.of (same_upd hp2 _ _ upd_same)) .nil) (fun l => .leafc hk)
theorem shape_none {f : Addr} {fd : FuncData} : FnOk P w K mg base CX0 2 f fd ["tape", "at", "level", "free"] (spShape K 0) := by
  have no : ∀ vs H Q E, ¬ spShape K 0 vs H Q E := fun vs H Q E h => by
    obtain ⟨T, Fr, ts, fr, at_, l, _, h, _⟩ := h
    omega
  exact ⟨fun vs H Q E h => absurd h (no vs H Q E), fun A outer s H args us vs Q E _ _ _ _ h => absurd h (no vs H Q E)⟩
theorem ok_shape {f f2 f3 : Addr} {fd d2 d3 : FuncData} {n b : Nat} (F : Fun K "_law_shape" "_law_shape" sLawShape f fd) (hn : 2 ≤ n) (Op : Own P w K mg base CX0 1 "_law_pick" f2 d2 ["tape", "at", "many"] (spPick K)) (Ol : Own P w K mg base CX0 2 "_law_leaf" f3 d3 ["tape", "at", "free"] (spLeaf K))
    (Os : Own P w K mg base CX0 n "_law_shape" f fd ["tape", "at", "level", "free"] (spShape K b)) (m_range : mg "range" = none) (m_tuple : mg "tuple" = none) : FnOk P w K mg base CX0 (n + 1) f fd ["tape", "at", "level", "free"] (spShape K (b + 1)) := by
  refine F.ok scLawShape (fun vs H Q E h => ?_) (fun cdv A outer s H vs Q E hr h => ?_)
  · obtain ⟨T, Fr, ts, fr, at_, l, rfl, _⟩ := h
    rfl
  obtain ⟨T, Fr, ts, fr, at_, l, rfl, hl, hT, hp, hF, q⟩ := h
  have hr2 := hr.mono hn
  have hr1 := hr.mono (show 1 ≤ n by omega)
  refine ⟨_, pss_cons (ps_set (i := 4) scLawShape.nd rfl (.inl rfl) (pe_call Op.ok hr1 rfl Op.at_ Op.kp Op.bd .nil pass0 (pa_cons (pv 0) (pa_cons (pv 1) (pa_cons pe_int pa_nil)))))
      (pss_cons (ps_if (PW.pt (pw_or (pt_cmpR op_le (pv 2) pe_int (nomark _)) (pw_or1 (pt_cmpR op_lt (pv 4) pe_int (nomark _))))) (pss_one (ps_ret (pe_tup (pa_cons (pe_call Ol.ok hr2 rfl Ol.at_ Ol.kp Ol.bd .nil pass0 (pa_cons (pv 0) (pa_cons (pe_op op_add (pv 1) pe_int) (pa_cons (pv 3) pa_nil)))) (pa_cons (pe_op op_add (pv 1) pe_int) pa_nil))))) pss_nil)
      (pss_cons (ps_if (pt_cmpR op_lt (pv 4) pe_int (nomark _)) (pss_cons (ps_asg (pe_call Os.ok hr rfl Os.at_ Os.kp Os.bd .nil pass0 (pa_cons (pv 0) (pa_cons (pe_op op_add (pv 1) pe_int) (pa_cons (pe_op op_sub (pv 2) pe_int) (pa_cons (pv 3) pa_nil))))) (pg_tup rfl (pgs_cons (pg_name (i := 5) scLawShape.nd rfl (.inl rfl)) (pgs_cons (pg_name (i := 1) scLawShape.nd rfl (.inl rfl)) pgs_nil))))
      (pss_cons (ps_asg (pe_call Os.ok hr rfl Os.at_ Os.kp Os.bd .nil pass0 (pa_cons (pv 0) (pa_cons (pv 1) (pa_cons (pe_op op_sub (pv 2) pe_int) (pa_cons (pv 3) pa_nil))))) (pg_tup rfl (pgs_cons (pg_name (i := 6) scLawShape.nd rfl (.inl rfl)) (pgs_cons (pg_name (i := 1) scLawShape.nd rfl (.inl rfl)) pgs_nil))))
      (pss_one (ps_ret (pe_tup (pa_cons (pe_tup (pa_cons pe_str (pa_cons (pv 5) (pa_cons (pv 6) pa_nil)))) (pa_cons (pv 1) pa_nil))))))) pss_nil)
      (pss_cons (ps_if (pt_cmpR op_eq (pv 4) pe_int (nomark _)) (pss_cons (ps_asg (pe_call Os.ok hr rfl Os.at_ Os.kp Os.bd .nil pass0 (pa_cons (pv 0) (pa_cons (pe_op op_add (pv 1) pe_int) (pa_cons (pe_op op_sub (pv 2) pe_int) (pa_cons (pv 3) pa_nil))))) (pg_tup rfl (pgs_cons (pg_name (i := 7) scLawShape.nd rfl (.inl rfl)) (pgs_cons (pg_name (i := 1) scLawShape.nd rfl (.inl rfl)) pgs_nil))))
      (pss_one (ps_ret (pe_tup (pa_cons (pe_tup (pa_cons pe_str (pa_cons (pe_ix ix_tup (pe_tup (pa_cons pe_int (pa_cons pe_int (pa_cons pe_int pa_nil)))) (pe_call Op.ok hr1 rfl Op.at_ Op.kp Op.bd .nil pass0 (pa_cons (pv 0) (pa_cons (pv 1) (pa_cons pe_int pa_nil)))) (fun _ _ => rfl)) (pa_cons (pe_tup (pa_cons (pv 7) pa_nil)) pa_nil)))) (pa_cons (pe_op op_add (pv 1) pe_int) pa_nil)))))) pss_nil)
      (pss_cons (ps_set (i := 8) scLawShape.nd rfl (.inl rfl) (pe_lst pa_nil))
      (pss_cons (ps_set (i := 9) scLawShape.nd rfl (.inl rfl) (pe_op op_add pe_int (pe_op op_fdiv (pe_call Op.ok hr1 rfl Op.at_ Op.kp Op.bd .nil pass0 (pa_cons (pv 0) (pa_cons (pe_op op_add (pv 1) pe_int) (pa_cons pe_int pa_nil)))) pe_int)))
      (pss_cons (ps_set (i := 1) scLawShape.nd rfl (.inl rfl) (pe_op op_add (pv 1) pe_int))
      (pss_cons (ps_for PassesOwn.never rfl (pi_range1 rfl m_range (pa_cons (pv 9) pa_nil)) (pg_name (i := 10) scLawShape.nd rfl (.inl rfl)) (pss_cons (ps_asg (pe_call Os.ok hr rfl Os.at_ Os.kp Os.bd .nil pass0 (pa_cons (pv 0) (pa_cons (pv 1) (pa_cons (pe_op op_sub (pv 2) pe_int) (pa_cons (pv 3) pa_nil))))) (pg_tup rfl (pgs_cons (pg_name (i := 11) scLawShape.nd rfl (.inl rfl)) (pgs_cons (pg_name (i := 1) scLawShape.nd rfl (.inl rfl)) pgs_nil))))
      (pss_one (ps_expr (pe_bm PySem.F.plainAttrs_list PySem.F.slot_list_append PySem.F.type_list_append mt_append (pv 8) (pa_cons (pv 11) pa_nil))))))
      (pss_one (ps_ret (pe_tup (pa_cons (pe_tup (pa_cons pe_str (pa_cons (pe_callTy call_tuple_of (by rfl) m_tuple (by decide +kernel) (pa_cons (pv 8) pa_nil)) pa_nil))) (pa_cons (pv 1) pa_nil)))))))))))), ?_⟩
  refine ⟨_, rfl, _, rfl, T, ts, _, _, rfl, hT, hp, by decide, ?_⟩
  have p0 := pk_lo (ts := ts) (a := at_) (show (0 : Int) < 7 by decide)
  have p1 := pk_hi (ts := ts) (a := at_) (show (0 : Int) < 7 by decide)
  generalize pk ts at_ 7 = r at p0 p1
  have leaf : ∀ (D' : Ends) (σ : L2.St), D'.rt = Q → σ = [some (.ref T), some (.int at_), some (.int (l : Int)), some (.ref Fr), some (.int r), none, none, none, none, none, none, none] →
      tRet (tTup (tCons (tCall (spLeaf K) [] E0 (tCons (tVar 0) (tCons (tOp (rI0 fun i j => .int (i + j)) (tVar 1) (tC (.int 1))) (tCons (tVar 3) tNil)))) (tCons (tOp (rI0 fun i j => .int (i + j)) (tVar 1) (tC (.int 2))) tNil))) D' σ H := by
    rintro D' σ hD rfl
    refine ⟨_, rfl, _, rfl, _, _, rfl, rfl, _, rfl, T, Fr, ts, fr, _, rfl, hT, hp, hF, fun H1 v d S1 R1 g => ?_⟩
    refine ⟨_, rfl, _, _, rfl, rfl, zz 2, fun p hp1 => ?_⟩
    rw [hD]
    exact q _ p v d _ (S1.trans (same_upd hp1)) upd_same (R1.same (same_upd hp1)) (g l)
  refine ⟨_, rfl, _, _, rfl, rfl, _, rfl, ite2 (fun c1 => ?_) (fun c1 => ?_)⟩
  · refine iteT ?_
    exact leaf _ _ rfl rfl
  have c1' : ¬ ((l : Nat) : Int) ≤ 0 := fun z => c1 (decide_eq_true z)
  obtain ⟨m, rfl⟩ : ∃ m, l = m + 1 := ⟨l - 1, by omega⟩
  have lv : ((m + 1 : Nat) : Int) - 1 = (m : Int) := by omega
  refine ⟨_, rfl, _, _, rfl, rfl, _, rfl, ite2 (fun c2 => ?_) (fun c2 => ?_)⟩
  · exact leaf _ _ rfl rfl
  -- a function
  refine ⟨_, rfl, _, _, rfl, rfl, _, rfl, ite2 (fun c3 => ?_) (fun c3 => ?_)⟩
  · refine ⟨_, rfl, _, rfl, _, _, rfl, rfl, _, rfl, _, _, rfl, rfl, _, rfl, T, Fr, ts, fr, at_ + 1, m, (by rw [← lv]; rfl), by omega, hT, hp, hF, fun H1 r1 v1 d1 at1 S1 h1 R1 g1 => ?_⟩
    refine ⟨r1, _, rfl, SqT.of h1, rfl, _, _, rfl, _, _, rfl, rfl, ?_⟩
    refine ⟨_, rfl, _, rfl, _, rfl, _, _, rfl, rfl, _, rfl, T, Fr, ts, fr, at1, m, (by rw [← lv]; rfl), by omega, S1.seq hT, hp, S1.seq hF, fun H2 r2 v2 d2 at2 S2 h2 R2 g2 => ?_⟩
    refine ⟨r2, _, rfl, SqT.of h2, rfl, _, _, rfl, _, _, rfl, rfl, ?_⟩
    refine ⟨_, rfl, _, rfl, zz 3, fun p hp1 => ⟨_, rfl, zz 2, fun p2 hp2 => ?_⟩⟩
    have S3 := (same_upd hp1 (o := .tup [.str "f", v1, v2])).trans (same_upd hp2 (o := .tup [.ref p, .int at2]))
    exact q _ p2 _ (.f d1 d2) at2 (S1.trans (S2.trans S3)) upd_same (.f (.of (same_upd hp2 _ _ upd_same)) (R1.same (S2.trans S3)) (R2.same S3)) (.f g1 g2)
  -- one argument
  refine ⟨_, rfl, rfl, _, rfl, ite2 (fun c4 => ?_) (fun c4 => ?_)⟩
  · refine ⟨_, rfl, _, rfl, _, _, rfl, rfl, _, rfl, _, _, rfl, rfl, _, rfl, T, Fr, ts, fr, at_ + 1, m, (by rw [← lv]; rfl), by omega, hT, hp, hF, fun H1 r1 v1 d1 at1 S1 h1 R1 g1 => ?_⟩
    refine ⟨r1, _, rfl, SqT.of h1, rfl, _, _, rfl, _, _, rfl, rfl, ?_⟩
    refine ⟨zz 3, fun p3 hp3 => ?_⟩
    have S3 := same_upd hp3 (o := .tup [.int 3, .int 5, .int 6])
    refine ⟨_, rfl, _, rfl, T, ts, _, _, rfl, S3.seq (S1.seq hT), hp, by decide, ?_⟩
    obtain ⟨sv, hs, hk⟩ := one_stamp (pk_lo (ts := ts) (a := at1) (show (0 : Int) < 3 by decide)) (pk_hi (ts := ts) (a := at1) (show (0 : Int) < 3 by decide))
    refine ⟨p3, _, _, _, rfl, rfl, SqT.of upd_same, hs, _, rfl, zz 1, fun p4 hp4 => ⟨zz 3, fun p5 hp5 => ⟨_, rfl, _, _, rfl, rfl, zz 2, fun p6 hp6 => ?_⟩⟩⟩
    have S4 := same_upd hp4 (o := .tup [v1])
    have S56 := (same_upd hp5 (o := .tup [.str "c", .int sv, .ref p4])).trans (same_upd hp6 (o := .tup [.ref p5, .int (at1 + 1)]))
    exact q _ p6 _ (.c sv [d1]) _ (S1.trans (S3.trans (S4.trans S56))) upd_same (.c (.of (same_upd hp6 _ _ upd_same)) (.of (S56 _ _ upd_same)) (.cons (R1.same (S3.trans (S4.trans S56))) .nil)) (.one hk g1)
  -- a tuple
  refine ⟨Nat.zero_le _, fun L hL => ?_⟩
  have S0 := same_upd hL (o := .lst [])
  refine ⟨_, rfl, _, rfl, _, _, rfl, rfl, T, ts, _, _, rfl, S0.seq hT, hp, by decide, ?_⟩
  have m0 := pk_lo (ts := ts) (a := at_ + 1) (show (0 : Int) < 5 by decide)
  have m1 := pk_hi (ts := ts) (a := at_ + 1) (show (0 : Int) < 5 by decide)
  generalize pk ts (at_ + 1) 5 = r5 at m0 m1
  refine ⟨_, _, rfl, rfl, ⟨by decide, by decide⟩, _, _, rfl, rfl, ?_⟩
  refine ⟨_, rfl, _, _, rfl, rfl, ?_⟩
  have q0 : 0 ≤ r5 / 2 ∧ r5 / 2 ≤ 2 := by omega
  refine ⟨_, rfl, 2 + r5 / 2, rfl, by omega, by omega, ?_⟩
  refine for_range (n := (2 + r5 / 2).toNat) (fun i σ H' => ∃ at' y5 y6 y7 y10 y11 ps ds, σ = [some (.ref T), some (.int at'), some (.int ((m + 1 : Nat) : Int)), some (.ref Fr), some (.int r), y5, y6, y7, some (.ref L), some (.int (2 + r5 / 2)), y10, y11] ∧ Same H H' ∧ H' L = some (.lst ps) ∧ RpL K H' ps ds ∧ ds.length = i ∧ ∀ x ∈ ds, GenD fr m x)
    ⟨_, _, _, _, _, _, [], [], rfl, S0, upd_same, .nil, rfl, fun x h => by cases h⟩ (fun i σ H' hi h => ?_) (fun σ H' h => ?_)
  · obtain ⟨at', y5, y6, y7, y10, y11, ps, ds, rfl, S1, hL1, RP, ld, gd⟩ := h
    refine ⟨_, rfl, _, rfl, _, rfl, _, _, rfl, rfl, _, rfl, T, Fr, ts, fr, at', m, (by rw [← lv]; rfl), by omega, S1.seq hT, hp, S1.seq hF, fun H2 r2 v2 d2 at2 S2 h2 R2 g2 => ?_⟩
    refine ⟨r2, _, rfl, SqT.of h2, rfl, _, _, rfl, _, _, rfl, rfl, ?_⟩
    have hL2 := S2 _ _ hL1
    have lp := RP.len
    refine ⟨_, rfl, .inl ⟨rfl, _, SqL.of hL2⟩, _, rfl, L, _, _, rfl, rfl, hL2, small1000 (by omega), ?_⟩
    have X := ST.lst hL2 (.lst (ps ++ [v2]))
    refine ⟨at2, _, _, _, _, _, ps ++ [v2], ds ++ [d2], rfl, same_skip (S1.trans S2) hL, upd_same, ((RP.same S2).mono X).app (.cons (R2.mono X) .nil), ?_, fun x hx => ?_⟩
    · rw [List.length_append, ld]
      rfl
    · rcases List.mem_append.mp hx with h | h
      · exact gd x h
      · rw [List.mem_singleton.mp h]
        exact g2
  · obtain ⟨at', y5, y6, y7, y10, y11, ps, ds, rfl, S1, hL1, RP, ld, gd⟩ := h
    refine ⟨_, rfl, L, _, rfl, .inl ⟨SqL.of hL1, fun p hp1 => ?_⟩⟩
    refine ⟨zz 2, fun p2 hp2 => ⟨_, rfl, zz 2, fun p3 hp3 => ?_⟩⟩
    have S23 := (same_upd hp2 (o := .tup [.str "t", .ref p])).trans (same_upd hp3 (o := .tup [.ref p2, .int at']))
    have SA := (same_upd hp1 (o := .tup ps)).trans S23
    exact q _ p3 _ (.t ds) at' (S1.trans SA) upd_same (.t (.of (same_upd hp3 _ _ upd_same)) (.of (S23 _ _ upd_same)) (RP.same SA)) (.t (by omega) (by omega) gd)
theorem shape_all {f f2 f3 : Addr} {fd d2 d3 : FuncData} (F : Fun K "_law_shape" "_law_shape" sLawShape f fd) (bd : Binds K fd ["tape", "at", "level", "free"] []) (at_ : mg "_law_shape" = some (.ref f)) (Op : Own P w K mg base CX0 1 "_law_pick" f2 d2 ["tape", "at", "many"] (spPick K))
    (Ol : Own P w K mg base CX0 2 "_law_leaf" f3 d3 ["tape", "at", "free"] (spLeaf K)) (m_range : mg "range" = none) (m_tuple : mg "tuple" = none) : ∀ b : Nat, FnOk P w K mg base CX0 (b + 2) f fd ["tape", "at", "level", "free"] (spShape K b)
  | 0 => shape_none
  | b + 1 => ok_shape F (by omega) Op Ol ⟨shape_all F bd at_ Op Ol m_range m_tuple b, bd, F.kp, at_⟩ m_range m_tuple
end
end Vs

set_option Elab.async false
set_option linter.all false
set_option maxRecDepth 100000
namespace Vs
open PySem PySem.Spec PyProof.Rows L2 RT StX Vr
open C8 (pss_cut tCut)
open RZ
section
variable {P : Program} {w : World} {K : PySem.W.Frag} {mg : Str → Option Value} {base : Heap}
theorem ok_lparts {f : Addr} {fd : FuncData} {k : Nat} (F : Fun K "_law_parts" "_law_parts" sLawParts f fd) : FnOk P w K mg base CX0 (k + 1) f fd ["shape"] (spParts K) := by
  refine F.ok scLawParts (fun vs H Q E h => ?_) (fun cdv A outer s H vs Q E hr h => ?_)
  · obtain ⟨x, d, rfl, _⟩ := h
    rfl
  obtain ⟨x, d, rfl, R, q⟩ := h
  refine ⟨_, pss_cons (ps_if (pt_cmpR op_eq (pe_ix ix_tup (pv 0) pe_int (fun _ _ => rfl)) pe_str (nomark _)) (pss_one (ps_ret (pe_tup pa_nil))) pss_nil)
      (pss_cons (ps_if (pt_cmpR op_eq (pe_ix ix_tup (pv 0) pe_int (fun _ _ => rfl)) pe_str (nomark _)) (pss_one (ps_ret (pe_ix ix_tup (pv 0) pe_int (fun _ _ => rfl)))) pss_nil)
      (pss_cons (ps_if (pt_cmpR op_eq (pe_ix ix_tup (pv 0) pe_int (fun _ _ => rfl)) pe_str (nomark _)) (pss_one (ps_ret (pe_ix ix_tup (pv 0) pe_int (fun _ _ => rfl)))) pss_nil)
      (pss_one (ps_ret (pe_tup (pa_cons (pe_ix ix_tup (pv 0) pe_int (fun _ _ => rfl)) (pa_cons (pe_ix ix_tup (pv 0) pe_int (fun _ _ => rfl)) pa_nil))))))), ?_⟩
  cases R with
  | @v p n h1 =>
    refine ⟨_, rfl, p, _, _, _, rfl, rfl, h1.sq, atI_nat (j := 0) rfl, rfl, _, rfl, iteY ?_⟩
    exact ⟨zz 0, fun c hc => q _ c [] (same_upd hc) (.of upd_same) .nil⟩
  | @c p qa s vs as h1 h2 h3 =>
    refine ⟨_, rfl, p, _, _, _, rfl, rfl, h1.sq, atI_nat (j := 0) rfl, rfl, _, rfl, iteN (by decide +kernel) ?_⟩
    refine ⟨_, rfl, p, _, _, _, rfl, rfl, h1.sq, atI_nat (j := 0) rfl, rfl, _, rfl, iteY ?_⟩
    exact ⟨_, rfl, p, _, _, _, rfl, rfl, h1.sq, atI_nat (j := 2) rfl, q _ qa vs (Same.refl _) h2 h3⟩
  | @t p qa vs as h1 h2 h3 =>
    refine ⟨_, rfl, p, _, _, _, rfl, rfl, h1.sq, atI_nat (j := 0) rfl, rfl, _, rfl, iteN (by decide +kernel) ?_⟩
    refine ⟨_, rfl, p, _, _, _, rfl, rfl, h1.sq, atI_nat (j := 0) rfl, rfl, _, rfl, iteN (by decide +kernel) ?_⟩
    refine ⟨_, rfl, p, _, _, _, rfl, rfl, h1.sq, atI_nat (j := 0) rfl, rfl, _, rfl, iteY ?_⟩
    exact ⟨_, rfl, p, _, _, _, rfl, rfl, h1.sq, atI_nat (j := 1) rfl, q _ qa vs (Same.refl _) h2 h3⟩
  | @f p x y a b h1 h2 h3 =>
    refine ⟨_, rfl, p, _, _, _, rfl, rfl, h1.sq, atI_nat (j := 0) rfl, rfl, _, rfl, iteN (by decide +kernel) ?_⟩
    refine ⟨_, rfl, p, _, _, _, rfl, rfl, h1.sq, atI_nat (j := 0) rfl, rfl, _, rfl, iteN (by decide +kernel) ?_⟩
    refine ⟨_, rfl, p, _, _, _, rfl, rfl, h1.sq, atI_nat (j := 0) rfl, rfl, _, rfl, iteN (by decide +kernel) ?_⟩
    refine ⟨_, rfl, p, _, _, _, rfl, rfl, h1.sq, atI_nat (j := 1) rfl, _, rfl, p, _, _, _, rfl, rfl, h1.sq, atI_nat (j := 2) rfl, zz 2, fun c hc => ?_⟩
    have S1 := same_upd hc (o := .tup [x, y])
    exact q _ c [x, y] S1 (.of upd_same) (.cons (h2.same S1) (.cons (h3.same S1) .nil))
theorem ok_lreb {f : Addr} {fd : FuncData} {k : Nat} (F : Fun K "_law_rebuilt" "_law_rebuilt" sLawRebuilt f fd) (m_tuple : mg "tuple" = none) : FnOk P w K mg base CX0 (k + 1) f fd ["shape", "parts"] (spWith K) := by
  refine F.ok scLawRebuilt (fun vs H Q E h => ?_) (fun cdv A outer s H vs Q E hr h => ?_)
  · obtain ⟨x, d, L, ws, ds, rfl, _⟩ := h
    rfl
  obtain ⟨x, d, L, ws, ds, rfl, R, nv, hL, RL, hl, q⟩ := h
  refine ⟨_, pss_cons (ps_if (pt_cmpR op_eq (pe_ix ix_tup (pv 0) pe_int (fun _ _ => rfl)) pe_str (nomark _)) (pss_one (ps_ret (pe_tup (pa_cons pe_str (pa_cons (pe_ix ix_tup (pv 0) pe_int (fun _ _ => rfl)) (pa_cons (pe_callTy call_tuple_of (by rfl) m_tuple (by decide +kernel) (pa_cons (pv 1) pa_nil)) pa_nil)))))) pss_nil)
      (pss_cons (ps_if (pt_cmpR op_eq (pe_ix ix_tup (pv 0) pe_int (fun _ _ => rfl)) pe_str (nomark _)) (pss_one (ps_ret (pe_tup (pa_cons pe_str (pa_cons (pe_callTy call_tuple_of (by rfl) m_tuple (by decide +kernel) (pa_cons (pv 1) pa_nil)) pa_nil))))) pss_nil)
      (pss_one (ps_ret (pe_tup (pa_cons pe_str (pa_cons (pe_ix ix_list (pv 1) pe_int (fun _ _ => rfl)) (pa_cons (pe_ix ix_list (pv 1) pe_int (fun _ _ => rfl)) pa_nil))))))), ?_⟩
  cases R with
  | @v p n h1 => cases nv
  | @c p qa s vs as h1 h2 h3 =>
    refine ⟨_, rfl, p, _, _, _, rfl, rfl, h1.sq, atI_nat (j := 0) rfl, rfl, _, rfl, iteY ?_⟩
    refine ⟨_, rfl, p, _, _, _, rfl, rfl, h1.sq, atI_nat (j := 1) rfl, _, rfl, L, ws, rfl, .inl ⟨SqL.of hL, fun l hl1 => ⟨zz 3, fun r hr1 => ?_⟩⟩⟩
    have S3 := (same_upd hl1 (o := .tup ws)).trans (same_upd hr1 (o := .tup [.str "c", .int s, .ref l]))
    exact q _ (.ref r) S3 (.c (.of upd_same) (.of (same_upd hr1 _ _ upd_same)) (RL.same S3))
  | @t p qa vs as h1 h2 h3 =>
    refine ⟨_, rfl, p, _, _, _, rfl, rfl, h1.sq, atI_nat (j := 0) rfl, rfl, _, rfl, iteN (by decide +kernel) ?_⟩
    refine ⟨_, rfl, p, _, _, _, rfl, rfl, h1.sq, atI_nat (j := 0) rfl, rfl, _, rfl, iteY ?_⟩
    refine ⟨_, rfl, L, ws, rfl, .inl ⟨SqL.of hL, fun l hl1 => ⟨zz 2, fun r hr1 => ?_⟩⟩⟩
    have S3 := (same_upd hl1 (o := .tup ws)).trans (same_upd hr1 (o := .tup [.str "t", .ref l]))
    exact q _ (.ref r) S3 (.t (.of upd_same) (.of (same_upd hr1 _ _ upd_same)) (RL.same S3))
  | @f p x y a b h1 h2 h3 =>
    refine ⟨_, rfl, p, _, _, _, rfl, rfl, h1.sq, atI_nat (j := 0) rfl, rfl, _, rfl, iteN (by decide +kernel) ?_⟩
    refine ⟨_, rfl, p, _, _, _, rfl, rfl, h1.sq, atI_nat (j := 0) rfl, rfl, _, rfl, iteN (by decide +kernel) ?_⟩
    obtain ⟨d1, d2, rfl⟩ : ∃ d1 d2, ds = [d1, d2] := by
      match ds, hl with
      | [d1, d2], _ => exact ⟨d1, d2, rfl⟩
    obtain ⟨x1, e1, r1⟩ := RL.at (i := 0) rfl
    obtain ⟨x2, e2, r2⟩ := RL.at (i := 1) rfl
    refine ⟨_, rfl, L, _, _, _, rfl, rfl, SqL.of hL, atI_nat (j := 0) e1, _, rfl, L, _, _, _, rfl, rfl, SqL.of hL, atI_nat (j := 1) e2, zz 3, fun r hr1 => ?_⟩
    have S3 := same_upd hr1 (o := .tup [.str "f", x1, x2])
    exact q _ (.ref r) S3 (.f (.of upd_same) (r1.same S3) (r2.same S3))
theorem apply_none {f : Addr} {fd : FuncData} : FnOk P w K mg base CX0 1 f fd ["shape", "pairs"] (spApply K 0) := by
  have no : ∀ vs H Q E, ¬ spApply K 0 vs H Q E := fun vs H Q E h => by
    obtain ⟨x, d, m, ws, ms, _, _, _, _, _, h, _⟩ := h
    have := depth_pos d
    omega
  exact ⟨fun vs H Q E h => absurd h (no vs H Q E), fun A outer s H args us vs Q E _ _ _ _ h => absurd h (no vs H Q E)⟩
theorem ok_apply {f f2 f3 : Addr} {fd d2 d3 : FuncData} {n b : Nat} (F : Fun K "_law_apply" "_law_apply" sLawApply f fd) (hn : 1 ≤ n) (Oq : Own P w K mg base CX0 1 "_law_parts" f2 d2 ["shape"] (spParts K)) (Ow : Own P w K mg base CX0 1 "_law_rebuilt" f3 d3 ["shape", "parts"] (spWith K))
    (Oa : Own P w K mg base CX0 n "_law_apply" f fd ["shape", "pairs"] (spApply K b)) : FnOk P w K mg base CX0 (n + 1) f fd ["shape", "pairs"] (spApply K (b + 1)) := by
  refine F.ok scLawApply (fun vs H Q E h => ?_) (fun cdv A outer s H vs Q E hr h => ?_)
  · obtain ⟨x, d, m, ws, ms, rfl, _⟩ := h
    rfl
  obtain ⟨x, d, Pr, ws, ms, rfl, R, hP, PL, sz, dp, q⟩ := h
  have hr1 := hr.mono hn
  refine ⟨_, pss_cons (ps_if (pt_cmpR op_eq (pe_ix ix_tup (pv 0) pe_int (fun _ _ => rfl)) pe_str (nomark _)) (pss_cons (ps_for PassesOwn.never rfl (pi_list (pv 1)) (pg_tup rfl (pgs_cons (pg_name (i := 2) scLawApply.nd rfl (.inl rfl)) (pgs_cons (pg_name (i := 3) scLawApply.nd rfl (.inl rfl)) pgs_nil))) (pss_one (ps_if (pt_cmpR op_eq (pv 2) (pe_ix ix_tup (pv 0) pe_int (fun _ _ => rfl)) (nomark _)) (pss_one (ps_ret (pv 3))) pss_nil)))
      (pss_one (ps_ret (pv 0)))) pss_nil)
      (pss_one (ps_ret (pe_call Ow.ok hr1 rfl Ow.at_ Ow.kp Ow.bd .nil pass0 (pa_cons (pv 0) (pa_cons (pe_lc (own := [("part", 4)]) (g := gName 4) (tt := tYes) rfl scLawApply.nd (pi_tup (pe_call Oq.ok hr1 rfl Oq.at_ Oq.kp Oq.bd .nil pass0 (pa_cons (pv 0) pa_nil))) (blkOk_by (own := [("part", 4)]) (N := ["shape", "pairs", "number", "due", "part"]) (sc := defScope sLawApply) (by decide +kernel)) (fun _ _ _ _ _ => (pg_name (i := 4) scLawApply.nd rfl (.inl rfl))) (fun _ _ _ _ _ => pts_nil) (fun _ _ _ _ _ => (pe_call Oa.ok hr rfl Oa.at_ Oa.kp Oa.bd .nil pass0 (pa_cons (pv 4) (pa_cons (pv 1) pa_nil))))) pa_nil))))), ?_⟩
  obtain ⟨pa, ka, ra, rfl, hta, hva, _⟩ := R.tag
  refine ⟨_, rfl, pa, _, _, _, rfl, rfl, hta.sq, atI_nat (j := 0) rfl, rfl, _, rfl, ite2 (fun c1 => ?_) (fun c1 => ?_)⟩
  · have k1 : ka = "v" := V.str.inj (of_decide_eq_true c1)
    cases R with
    | c h1 h2 h3 => exact absurd (hva.mpr k1) (by intro z; cases z)
    | t h1 h2 h3 => exact absurd (hva.mpr k1) (by intro z; cases z)
    | f h1 h2 h3 => exact absurd (hva.mpr k1) (by intro z; cases z)
    | @v _ nn h1 =>
      refine ⟨_, rfl, Pr, rfl, ⟨_, hP⟩, ?_⟩
      refine for_list (K := K) (a := Pr) (xs := ws) (fun i σ H' => H' = H ∧ (∃ y2 y3 y4, σ = [some (.ref pa), some (.ref Pr), y2, y3, y4]) ∧ lk ms nn = lk (ms.drop i) nn)
        ⟨rfl, ⟨_, _, _, rfl⟩, rfl⟩ (fun i σ H' _ h => by rw [h.1]; exact hP) (fun i x σ H' hx h => ?_) (fun σ H' h => ?_)
      · obtain ⟨rfl, ⟨y2, y3, y4, rfl⟩, e⟩ := h
        obtain ⟨p, num, y, dd, rfl, hm, ht, Ry⟩ := PL.get hx
        refine ⟨p, _, rfl, SqT.of ht, rfl, _, _, rfl, _, _, rfl, rfl, ?_⟩
        have st := lk_step hm e
        refine ⟨_, rfl, _, rfl, pa, _, _, _, rfl, rfl, h1.sq, atI_nat (j := 1) rfl, rfl, _, rfl, ite2 (fun c2 => ?_) (fun c2 => ?_)⟩
        · have n1 : num = nn := V.int.inj (of_decide_eq_true c2)
          rw [if_pos n1] at st
          refine ⟨_, rfl, q _ _ (Same.refl _) ?_⟩
          rw [sub_size_v st]
          exact Ry
        · have n1 : ¬ num = nn := fun z => c2 (decide_eq_true (congrArg V.int z))
          rw [if_neg n1] at st
          exact ⟨rfl, ⟨_, _, _, rfl⟩, st⟩
      · obtain ⟨rfl, ⟨y2, y3, y4, rfl⟩, e⟩ := h
        rw [PL.len, List.drop_length] at e
        refine ⟨_, rfl, q _ _ (Same.refl _) ?_⟩
        rw [sub_v_none e]
        exact .v h1
  · have nv : d.isV = false := by
      cases hv : d.isV with
      | false => rfl
      | true => exact absurd (decide_eq_true (congrArg V.str (hva.mp hv))) c1
    refine ⟨_, rfl, _, rfl, _, d, rfl, R, fun H2 qa us S2 h2 RL => ⟨qa, rfl, ⟨_, h2.sq⟩, fun L hL => ?_⟩⟩
    have lv := RL.len
    have kl := kids_len d
    have S0 := same_upd hL (o := .lst [])
    refine lc_tup (K := K) (a := qa) (xs := us) (fun j H' => Same H2 H' ∧ ∃ ps, H' L = some (.lst ps) ∧ RpL K H' ps (D.subL (lk ms) (d.kids.take j)))
      ⟨S0, [], upd_same, .nil⟩ (fun i H' _ h => (h2.mono (ST.same h.1)).sq) (fun i z H' hz h => ?_) (fun H' h => ?_)
    · obtain ⟨S3, ps, hL3, RP⟩ := h
      obtain ⟨dz, hdz, Rz⟩ := RL.get hz
      have hmem := List.mem_of_getElem? hdz
      have hi : i < d.kids.length := (List.getElem?_eq_some_iff.mp hdz).1
      have k1 := kid_size hmem
      have k2 := kid_depth hmem
      have S23 := S2.trans S3
      refine ⟨rfl, ?_⟩
      refine ⟨_, rfl, _, rfl, z, dz, Pr, ws, ms, rfl, Rz.mono (ST.same S3), S23.seq hP, PL.mono (ST.same S23), by omega, by omega, fun H4 v4 S4 R4 => ?_⟩
      have hL4 := S4 _ _ hL3
      have l1 := RP.len
      rw [subL_len, List.length_take] at l1
      refine ⟨ps, hL4, zbig (n := ps.length) (by omega), same_skip (S3.trans S4) hL, ps ++ [v4], upd_same, ?_⟩
      have X5 : ST H4 (upd H4 L (.lst (ps ++ [v4]))) := ST.lst hL4 _
      rw [subL_take _ hdz]
      exact ((RP.same S4).mono X5).app (.cons (R4.mono X5) .nil)
    · obtain ⟨S3, ps, hL3, RP⟩ := h
      rw [lv, List.take_length] at RP
      refine ⟨_, d, L, ps, _, rfl, R.same (S2.trans S3), nv, hL3, RP, subL_len _ _, fun H5 v5 S5 R5 => ?_⟩
      rw [with_sub _ _ nv] at R5
      exact q _ _ (S2.trans (S3.trans S5)) R5
theorem apply_all {f f2 f3 : Addr} {fd d2 d3 : FuncData} (F : Fun K "_law_apply" "_law_apply" sLawApply f fd) (bd : Binds K fd ["shape", "pairs"] []) (at_ : mg "_law_apply" = some (.ref f)) (Oq : Own P w K mg base CX0 1 "_law_parts" f2 d2 ["shape"] (spParts K)) (Ow : Own P w K mg base CX0 1 "_law_rebuilt" f3 d3 ["shape", "parts"] (spWith K)) :
    ∀ b : Nat, FnOk P w K mg base CX0 (b + 1) f fd ["shape", "pairs"] (spApply K b)
  | 0 => apply_none
  | b + 1 => ok_apply F (by omega) Oq Ow ⟨apply_all F bd at_ Oq Ow b, bd, F.kp, at_⟩
end
end Vs

set_option Elab.async false
set_option linter.all false
set_option maxRecDepth 100000
namespace Vs
open PySem PySem.Spec PyProof.Rows L2 RT StX Vr
open C8 (pss_cut tCut)
open RZ
section
variable {P : Program} {w : World} {K : PySem.W.Frag} {mg : Str → Option Value} {base : Heap}
theorem filt_step {ns : List Int} {i : Nat} {m : Int} {p : Int → Bool} (h : ns[i]? = some m) : (ns.take (i + 1)).filter p = (ns.take i).filter p ++ (if p m = true then [m] else []) := by
  rw [List.take_add_one, h, List.filter_append]
  congr 1
  show List.filter p [m] = _
  rw [List.filter_cons, List.filter_nil]
/-- the numbers of a row of shapes -/
def idx (k : Nat) : List D → List (Int × D)
  | [] => []
  | e :: r => ((k : Int), e) :: idx (k + 1) r
theorem idx_app : ∀ (a b : List D) (k : Nat), idx k (a ++ b) = idx k a ++ idx (k + a.length) b
  | [], b, k => rfl
  | n :: r, b, k => by
    show ((k : Int), n) :: idx (k + 1) (r ++ b) = ((k : Int), n) :: (idx (k + 1) r ++ idx (k + (r.length + 1)) b)
    rw [idx_app r b (k + 1), show k + 1 + r.length = k + (r.length + 1) by omega]
theorem idx_len : ∀ (a : List D) (k : Nat), (idx k a).length = a.length
  | [], _ => rfl
  | n :: r, k => by
    show (idx (k + 1) r).length + 1 = r.length + 1
    rw [idx_len r]
theorem idx_key : ∀ (a : List D) (k : Nat) (p : Int × D), p ∈ idx k a → (k : Int) ≤ p.1 ∧ p.1 < ((k + a.length : Nat) : Int) ∧ p.2 ∈ a
  | [], _, p, h => by cases h
  | n :: r, k, p, h => by
    rcases List.mem_cons.mp h with rfl | h
    · refine ⟨Int.le_refl _, ?_, List.mem_cons_self⟩
      show (k : Int) < ((k + (r.length + 1) : Nat) : Int)
      omega
    · obtain ⟨a1, a2, a3⟩ := idx_key r (k + 1) p h
      refine ⟨by omega, ?_, List.mem_cons_of_mem _ a3⟩
      show p.1 < ((k + (r.length + 1) : Nat) : Int)
      omega
theorem lk_idx : ∀ {a : List D} {k i : Nat} {e : D}, a[i]? = some e → lk (idx k a) ((k + i : Nat) : Int) = some e
  | [], _, _, _, h => by cases h
  | n :: r, k, 0, _, h => by
    cases h
    exact lk_pos rfl
  | n :: r, k, i + 1, e, h => by
    have h' : r[i]? = some e := h
    show lk (((k : Int), n) :: idx (k + 1) r) _ = _
    rw [lk_neg (by show ¬ (k : Int) = ((k + (i + 1) : Nat) : Int); omega), show k + (i + 1) = k + 1 + i by omega, lk_idx h']
theorem idx_step {es : List D} {i : Nat} {e : D} (h : es[i]? = some e) : idx 0 (es.take (i + 1)) = idx 0 (es.take i) ++ [((i : Int), e)] := by
  have hi := (List.getElem?_eq_some_iff.mp h).1
  rw [List.take_add_one, h, idx_app, List.length_take, Nat.min_eq_left (by omega), Nat.zero_add]
  rfl
def spInst (K : PySem.W.Frag) (C : Addr) : Sp := fun vs H Q E => ∃ (S T : Addr) (k : Int) (x : V) (d : D) (ws : List V) (es : List D), vs = [.ref S, .ref T] ∧ TA K H S [.int k, x] ∧ Rp K H x d ∧ SqL K H T ws ∧ RpL K H ws es ∧ d.size ≤ 900 ∧ (∀ e ∈ es, e.size ≤ 90000) ∧ es.length ≤ 900 ∧
  (big (d.sub (lk (idx 0 es))) → ∀ H', Same H H' → E (.ref C) none H') ∧ (¬ big (d.sub (lk (idx 0 es))) → ∀ H' v', Same H H' → Rp K H' v' (d.sub (lk (idx 0 es))) → Q v' H')
theorem ok_inst {f f2 C : Addr} {fd d2 : FuncData} (F : Fun K "instantiate" "instantiate" sInstantiate f fd) (Ou : Own P w K mg base (L2.CX P w) 102 "substitute" f2 d2 ["shape", "mapping"] (spSubst K C)) (m_enumerate : mg "enumerate" = none) :
    FnOk P w K mg base (L2.CX P w) 103 f fd ["scheme", "shapes"] (spInst K C) := by
  refine F.okX scInstantiate (fun vs H Q E h => ?_) (fun cdv A outer s H vs Q E hr h => ?_)
  · obtain ⟨S, T, k, x, d, ws, es, rfl, _⟩ := h
    rfl
  obtain ⟨S, T, k, x, d, ws, es, rfl, hS, R, hT, RL, sz, szm, le, qE, qQ⟩ := h
  refine ⟨_, pss_one (ps_ret (pe_call Ou.ok hr rfl Ou.at_ Ou.kp Ou.bd .nil (passes_call (E := E) (takes_of rfl rfl rfl rfl) (fun _ _ _ _ h => h)) (pa_cons (pe_ix ix_tup (pv 0) pe_int (fun _ _ => rfl)) (pa_cons (pe_dc (own := [("index", 2), ("shape", 3)]) (g := gTup K 2 (gCons (gName 2) (gCons (gName 3) gNil))) (tt := tYes) rfl scInstantiate.nd (pi_enum rfl m_enumerate (pa_cons (pv 1) pa_nil)) (blkOk_by (own := [("index", 2), ("shape", 3)]) (N := ["scheme", "shapes", "index", "shape"]) (sc := defScope sInstantiate) (by decide +kernel)) (fun _ _ _ _ _ => (pg_tup rfl (pgs_cons (pg_name (i := 2) scInstantiate.nd rfl (.inl rfl)) (pgs_cons (pg_name (i := 3) scInstantiate.nd rfl (.inl rfl)) pgs_nil)))) (fun _ _ _ _ _ => pts_nil) (fun _ _ _ _ _ => (pv 2)) (fun _ _ _ _ _ => (pv 3))) pa_nil)))), ?_⟩
  refine ⟨_, rfl, S, _, _, _, rfl, rfl, hS.sq, atI_nat (j := 1) rfl, _, rfl, T, ws, rfl, hT, fun M hM => ?_⟩
  have SM := same_upd hM (o := .dK [])
  have lw := RL.len
  refine dc_enum (K := K) (a := T) (xs := ws) (fun i H' => Same H H' ∧ ∃ kvs, H' M = some (.dK kvs) ∧ MpL K H' kvs (idx 0 (es.take i)))
    ⟨SM, [], upd_same, .nil⟩ (fun i H' _ h => h.1.seq hT) (fun i z T' H' hz hT' h => ?_) (fun H' h => ?_)
  · obtain ⟨S1, kvs, hM1, ML⟩ := h
    obtain ⟨e, he, Re⟩ := RL.get hz
    have ST1 := same_upd hT' (o := .tup [.int (i : Nat), z])
    refine ⟨T', _, rfl, SqT.of upd_same, rfl, _, _, rfl, _, _, rfl, rfl, rfl, ?_⟩
    have hM2 := ST1 _ _ hM1
    have lm := ML.len
    rw [idx_len, List.length_take] at lm
    refine ⟨_, rfl, _, rfl, kvs, Sum.inl (i : Int), rfl, hM2, small1000 (by omega), same_skip (S1.trans ST1) hM, kvs ++ [(Sum.inl (i : Int), z)], ?_, ?_⟩
    · rw [upd_same, putK_new]
      rcases ML.get (i : Int) with ⟨g, _⟩ | ⟨v', e', _, g, _⟩
      · exact g
      · have := (idx_key _ _ _ (lk_mem g)).2.1
        rw [List.length_take] at this
        exfalso
        have t2 : ((i : Nat) : Int) < ((0 + min i es.length : Nat) : Int) := this
        omega
    · have X := ST.dct hM2 (.dK (putK kvs (Sum.inl (i : Int)) z))
      rw [idx_step he]
      exact (ML.mono ((ST.same ST1).trans X)).app (.cons ((Re.same (S1.trans ST1)).mono X) .nil)
  · obtain ⟨S1, kvs, hM1, ML⟩ := h
    rw [lw, List.take_length] at ML
    exact ⟨x, d, M, idx 0 es, rfl, R.same S1, ⟨kvs, hM1, ML⟩, by omega, fun n e hn => szm e (idx_key _ _ _ (lk_mem hn)).2.2, fun hb H2 S2 => qE hb _ (S1.trans S2), fun nb H2 v2 S2 R2 => qQ nb _ _ (S1.trans S2) R2⟩
end
end Vs

set_option Elab.async false
set_option linter.all false
set_option maxRecDepth 100000
namespace Vs
open PySem PySem.Spec PyProof.Rows L2 RT StX Vr
open C8 (pss_cut tCut)
open RZ
section
variable {P : Program} {w : World} {K : PySem.W.Frag} {mg : Str → Option Value} {base : Heap}
def spHead (K : PySem.W.Frag) : Sp := fun vs H Q _ => ∃ (x y : V) (p s : D), vs = [x, y] ∧ Rp K H x p ∧ Rp K H y s ∧ (∀ H', Same H H' → p.sameHd s → Q (.bl true) H') ∧ (∀ H', Same H H' → ¬ p.sameHd s → Q (.bl false) H')
theorem ok_head {f f2 : Addr} {fd d2 : FuncData} {k : Nat} (F : Fun K "same_head" "same_head" sSameHead f fd) (Oq : Own P w K mg base CX0 k "parts_of_shape" f2 d2 ["shape"] (spParts K)) (m_len : mg "len" = none) : FnOk P w K mg base CX0 (k + 1) f fd ["first", "second"] (spHead K) := by
  refine F.ok scSameHead (fun vs H Q E h => ?_) (fun cdv A outer s H vs Q E hr h => ?_)
  · obtain ⟨x, y, p, s, rfl, _⟩ := h
    rfl
  obtain ⟨x, y, p, s, rfl, Rx, Ry, qT, qF⟩ := h
  refine ⟨_, pss_cons (ps_if (PW.pt (pw_or (pt_cmpR op_ne (pe_ix ix_tup (pv 0) pe_int (fun _ _ => rfl)) (pe_ix ix_tup (pv 1) pe_int (fun _ _ => rfl)) (nomark _)) (pw_or1 (pt_cmpR op_ne (pe_callB call_len_seq (by rfl) m_len PySem.boot_len (pa_cons (pe_call Oq.ok hr rfl Oq.at_ Oq.kp Oq.bd .nil pass0 (pa_cons (pv 0) pa_nil)) pa_nil)) (pe_callB call_len_seq (by rfl) m_len PySem.boot_len (pa_cons (pe_call Oq.ok hr rfl Oq.at_ Oq.kp Oq.bd .nil pass0 (pa_cons (pv 1) pa_nil)) pa_nil)) (nomark _))))) (pss_one (ps_ret pe_bl)) pss_nil)
      (pss_one (ps_ret (pe_or (pe_cmpR op_in_seq (pe_ix ix_tup (pv 0) pe_int (fun _ _ => rfl)) (pe_tup (pa_cons pe_str (pa_cons pe_str pa_nil))) (by with_unfolding_all rfl)) (pe_one (pe_cmpR op_eq (pe_ix ix_tup (pv 0) pe_int (fun _ _ => rfl)) (pe_ix ix_tup (pv 1) pe_int (fun _ _ => rfl)) (nomark _)))))), ?_⟩
  obtain ⟨a, ra, rfl, ta⟩ := Rx.tag2
  obtain ⟨b, rb, rfl, tb⟩ := Ry.tag2
  refine ⟨_, rfl, a, _, _, _, rfl, rfl, ta.sq, atI_nat (j := 0) rfl, _, rfl, b, _, _, _, rfl, rfl, tb.sq, atI_nat (j := 0) rfl, rfl, _, rfl, ?_⟩
  by_cases e : p.tg = s.tg
  · rw [e, decide_eq_true rfl]
    refine iteF ?_
    refine ⟨_, rfl, _, p, rfl, Rx, fun H1 qa us S1 h1 RU => ?_⟩
    refine ⟨qa, us, rfl, .inr h1.sq, _, rfl, _, s, rfl, Ry.same S1, fun H2 qb ws S2 h2 RW => ?_⟩
    refine ⟨qb, ws, rfl, .inr h2.sq, rfl, _, rfl, ?_⟩
    rw [RU.len, RW.len]
    by_cases el : p.kids.length = s.kids.length
    · rw [el, decide_eq_true rfl]
      refine iteF ?_
      have S12 := S1.trans S2
      refine ⟨_, rfl, a, _, _, _, rfl, rfl, (ta.mono (ST.same S12)).sq, atI_nat (j := 0) rfl, zz 2, fun p1 hp1 => ?_⟩
      have Sp := same_upd hp1 (o := .tup [.str "t", .str "f"])
      refine ⟨p1, _, rfl, .inr (SqT.of upd_same), rfl, rfl, _, rfl, ?_⟩
      have S13 := S12.trans Sp
      by_cases c : inV (.str p.tg) [.str "t", .str "f"] = true
      · rw [show (if false = true then !inV (.str p.tg) [.str "t", .str "f"] else inV (.str p.tg) [.str "t", .str "f"]) = true from c]
        refine iteT (qT _ S13 ⟨?_, el⟩)
        rcases (tg_inV p).mp c with ⟨as, rfl⟩ | ⟨a1, b1, rfl⟩
        · cases s with
          | t bs => rfl
          | v n => exact absurd (hd_tg e) (show ¬ (2 : Int) = 0 by decide)
          | c n bs => exact absurd (hd_tg e) (show ¬ (2 : Int) = 1 by decide)
          | f a b => exact absurd (hd_tg e) (show ¬ (2 : Int) = 3 by decide)
        · cases s with
          | f a b => rfl
          | v n => exact absurd (hd_tg e) (show ¬ (3 : Int) = 0 by decide)
          | c n bs => exact absurd (hd_tg e) (show ¬ (3 : Int) = 1 by decide)
          | t bs => exact absurd (hd_tg e) (show ¬ (3 : Int) = 2 by decide)
      · have c' : inV (.str p.tg) [.str "t", .str "f"] = false := by
          cases q : inV (.str p.tg) [.str "t", .str "f"] with
          | false => rfl
          | true => exact absurd q c
        rw [show (if false = true then !inV (.str p.tg) [.str "t", .str "f"] else inV (.str p.tg) [.str "t", .str "f"]) = false from c']
        refine iteF ?_
        obtain ⟨a', n, r1, ea, t1, en⟩ := Rx.num (fun z => c ((tg_inV p).mpr z))
        cases ea
        obtain ⟨b', m, r2, eb, t2, em⟩ := Ry.num (fun z => c (by rw [e]; exact (tg_inV s).mpr z))
        cases eb
        refine ⟨_, rfl, a, _, _, _, rfl, rfl, (t1.mono (ST.same S13)).sq, atI_nat (j := 1) rfl, _, rfl, b, _, _, _, rfl, rfl, (t2.mono (ST.same S13)).sq, atI_nat (j := 1) rfl, rfl, ?_⟩
        by_cases enm : n = m
        · rw [decide_eq_true (congrArg V.int enm)]
          refine qT _ S13 ⟨Prod.ext (hd_tg e) ?_, el⟩
          rw [← en, ← em, enm]
        · rw [decide_eq_false (fun z => enm (V.int.inj z))]
          refine qF _ S13 fun z => enm ?_
          rw [en, em, z.1]
    · have dn : decide (V.int (p.kids.length : Int) = V.int (s.kids.length : Int)) = false := decide_eq_false (fun z => el (by have := V.int.inj z; omega))
      rw [dn]
      exact iteT (qF _ (S1.trans S2) fun z => el z.2)
  · rw [decide_eq_false (fun z => e (V.str.inj z))]
    refine iteT ?_
    exact qF _ (Same.refl _) fun z => e (tg_hd z.1)
end
end Vs

set_option Elab.async false
set_option linter.all false
set_option maxRecDepth 100000
namespace Vs
open PySem PySem.Spec PyProof.Rows L2 RT StX Vr
open C8 (pss_cut tCut)
open RZ
section
variable {P : Program} {w : World} {K : PySem.W.Frag} {mg : Str → Option Value} {base : Heap}
theorem hu300 {A : Around} {k : Nat} (hr : Room k A) (hk : 7 ≤ k) : A.units + 300 < cLine := by
  have := hr.un
  omega
theorem OffD.st {L : Addr} {H H' : Hp} {xs : List (Key × V)} (a : Off L H H') (h : H L = some (.dK xs)) : ST H H' := fun b ys e => a b _ (ne_of e h (fun z => by cases z)) e
def spMatch (K : PySem.W.Frag) (b : Nat) : Sp := fun vs H Q _ => ∃ (x y : V) (p s : D) (c : Int) (M : Addr) (kvs : List (Key × V)) (st : List (Int × D)), vs = [x, y, .int c, .ref M] ∧ Rp K H x p ∧ Rp K H y s ∧ H M = some (.dK kvs) ∧ MpL K H kvs st ∧
  p.depth ≤ b ∧ s.depth ≤ 100 ∧ (∀ z ∈ st, z.2.depth ≤ 100) ∧ st.length + p.size ≤ 90000 ∧
  (∀ st', mt c p s st = some st' → ∀ H' kvs', Off M H H' → H' M = some (.dK kvs') → MpL K H' kvs' st' → Q (.bl true) H') ∧ (mt c p s st = none → ∀ H', Off M H H' → Q (.bl false) H')
theorem match_none {f : Addr} {fd : FuncData} {k : Nat} : FnOk P w K mg base CX0 k f fd ["pattern", "shape", "count", "found"] (spMatch K 0) := by
  have no : ∀ vs H Q E, ¬ spMatch K 0 vs H Q E := fun vs H Q E h => by
    obtain ⟨x, y, p, s, c, M, kvs, st, _, _, _, _, _, h, _⟩ := h
    have := depth_pos p
    omega
  exact ⟨fun vs H Q E h => absurd h (no vs H Q E), fun A outer s H args us vs Q E _ _ _ _ h => absurd h (no vs H Q E)⟩
theorem ok_match {f f2 f3 : Addr} {fd d2 d3 : FuncData} {n b : Nat} (F : Fun K "matches" "matches" sMatches f fd) (hn : 7 ≤ n) (Oh : Own P w K mg base CX0 2 "same_head" f2 d2 ["first", "second"] (spHead K)) (Oq : Own P w K mg base CX0 1 "parts_of_shape" f3 d3 ["shape"] (spParts K)) (m_zip : mg "zip" = none)
    (Om : Own P w K mg base CX0 n "matches" f fd ["pattern", "shape", "count", "found"] (spMatch K b)) : FnOk P w K mg base CX0 (n + 1) f fd ["pattern", "shape", "count", "found"] (spMatch K (b + 1)) := by
  refine F.ok scMatches (fun vs H Q E h => ?_) (fun cdv A outer s0 H vs Q E hr h => ?_)
  · obtain ⟨x, y, p, s, c, M, kvs, st, rfl, _⟩ := h
    rfl
  obtain ⟨x, y, p, s, c, M, kvs, st, rfl, Rx, Ry, hM, ML, dp, ds, dst, sz, qT, qF⟩ := h
  have hr1 := hr.mono (show 1 ≤ n by omega)
  have hr2 := hr.mono (show 2 ≤ n by omega)
  refine ⟨_, pss_cut (ps_if (PW.pt (pw_and (pt_cmpR op_eq (pe_ix ix_tup (pv 0) pe_int (fun _ _ => rfl)) pe_str (nomark _)) (pw_and1 (pt_cmpR op_lt (pe_ix ix_tup (pv 0) pe_int (fun _ _ => rfl)) (pv 2) (nomark _))))) (pss_one (ps_ret (pe_cmpR (op_eqP (hu300 hr hn)) (pe_dsetd (pv 3) (pe_ix ix_tup (pv 0) pe_int (fun _ _ => rfl)) (pv 1) ⟨rfl, rfl, rfl, rfl⟩) (pv 1) (nomark _)))) pss_nil)
      (pss_cons (ps_if (pt_not (pt_val (pe_call Oh.ok hr2 rfl Oh.at_ Oh.kp Oh.bd .nil pass0 (pa_cons (pv 0) (pa_cons (pv 1) pa_nil))))) (pss_one (ps_ret pe_bl)) pss_nil)
      (pss_cons (ps_for PassesOwn.never rfl (pi_zipA rfl m_zip (pa_cons (pe_call Oq.ok hr1 rfl Oq.at_ Oq.kp Oq.bd .nil pass0 (pa_cons (pv 0) pa_nil)) (pa_cons (pe_call Oq.ok hr1 rfl Oq.at_ Oq.kp Oq.bd .nil pass0 (pa_cons (pv 1) pa_nil)) pa_nil))) (pg_tup rfl (pgs_cons (pg_name (i := 4) scMatches.nd rfl (.inl rfl)) (pgs_cons (pg_name (i := 5) scMatches.nd rfl (.inl rfl)) pgs_nil))) (pss_one (ps_if (pt_not (pt_val (pe_call Om.ok hr rfl Om.at_ Om.kp Om.bd .nil pass0 (pa_cons (pv 4) (pa_cons (pv 5) (pa_cons (pv 2) (pa_cons (pv 3) pa_nil))))))) (pss_one (ps_ret pe_bl)) pss_nil)))
      (pss_one (ps_ret pe_bl)))), ?_⟩
  refine ⟨fun σ' H' => σ' = [some x, some y, some (.int c), some (.ref M), none, none] ∧ H' = H ∧ ∀ k, p = .v k → ¬ k < c, ?_, ?_⟩
  · obtain ⟨a, ra, rfl, ta⟩ := Rx.tag2
    refine ⟨_, rfl, a, _, _, _, rfl, rfl, ta.sq, atI_nat (j := 0) rfl, rfl, _, rfl, ite2 (fun c1 => ?_) (fun c1 => ?_)⟩
    · have k1 : p.tg = "v" := V.str.inj (of_decide_eq_true c1)
      cases Rx with
      | c h1 h2 h3 => exact absurd k1 (show ¬ (Str.ofString "c" : Str) = "v" by decide +kernel)
      | t h1 h2 h3 => exact absurd k1 (show ¬ (Str.ofString "t" : Str) = "v" by decide +kernel)
      | f h1 h2 h3 => exact absurd k1 (show ¬ (Str.ofString "f" : Str) = "v" by decide +kernel)
      | @v _ nn h1 =>
        refine ⟨_, rfl, a, _, _, _, rfl, rfl, h1.sq, atI_nat (j := 1) rfl, _, rfl, _, _, rfl, rfl, _, rfl, ite2 (fun c2 => ?_) (fun c2 => ?_)⟩
        · have c3 : nn < c := of_decide_eq_true c2
          have em := mt_var c nn s st c3
          have z1 : (D.v nn).size = 1 := by simp only [D.size]
          have lm := ML.len
          have pd := py_depth s
          refine ⟨_, rfl, M, rfl, .inl ⟨_, .inl hM⟩, _, rfl, a, _, _, _, rfl, rfl, h1.sq, atI_nat (j := 1) rfl, _, rfl, kvs, .inl nn, hM, rfl, zbig (n := kvs.length) (by omega), fun v hv => ?_, fun hv => ?_⟩
          · rcases ML.get nn with ⟨g1, g2⟩ | ⟨v', e, g1, g2, Re⟩
            · rw [g1] at hv
              cases hv
            · rw [g1] at hv
              cases hv
              have de : e.depth ≤ 100 := dst _ (lk_mem g2)
              have pe := py_depth e
              rw [g2] at em
              dsimp only at em
              refine ⟨_, rfl, e.py, s.py, Re.dp, Ry.dp, py_lay e, py_lay s, by omega, ?_⟩
              cases q : PyData.eqv e.py s.py with
              | true =>
                rw [q, if_pos rfl] at em
                exact qT st em H kvs Off.refl hM ML
              | false =>
                rw [q, if_neg (by decide)] at em
                exact qF em H Off.refl
          · rcases ML.get nn with ⟨g1, g2⟩ | ⟨v', e, g1, g2, Re⟩
            · rw [g2] at em
              dsimp only at em
              have X := ST.dct hM (.dK (putK kvs (.inl nn) y))
              refine ⟨_, rfl, s.py, s.py, (Ry.mono X).dp, (Ry.mono X).dp, py_lay s, py_lay s, by omega, ?_⟩
              rw [py_self]
              exact qT _ em _ (kvs ++ [(.inl nn, y)]) Off.upd (by rw [upd_same, putK_new y g1]) ((ML.mono X).app (.cons (Ry.mono X) .nil))
            · rw [g1] at hv
              cases hv
        · refine ⟨rfl, rfl, fun k hk => ?_⟩
          cases hk
          exact fun z => c2 (decide_eq_true z)
    · refine ⟨rfl, rfl, fun k hk => ?_⟩
      rw [hk] at c1
      exact absurd (decide_eq_true rfl) c1
  rintro σ1 H1 ⟨rfl, rfl, nd⟩
  have em := mt_node c p s st nd
  refine ⟨_, rfl, _, rfl, x, y, p, s, rfl, Rx, Ry, fun H2 S2 sh => ?_, fun H2 S2 sh => ?_⟩
  · rw [if_pos sh] at em
    refine ⟨_, rfl, iteF ?_⟩
    refine ⟨_, rfl, x, p, rfl, Rx.same S2, fun H3 qa us S3 h3 RU => ⟨_, rfl, y, s, rfl, (Ry.same S2).same S3, fun H4 qb ws S4 h4 RW => ?_⟩⟩
    have S14 := S2.trans (S3.trans S4)
    have hM4 := S14 _ _ hM
    have h3' := h3.mono (ST.same S4)
    have RU4 := RU.same S4
    have lu := RU.len
    have lw := RW.len
    have sk := size_kids p
    have dk := depth_kids p
    have dks := depth_kids s
    refine ⟨qa, qb, us, ws, rfl, .inr ⟨h3'.sq, h4.sq, ?_⟩⟩
    refine for_zipT (K := K) (a := qa) (b := qb) (xs := us) (ys := ws) (by rw [lu, lw, sh.2]) (fun i σ' H' => ∃ (y4 y5 : Option V) (kvi : List (Key × V)) (sti : List (Int × D)), σ' = [some x, some y, some (.int c), some (.ref M), y4, y5] ∧ Off M H4 H' ∧ H' M = some (.dK kvi) ∧ MpL K H' kvi sti ∧
        mtL c (p.kids.drop i) (s.kids.drop i) sti = mt c p s st ∧ sti.length + D.sizeL (p.kids.drop i) ≤ 90000 ∧ ∀ z ∈ sti, z.2.depth ≤ 100)
      ⟨_, _, kvs, st, rfl, Off.refl, hM4, ML.mono (ST.same S14), em.symm, by rw [List.drop_zero]; omega, dst⟩
      (fun i σ' H' h => by
        obtain ⟨_, _, _, _, _, O, _⟩ := h
        have X := OffD.st O hM4
        exact ⟨(h3'.mono X).sq, (h4.mono X).sq⟩) (fun i u v T σ' H' hu hv h nT => ?_) (fun σ' H' h => ?_)
    · obtain ⟨y4, y5, kvi, sti, rfl, O, hMi, MLi, emi, szi, dsti⟩ := h
      obtain ⟨pi, hpi, Rpi⟩ := RU4.get hu
      obtain ⟨si, hsi, Rsi⟩ := RW.get hv
      have ST' := same_upd nT (o := .tup [u, v])
      have X := (OffD.st O hM4).trans (ST.same ST')
      have d1 : p.kids.drop i = pi :: p.kids.drop (i + 1) := by
        obtain ⟨hi, hh⟩ := List.getElem?_eq_some_iff.mp hpi
        rw [← hh]
        exact List.drop_eq_getElem_cons hi
      have d2 : s.kids.drop i = si :: s.kids.drop (i + 1) := by
        obtain ⟨hi, hh⟩ := List.getElem?_eq_some_iff.mp hsi
        rw [← hh]
        exact List.drop_eq_getElem_cons hi
      rw [d1, d2, mtL] at emi
      rw [d1, D.sizeL] at szi
      have b1 := depthL_mem (List.mem_of_getElem? hpi)
      have b2 := depthL_mem (List.mem_of_getElem? hsi)
      refine ⟨T, _, rfl, SqT.of upd_same, rfl, _, _, rfl, _, _, rfl, rfl, ?_⟩
      refine ⟨_, rfl, _, rfl, _, rfl, _, rfl, u, v, pi, si, c, M, kvi, sti, rfl, Rpi.mono X, Rsi.mono X, ST' _ _ hMi, MLi.mono (ST.same ST'), by omega, by omega, dsti, by omega, fun st' e H5 kv5 O5 hM5 ML5 => ?_, fun e H5 O5 => ?_⟩
      · have bd := mt_bd c 100 pi si sti st' e (by omega) dsti
        refine ⟨_, rfl, iteF ?_⟩
        refine ⟨_, _, kv5, st', rfl, O.trans ((Off.same ST').trans O5), hM5, ML5, ?_, by omega, bd.2⟩
        rw [← emi]
        show _ = (mt c pi si sti).bind _
        rw [e]
        rfl
      · refine ⟨_, rfl, iteT ?_⟩
        refine qF ?_ _ ((Off.same S14).trans (O.trans ((Off.same ST').trans O5)))
        rw [← emi]
        show (mt c pi si sti).bind _ = none
        rw [e]
        rfl
    · obtain ⟨y4, y5, kvi, sti, rfl, O, hMi, MLi, emi, szi, dsti⟩ := h
      rw [lu, List.drop_length, mtL] at emi
      exact qT sti emi.symm _ kvi ((Off.same S14).trans O) hMi MLi
  · rw [if_neg sh] at em
    exact ⟨_, rfl, iteT (qF em _ (Off.same S2))⟩
theorem match_all {f f2 f3 : Addr} {fd d2 d3 : FuncData} (F : Fun K "matches" "matches" sMatches f fd) (bd : Binds K fd ["pattern", "shape", "count", "found"] []) (at_ : mg "matches" = some (.ref f)) (Oh : Own P w K mg base CX0 2 "same_head" f2 d2 ["first", "second"] (spHead K)) (Oq : Own P w K mg base CX0 1 "parts_of_shape" f3 d3 ["shape"] (spParts K)) (m_zip : mg "zip" = none) :
    ∀ b : Nat, FnOk P w K mg base CX0 (b + 7) f fd ["pattern", "shape", "count", "found"] (spMatch K b)
  | 0 => match_none
  | b + 1 => ok_match F (by omega) Oh Oq m_zip ⟨match_all F bd at_ Oh Oq m_zip b, bd, F.kp, at_⟩
end
end Vs

set_option Elab.async false
set_option linter.all false
set_option maxRecDepth 100000
namespace Vs
open PySem PySem.Spec PyProof.Rows L2 RT StX Vr
open C8 (pss_cut tCut)
open RZ
section
variable {P : Program} {w : World} {K : PySem.W.Frag} {mg : Str → Option Value} {base : Heap}
def spMi (K : PySem.W.Frag) : Sp := fun vs H Q _ => ∃ (S : Addr) (x y : V) (p s : D) (m : Nat), vs = [.ref S, y] ∧ TA K H S [.int (m : Int), x] ∧ Rp K H x p ∧ Rp K H y s ∧ p.depth ≤ 10 ∧ s.depth ≤ 100 ∧ p.size ≤ 1000 ∧ m ≤ 900 ∧ (∀ i : Nat, i < m → (i : Int) ∈ p.occ) ∧
  (∀ st', mt (m : Int) p s [] = some st' → ∀ H' q ws es, Same H H' → H' q = some (.tup ws) → RpL K H' ws es → es.length = m → (∀ (i : Nat) e, es[i]? = some e → lk st' (i : Int) = some e) → Q (.ref q) H') ∧ (mt (m : Int) p s [] = none → ∀ H', Same H H' → Q .non H')
theorem ok_mi {f f2 : Addr} {fd d2 : FuncData} (F : Fun K "match_instance" "match_instance" sMatchInstance f fd) (Om : Own P w K mg base CX0 17 "matches" f2 d2 ["pattern", "shape", "count", "found"] (spMatch K 10)) (m_range : mg "range" = none) (m_tuple : mg "tuple" = none) :
    FnOk P w K mg base CX0 18 f fd ["scheme", "shape"] (spMi K) := by
  refine F.ok scMatchInstance (fun vs H Q E h => ?_) (fun cdv A outer s0 H vs Q E hr h => ?_)
  · obtain ⟨S, x, y, p, s, m, rfl, _⟩ := h
    rfl
  obtain ⟨S, x, y, p, s, m, rfl, hS, Rx, Ry, dp, ds, sz, lm, cov, qT, qF⟩ := h
  refine ⟨_, pss_cons (ps_asg (pv 0) (pg_tup rfl (pgs_cons (pg_name (i := 2) scMatchInstance.nd rfl (.inl rfl)) (pgs_cons (pg_name (i := 3) scMatchInstance.nd rfl (.inl rfl)) pgs_nil))))
      (pss_cons (ps_set (i := 4) scMatchInstance.nd rfl (.inr rfl) pe_dnewK)
      (pss_cons (ps_if (pt_not (pt_val (pe_call Om.ok hr rfl Om.at_ Om.kp Om.bd .nil pass0 (pa_cons (pv 3) (pa_cons (pv 1) (pa_cons (pv 2) (pa_cons (pv 4) pa_nil))))))) (pss_one (ps_ret pe_non)) pss_nil)
      (pss_one (ps_ret (pe_callTy call_tuple_of (by rfl) m_tuple (by decide +kernel) (pa_cons (pe_lc (own := [("index", 5)]) (g := gName 5) (tt := tYes) rfl scMatchInstance.nd (pi_range1 rfl m_range (pa_cons (pv 2) pa_nil)) (blkOk_by (own := [("index", 5)]) (N := ["scheme", "shape", "count", "pattern", "found", "index"]) (sc := defScope sMatchInstance) (by decide +kernel)) (fun _ _ _ _ _ => (pg_name (i := 5) scMatchInstance.nd rfl (.inl rfl))) (fun _ _ _ _ _ => pts_nil) (fun _ _ _ _ _ => (pe_dget (hu_of hr) (pv 4) (pv 5) (fun _ _ => rfl)))) pa_nil)))))), ?_⟩
  refine ⟨_, rfl, S, _, rfl, hS.sq, rfl, _, _, rfl, _, _, rfl, rfl, ?_⟩
  refine fun M hM => ?_
  have SM := same_upd hM (o := .dK [])
  have h0 : ([] : List (Int × D)).length = 0 := rfl
  refine ⟨_, rfl, _, rfl, _, rfl, _, rfl, x, y, p, s, _, M, [], [], rfl, Rx.same SM, Ry.same SM, upd_same, .nil, dp, ds, (fun z hz => (by cases hz)), by omega, fun st' e H2 kvs O2 hM2 ML2 => ?_, fun e H2 O2 => ?_⟩
  · have S2 : Same H H2 := fun c o ec => O2 c o (ne_of_none ec hM) (SM _ _ ec)
    have cv := (mt_ext _ _ _ _ _ e).2
    refine ⟨_, rfl, iteF ?_⟩
    refine ⟨_, rfl, (m : Int), rfl, by omega, by omega, fun L hL => ?_⟩
    have SL := same_upd hL (o := .lst [])
    refine lc_range (n := (m : Int).toNat) (fun i H' => Same H2 H' ∧ ∃ ws es, H' L = some (.lst ws) ∧ RpL K H' ws es ∧ es.length = i ∧ ∀ (j : Nat) e, es[j]? = some e → lk st' (j : Int) = some e)
      ⟨SL, [], [], upd_same, .nil, rfl, fun j e h => (by cases h)⟩ (fun i H' hi h => ?_) (fun H' h => ?_)
    · obtain ⟨S3, ws, es, hL3, RL, le, fit⟩ := h
      have hM3 := S3 _ _ hM2
      have cvi := cv (i : Int) (cov i (by omega)) (by omega)
      refine ⟨rfl, ?_⟩
      rcases ML2.get (i : Int) with ⟨g1, g2⟩ | ⟨v, e2, g1, g2, Re⟩
      · exact absurd g2 cvi
      · have dg : DGet H' M (.int (0 + (i : Int))) (some v) := by
          rw [Int.zero_add]
          have g := DGet.k (k := Sum.inl (i : Int)) hM3
          rw [g1] at g
          exact g
        have lw := RL.len
        have X := ST.lst hL3 (.lst (ws ++ [v]))
        refine ⟨_, rfl, _, rfl, M, _, rfl, dg, ws, hL3, small1000 (by omega), same_skip S3 hL, ws ++ [v], es ++ [e2], upd_same, (RL.mono X).app (.cons ((Re.same S3).mono X) .nil), by rw [List.length_append, le]; rfl, fun j e hj => ?_⟩
        by_cases hji : j < es.length
        · rw [List.getElem?_append_left hji] at hj
          exact fit j e hj
        · rw [List.getElem?_append_right (by omega)] at hj
          have hz : j - es.length = 0 := by
            have := (List.getElem?_eq_some_iff.mp hj).1
            rw [List.length_singleton] at this
            omega
          rw [hz] at hj
          cases hj
          rw [show j = i by omega]
          exact g2
    · obtain ⟨S3, ws, es, hL3, RL, le, fit⟩ := h
      refine ⟨L, ws, rfl, .inl ⟨SqL.of hL3, fun q hq => ?_⟩⟩
      have Sq := same_upd hq (o := .tup ws)
      exact qT st' e _ q ws es (S2.trans (S3.trans Sq)) upd_same (RL.same Sq) (by omega) fit
  · exact ⟨_, rfl, iteT (qF e _ fun c o ec => O2 c o (ne_of_none ec hM) (SM _ _ ec))⟩
end
end Vs

set_option Elab.async false
set_option linter.all false
set_option maxRecDepth 100000
namespace Vs
open PySem PySem.Spec PyProof.Rows L2 RT StX Vr
open C8 (pss_cut tCut)
open RZ
section
variable {P : Program} {w : World} {K : PySem.W.Frag} {mg : Str → Option Value} {base : Heap}
theorem tg_inV2 (p : D) : inV (.str p.tg) [.str "v", .str "c"] = true ↔ ¬ ((∃ as, p = .t as) ∨ ∃ a b, p = .f a b) := by
  cases p with
  | v n => exact ⟨fun _ h => (by rcases h with ⟨_, h⟩ | ⟨_, _, h⟩ <;> cases h), fun _ => show inV (.str "v") [.str "v", .str "c"] = true by decide +kernel⟩
  | c a as => exact ⟨fun _ h => (by rcases h with ⟨_, h⟩ | ⟨_, _, h⟩ <;> cases h), fun _ => show inV (.str "c") [.str "v", .str "c"] = true by decide +kernel⟩
  | t as => exact ⟨fun h => absurd h (show ¬ inV (.str "t") [.str "v", .str "c"] = true by decide +kernel), fun h => absurd (.inl ⟨_, rfl⟩) h⟩
  | f a b => exact ⟨fun h => absurd h (show ¬ inV (.str "f") [.str "v", .str "c"] = true by decide +kernel), fun h => absurd (.inr ⟨_, _, rfl⟩) h⟩
def spLm (K : PySem.W.Frag) (b : Nat) : Sp := fun vs H Q _ => ∃ (x y : V) (p s : D) (M : Addr) (ws : List V) (st : List (Int × D)), vs = [x, y, .ref M] ∧ Rp K H x p ∧ Rp K H y s ∧ H M = some (.lst ws) ∧ PrL K H ws st ∧
  p.depth ≤ b ∧ s.depth ≤ 100 ∧ (∀ z ∈ st, z.2.depth ≤ 100) ∧ st.length + p.size ≤ 90000 ∧
  (∀ st', mt 900000000 p s st = some st' → ∀ H' ws', Off M H H' → H' M = some (.lst ws') → PrL K H' ws' st' → Q (.bl true) H') ∧ (mt 900000000 p s st = none → ∀ H', Off M H H' → Q (.bl false) H')
theorem lm_none {f : Addr} {fd : FuncData} {k : Nat} : FnOk P w K mg base CX0 k f fd ["pattern", "shape", "found"] (spLm K 0) := by
  have no : ∀ vs H Q E, ¬ spLm K 0 vs H Q E := fun vs H Q E h => by
    obtain ⟨x, y, p, s, M, ws, st, _, _, _, _, _, h, _⟩ := h
    have := depth_pos p
    omega
  exact ⟨fun vs H Q E h => absurd h (no vs H Q E), fun A outer s H args us vs Q E _ _ _ _ h => absurd h (no vs H Q E)⟩
theorem ok_lm {f f3 : Addr} {fd d3 : FuncData} {n b : Nat} (F : Fun K "_law_match" "_law_match" sLawMatch f fd) (hn : 7 ≤ n) (Oq : Own P w K mg base CX0 1 "_law_parts" f3 d3 ["shape"] (spParts K)) (m_enumerate : mg "enumerate" = none) (m_len : mg "len" = none)
    (Om : Own P w K mg base CX0 n "_law_match" f fd ["pattern", "shape", "found"] (spLm K b)) : FnOk P w K mg base CX0 (n + 1) f fd ["pattern", "shape", "found"] (spLm K (b + 1)) := by
  refine F.ok scLawMatch (fun vs H Q E h => ?_) (fun cdv A outer s0 H vs Q E hr h => ?_)
  · obtain ⟨x, y, p, s, M, ws, st, rfl, _⟩ := h
    rfl
  obtain ⟨x, y, p, s, M, ws, st, rfl, Rx, Ry, hM, PL, dp, ds, dst, sz, qT, qF⟩ := h
  have hr1 := hr.mono (show 1 ≤ n by omega)
  refine ⟨_, pss_cut (ps_if (PW.pt (pw_and (pt_cmpR op_eq (pe_ix ix_tup (pv 0) pe_int (fun _ _ => rfl)) pe_str (nomark _)) (pw_and1 (pt_cmpR op_lt (pe_ix ix_tup (pv 0) pe_int (fun _ _ => rfl)) pe_int (nomark _))))) (pss_cons (ps_for PassesOwn.never rfl (pi_list (pv 2)) (pg_tup rfl (pgs_cons (pg_name (i := 3) scLawMatch.nd rfl (.inl rfl)) (pgs_cons (pg_name (i := 4) scLawMatch.nd rfl (.inl rfl)) pgs_nil))) (pss_one (ps_if (pt_cmpR op_eq (pv 3) (pe_ix ix_tup (pv 0) pe_int (fun _ _ => rfl)) (nomark _)) (pss_one (ps_ret (pe_cmpR (op_eqP (hu300 hr hn)) (pv 4) (pv 1) (nomark _)))) pss_nil)))
      (pss_cons (ps_expr (pe_bm PySem.F.plainAttrs_list PySem.F.slot_list_append PySem.F.type_list_append mt_append (pv 2) (pa_cons (pe_tup (pa_cons (pe_ix ix_tup (pv 0) pe_int (fun _ _ => rfl)) (pa_cons (pv 1) pa_nil))) pa_nil)))
      (pss_one (ps_ret pe_bl)))) pss_nil)
      (pss_cons (ps_if (PW.pt (pw_or (pt_cmpR op_ne (pe_ix ix_tup (pv 0) pe_int (fun _ _ => rfl)) (pe_ix ix_tup (pv 1) pe_int (fun _ _ => rfl)) (nomark _)) (pw_or1 (pt_cmpR op_ne (pe_callB call_len_seq (by rfl) m_len PySem.boot_len (pa_cons (pe_call Oq.ok hr1 rfl Oq.at_ Oq.kp Oq.bd .nil pass0 (pa_cons (pv 0) pa_nil)) pa_nil)) (pe_callB call_len_seq (by rfl) m_len PySem.boot_len (pa_cons (pe_call Oq.ok hr1 rfl Oq.at_ Oq.kp Oq.bd .nil pass0 (pa_cons (pv 1) pa_nil)) pa_nil)) (nomark _))))) (pss_one (ps_ret pe_bl)) pss_nil)
      (pss_cut (ps_if (PW.pt (pw_and (pt_cmpR op_in_seq (pe_ix ix_tup (pv 0) pe_int (fun _ _ => rfl)) (pe_tup (pa_cons pe_str (pa_cons pe_str pa_nil))) (by with_unfolding_all rfl)) (pw_and1 (pt_cmpR op_ne (pe_ix ix_tup (pv 0) pe_int (fun _ _ => rfl)) (pe_ix ix_tup (pv 1) pe_int (fun _ _ => rfl)) (nomark _))))) (pss_one (ps_ret pe_bl)) pss_nil)
      (pss_cons (ps_set (i := 5) scLawMatch.nd rfl (.inl rfl) (pe_call Oq.ok hr1 rfl Oq.at_ Oq.kp Oq.bd .nil pass0 (pa_cons (pv 1) pa_nil)))
      (pss_cons (ps_for PassesOwn.never rfl (pi_enumT rfl m_enumerate (pa_cons (pe_call Oq.ok hr1 rfl Oq.at_ Oq.kp Oq.bd .nil pass0 (pa_cons (pv 0) pa_nil)) pa_nil)) (pg_tup rfl (pgs_cons (pg_name (i := 6) scLawMatch.nd rfl (.inl rfl)) (pgs_cons (pg_name (i := 7) scLawMatch.nd rfl (.inl rfl)) pgs_nil))) (pss_one (ps_if (pt_not (pt_val (pe_call Om.ok hr rfl Om.at_ Om.kp Om.bd .nil pass0 (pa_cons (pv 7) (pa_cons (pe_ix ix_tup (pv 5) (pv 6) (fun _ _ => rfl)) (pa_cons (pv 2) pa_nil)))))) (pss_one (ps_ret pe_bl)) pss_nil)))
      (pss_one (ps_ret pe_bl)))))), ?_⟩
  refine ⟨fun σ' H' => σ' = [some x, some y, some (.ref M), none, none, none, none, none] ∧ H' = H ∧ ∀ k, p = .v k → ¬ k < 900000000, ?_, ?_⟩
  · obtain ⟨a, ra, rfl, ta⟩ := Rx.tag2
    refine ⟨_, rfl, a, _, _, _, rfl, rfl, ta.sq, atI_nat (j := 0) rfl, rfl, _, rfl, ite2 (fun c1 => ?_) (fun c1 => ?_)⟩
    · have k1 : p.tg = "v" := V.str.inj (of_decide_eq_true c1)
      cases Rx with
      | c h1 h2 h3 => exact absurd k1 (show ¬ (Str.ofString "c" : Str) = "v" by decide +kernel)
      | t h1 h2 h3 => exact absurd k1 (show ¬ (Str.ofString "t" : Str) = "v" by decide +kernel)
      | f h1 h2 h3 => exact absurd k1 (show ¬ (Str.ofString "f" : Str) = "v" by decide +kernel)
      | @v _ nn h1 =>
        refine ⟨_, rfl, a, _, _, _, rfl, rfl, h1.sq, atI_nat (j := 1) rfl, _, _, rfl, rfl, _, rfl, ite2 (fun c2 => ?_) (fun c2 => ?_)⟩
        · have c3 : nn < 900000000 := of_decide_eq_true c2
          have em := mt_var 900000000 nn s st c3
          have z1 : (D.v nn).size = 1 := by simp only [D.size]
          have lm := PL.len
          have pd := py_depth s
          refine ⟨_, rfl, M, rfl, ⟨_, SqL.of hM⟩, ?_⟩
          refine for_list (K := K) (a := M) (xs := ws) (fun i σ H' => H' = H ∧ (∃ y3 y4, σ = [some (.ref a), some y, some (.ref M), y3, y4, none, none, none]) ∧ lk st nn = lk (st.drop i) nn)
            ⟨rfl, ⟨_, _, rfl⟩, rfl⟩ (fun i σ H' _ h => by rw [h.1]; exact SqL.of hM) (fun i z σ H' hz h => ?_) (fun σ H' h => ?_)
          · obtain ⟨rfl, ⟨y3, y4, rfl⟩, e⟩ := h
            obtain ⟨q, num, yy, dd, rfl, hm, ht, Ryy⟩ := PL.get hz
            refine ⟨q, _, rfl, SqT.of ht, rfl, _, _, rfl, _, _, rfl, rfl, ?_⟩
            have sp := lk_step hm e
            refine ⟨_, rfl, _, rfl, a, _, _, _, rfl, rfl, h1.sq, atI_nat (j := 1) rfl, rfl, _, rfl, ite2 (fun c4 => ?_) (fun c4 => ?_)⟩
            · have n1 : num = nn := V.int.inj (of_decide_eq_true c4)
              rw [if_pos n1] at sp
              have de : dd.depth ≤ 100 := dst _ (lk_mem sp)
              have pe := py_depth dd
              rw [sp] at em
              dsimp only at em
              refine ⟨_, rfl, _, rfl, dd.py, s.py, Ryy.dp, Ry.dp, py_lay dd, py_lay s, by omega, ?_⟩
              cases q : PyData.eqv dd.py s.py with
              | true =>
                rw [q, if_pos rfl] at em
                exact qT st em _ ws Off.refl hM PL
              | false =>
                rw [q, if_neg (by decide)] at em
                exact qF em _ Off.refl
            · have n1 : ¬ num = nn := fun z => c4 (decide_eq_true (congrArg V.int z))
              rw [if_neg n1] at sp
              exact ⟨rfl, ⟨_, _, rfl⟩, sp⟩
          · obtain ⟨rfl, ⟨y3, y4, rfl⟩, e⟩ := h
            rw [lm, List.drop_length] at e
            rw [e] at em
            have em2 : mt 900000000 (.v nn) s st = some (st ++ [(nn, s)]) := em
            refine ⟨_, rfl, .inl ⟨rfl, _, SqL.of hM⟩, _, rfl, a, _, _, _, rfl, rfl, h1.sq, atI_nat (j := 1) rfl, _, rfl, zz 2, fun p1 hp1 => ?_⟩
            have S1 := same_upd hp1 (o := .tup [.int nn, y])
            have hM1 := S1 _ _ hM
            refine ⟨M, _, _, rfl, rfl, hM1, zbig (n := ws.length) (by omega), ?_⟩
            have X := ST.lst hM1 (.lst (ws ++ [.ref p1]))
            exact qT _ em2 _ (ws ++ [.ref p1]) ((Off.same S1).trans Off.upd) upd_same ((PL.mono ((ST.same S1).trans X)).app (.cons (X _ _ upd_same) (Ry.mono ((ST.same S1).trans X)) .nil))
        · refine ⟨rfl, rfl, fun k hk => ?_⟩
          cases hk
          exact fun z => c2 (decide_eq_true z)
    · refine ⟨rfl, rfl, fun k hk => ?_⟩
      rw [hk] at c1
      exact absurd (decide_eq_true rfl) c1
  rintro σ1 H1 ⟨rfl, rfl, nd⟩
  have em := mt_node 900000000 p s st nd
  obtain ⟨a, ra, rfl, ta⟩ := Rx.tag2
  obtain ⟨b', rb, rfl, tb⟩ := Ry.tag2
  refine ⟨_, rfl, a, _, _, _, rfl, rfl, ta.sq, atI_nat (j := 0) rfl, _, rfl, b', _, _, _, rfl, rfl, tb.sq, atI_nat (j := 0) rfl, rfl, _, rfl, ?_⟩
  by_cases e : p.tg = s.tg
  · rw [e, decide_eq_true rfl]
    refine iteF ?_
    refine ⟨_, rfl, _, p, rfl, Rx, fun H2 qa us S2 h2 RU => ?_⟩
    refine ⟨qa, us, rfl, .inr h2.sq, _, rfl, _, s, rfl, Ry.same S2, fun H3 qb ws2 S3 h3 RW => ?_⟩
    refine ⟨qb, ws2, rfl, .inr h3.sq, rfl, _, rfl, ?_⟩
    rw [RU.len, RW.len]
    by_cases el : p.kids.length = s.kids.length
    · rw [el, decide_eq_true rfl]
      refine iteF ?_
      have S13 := S2.trans S3
      refine ⟨fun σ' H' => σ' = [some (.ref a), some (.ref b'), some (.ref M), none, none, none, none, none] ∧ Same H1 H' ∧ p.sameHd s, ?_, ?_⟩
      · refine ⟨_, rfl, a, _, _, _, rfl, rfl, (ta.mono (ST.same S13)).sq, atI_nat (j := 0) rfl, zz 2, fun p1 hp1 => ?_⟩
        have Sp := same_upd hp1 (o := .tup [.str "v", .str "c"])
        refine ⟨p1, _, rfl, .inr (SqT.of upd_same), rfl, rfl, _, rfl, ?_⟩
        have S14 := S13.trans Sp
        by_cases c : inV (.str p.tg) [.str "v", .str "c"] = true
        · rw [show (if false = true then !inV (.str p.tg) [.str "v", .str "c"] else inV (.str p.tg) [.str "v", .str "c"]) = true from c]
          refine iteT ?_
          obtain ⟨a', n, r1, ea, t1, en⟩ := Rx.num ((tg_inV2 p).mp c)
          cases ea
          obtain ⟨b2, m, r2, eb, t2, em2⟩ := Ry.num ((tg_inV2 s).mp (by rw [← e]; exact c))
          cases eb
          refine ⟨_, rfl, a, _, _, _, rfl, rfl, (t1.mono (ST.same S14)).sq, atI_nat (j := 1) rfl, _, rfl, b', _, _, _, rfl, rfl, (t2.mono (ST.same S14)).sq, atI_nat (j := 1) rfl, rfl, _, rfl, ?_⟩
          by_cases enm : n = m
          · rw [decide_eq_true (congrArg V.int enm)]
            refine iteF ⟨rfl, S14, Prod.ext (hd_tg e) ?_, el⟩
            rw [← en, ← em2, enm]
          · rw [decide_eq_false (fun z => enm (V.int.inj z))]
            refine iteT ?_
            rw [if_neg (fun z => enm (by rw [en, em2, z.1]))] at em
            exact qF em _ (Off.same S14)
        · have c' : inV (.str p.tg) [.str "v", .str "c"] = false := by
            cases q : inV (.str p.tg) [.str "v", .str "c"] with
            | false => rfl
            | true => exact absurd q c
          rw [show (if false = true then !inV (.str p.tg) [.str "v", .str "c"] else inV (.str p.tg) [.str "v", .str "c"]) = false from c']
          refine iteF ?_
          refine iteF ?_
          refine ⟨rfl, S14, ?_, el⟩
          have tf : (∃ as, p = .t as) ∨ ∃ a b, p = .f a b := Classical.byContradiction fun z => c ((tg_inV2 p).mpr z)
          rcases tf with ⟨as, rfl⟩ | ⟨a1, b1, rfl⟩
          · cases s with
            | t bs => rfl
            | v n => exact absurd (hd_tg e) (show ¬ (2 : Int) = 0 by decide)
            | c n bs => exact absurd (hd_tg e) (show ¬ (2 : Int) = 1 by decide)
            | f a b => exact absurd (hd_tg e) (show ¬ (2 : Int) = 3 by decide)
          · cases s with
            | f a b => rfl
            | v n => exact absurd (hd_tg e) (show ¬ (3 : Int) = 0 by decide)
            | c n bs => exact absurd (hd_tg e) (show ¬ (3 : Int) = 1 by decide)
            | t bs => exact absurd (hd_tg e) (show ¬ (3 : Int) = 2 by decide)
      · clear h2 RU h3 RW S2 S3 S13
        rintro σ5 H5 ⟨rfl, S5, sh⟩
        rw [if_pos sh] at em
        refine ⟨_, rfl, _, s, rfl, Ry.same S5, fun H3 qb ws2 S3 h3 RW => ?_⟩
        refine ⟨_, rfl, _, p, rfl, (Rx.same S5).same S3, fun H4 qa us S4 h4 RU => ?_⟩
        have S14 := S5.trans (S3.trans S4)
        have hM4 := S14 _ _ hM
        have h3' := h3.mono (ST.same S4)
        have RW4 := RW.same S4
        have lu := RU.len
        have lw := RW.len
        have sk := size_kids p
        have dk := depth_kids p
        have dks := depth_kids s
        refine ⟨qa, us, rfl, h4.sq, ?_⟩
        refine for_enumT (K := K) (a := qa) (xs := us) (fun i σ' H' => ∃ (y6 y7 : Option V) (wi : List V) (sti : List (Int × D)), σ' = [some (.ref a), some (.ref b'), some (.ref M), none, none, some (.ref qb), y6, y7] ∧ Off M H4 H' ∧ H' M = some (.lst wi) ∧ PrL K H' wi sti ∧
            mtL 900000000 (p.kids.drop i) (s.kids.drop i) sti = mt 900000000 p s st ∧ sti.length + D.sizeL (p.kids.drop i) ≤ 90000 ∧ ∀ z ∈ sti, z.2.depth ≤ 100)
          ⟨_, _, ws, st, rfl, Off.refl, hM4, PL.mono (ST.same S14), em.symm, by rw [List.drop_zero]; omega, dst⟩
          (fun i σ' H' _ h => by
            obtain ⟨_, _, _, _, _, O, _⟩ := h
            exact (h4.mono (O.st hM4)).sq) (fun i u T σ' H' hu h nT => ?_) (fun σ' H' h => ?_)
        · obtain ⟨y6, y7, wi, sti, rfl, O, hMi, PLi, emi, szi, dsti⟩ := h
          obtain ⟨pi, hpi, Rpi⟩ := RU.get hu
          have hil := (List.getElem?_eq_some_iff.mp hpi).1
          obtain ⟨si, hsi⟩ : ∃ si, s.kids[i]? = some si := ⟨_, List.getElem?_eq_getElem (by rw [← sh.2]; exact hil)⟩
          obtain ⟨v, hv, Rsi⟩ := RW4.at hsi
          have ST' := same_upd nT (o := .tup [.int (i : Nat), u])
          have X := (O.st hM4).trans (ST.same ST')
          have d1 : p.kids.drop i = pi :: p.kids.drop (i + 1) := by
            obtain ⟨hi, hh⟩ := List.getElem?_eq_some_iff.mp hpi
            rw [← hh]
            exact List.drop_eq_getElem_cons hi
          have d2 : s.kids.drop i = si :: s.kids.drop (i + 1) := by
            obtain ⟨hi, hh⟩ := List.getElem?_eq_some_iff.mp hsi
            rw [← hh]
            exact List.drop_eq_getElem_cons hi
          rw [d1, d2, mtL] at emi
          rw [d1, D.sizeL] at szi
          have b1 := depthL_mem (List.mem_of_getElem? hpi)
          have b2 := depthL_mem (List.mem_of_getElem? hsi)
          refine ⟨T, _, rfl, SqT.of upd_same, rfl, _, _, rfl, _, _, rfl, rfl, ?_⟩
          refine ⟨_, rfl, _, rfl, _, rfl, qb, _, _, _, rfl, rfl, (h3'.mono X).sq, atI_nat hv, _, rfl, u, v, pi, si, M, wi, sti, rfl, Rpi.mono X, Rsi.mono X, ST' _ _ hMi, PLi.mono (ST.same ST'), by omega, by omega, dsti, by omega, fun st' e H6 w6 O6 hM6 PL6 => ?_, fun e H6 O6 => ?_⟩
          · have bd := mt_bd 900000000 100 pi si sti st' e (by omega) dsti
            refine ⟨_, rfl, iteF ?_⟩
            refine ⟨_, _, w6, st', rfl, O.trans ((Off.same ST').trans O6), hM6, PL6, ?_, by omega, bd.2⟩
            rw [← emi]
            show _ = (mt 900000000 pi si sti).bind _
            rw [e]
            rfl
          · refine ⟨_, rfl, iteT ?_⟩
            refine qF ?_ _ ((Off.same S14).trans (O.trans ((Off.same ST').trans O6)))
            rw [← emi]
            show (mt 900000000 pi si sti).bind _ = none
            rw [e]
            rfl
        · obtain ⟨y6, y7, wi, sti, rfl, O, hMi, PLi, emi, szi, dsti⟩ := h
          rw [lu, List.drop_length, mtL] at emi
          exact qT sti emi.symm _ wi ((Off.same S14).trans O) hMi PLi
    · have dn : decide (V.int (p.kids.length : Int) = V.int (s.kids.length : Int)) = false := decide_eq_false (fun z => el (by have := V.int.inj z; omega))
      rw [dn]
      refine iteT ?_
      rw [if_neg (fun z => el z.2)] at em
      exact qF em _ (Off.same (S2.trans S3))
  · rw [decide_eq_false (fun z => e (V.str.inj z))]
    refine iteT ?_
    rw [if_neg (fun z => e (tg_hd z.1))] at em
    exact qF em _ Off.refl
theorem lm_all {f f3 : Addr} {fd d3 : FuncData} (F : Fun K "_law_match" "_law_match" sLawMatch f fd) (bd : Binds K fd ["pattern", "shape", "found"] []) (at_ : mg "_law_match" = some (.ref f)) (Oq : Own P w K mg base CX0 1 "_law_parts" f3 d3 ["shape"] (spParts K)) (m_enumerate : mg "enumerate" = none) (m_len : mg "len" = none) :
    ∀ b : Nat, FnOk P w K mg base CX0 (b + 7) f fd ["pattern", "shape", "found"] (spLm K b)
  | 0 => lm_none
  | b + 1 => ok_lm F (by omega) Oq m_enumerate m_len ⟨lm_all F bd at_ Oq m_enumerate m_len b, bd, F.kp, at_⟩
end
end Vs

set_option Elab.async false
set_option linter.all false
set_option maxRecDepth 100000
namespace Vs
open PySem PySem.Spec PyProof.Rows L2 RT StX Vr
open C8 (pss_cut tCut)
open RZ
section
variable {P : Program} {w : World} {K : PySem.W.Frag} {mg : Str → Option Value} {base : Heap}
mutual
def D.leS (g : Int) : D → Prop
  | .v _ => True
  | .c s as => s ≤ g ∧ D.leSL g as
  | .t as => D.leSL g as
  | .f a b => a.leS g ∧ b.leS g
def D.leSL (g : Int) : List D → Prop
  | [] => True
  | x :: r => x.leS g ∧ D.leSL g r
end
mutual
theorem leS_mono {g h : Int} (gh : g ≤ h) : ∀ d : D, d.leS g → d.leS h
  | .v _, _ => by
    rw [D.leS]
    exact True.intro
  | .c s as, z => by
    rw [D.leS] at z ⊢
    exact ⟨Int.le_trans z.1 gh, leSL_mono gh as z.2⟩
  | .t as, z => by
    rw [D.leS] at z ⊢
    exact leSL_mono gh as z
  | .f a b, z => by
    rw [D.leS] at z ⊢
    exact ⟨leS_mono gh a z.1, leS_mono gh b z.2⟩
theorem leSL_mono {g h : Int} (gh : g ≤ h) : ∀ as : List D, D.leSL g as → D.leSL h as
  | [], _ => by
    rw [D.leSL]
    exact True.intro
  | x :: r, z => by
    rw [D.leSL] at z ⊢
    exact ⟨leS_mono gh x z.1, leSL_mono gh r z.2⟩
end
theorem leSL_app {g : Int} : ∀ a b : List D, D.leSL g a → D.leSL g b → D.leSL g (a ++ b)
  | [], b, _, h => h
  | x :: r, b, z, h => by
    rw [D.leSL] at z
    rw [List.cons_append, D.leSL]
    exact ⟨z.1, leSL_app r b z.2 h⟩
mutual
theorem leS_stp {g : Int} {f : Int → Option Int} (hf : ∀ s, s ≤ g → f s = none) : ∀ d : D, d.leS g → d.stp f
  | .v _, _ => by
    rw [D.stp]
    exact True.intro
  | .c s as, z => by
    rw [D.leS] at z
    rw [D.stp]
    exact ⟨hf s z.1, leSL_stp hf as z.2⟩
  | .t as, z => by
    rw [D.leS] at z
    rw [D.stp]
    exact leSL_stp hf as z
  | .f a b, z => by
    rw [D.leS] at z
    rw [D.stp]
    exact ⟨leS_stp hf a z.1, leS_stp hf b z.2⟩
theorem leSL_stp {g : Int} {f : Int → Option Int} (hf : ∀ s, s ≤ g → f s = none) : ∀ as : List D, D.leSL g as → D.stpL f as
  | [], _ => by
    rw [D.stpL]
    exact True.intro
  | x :: r, z => by
    rw [D.leSL] at z
    rw [D.stpL]
    exact ⟨leS_stp hf x z.1, leSL_stp hf r z.2⟩
end
/-- g is at least the stamp of the node itself -/
def D.ownS (g : Int) : D → Prop
  | .c s _ => s ≤ g
  | _ => True
theorem leS_node {g : Int} : ∀ d : D, d.ownS g → D.leSL g d.kids → d.leS g
  | .v _, _, _ => by
    rw [D.leS]
    exact True.intro
  | .c s as, h, z => by
    rw [D.leS]
    exact ⟨h, z⟩
  | .t as, _, z => by
    rw [D.leS]
    exact z
  | .f a b, _, z => by
    rw [D.kids, D.leSL, D.leSL] at z
    rw [D.leS]
    exact ⟨z.1, z.2.1⟩
theorem ownS_mono {g h : Int} (gh : g ≤ h) : ∀ d : D, d.ownS g → d.ownS h
  | .v _, _ => True.intro
  | .c s as, z => Int.le_trans z gh
  | .t as, _ => True.intro
  | .f a b, _ => True.intro
def spGs (K : PySem.W.Frag) (b : Nat) : Sp := fun vs H Q _ => ∃ (x : V) (d : D), vs = [x] ∧ Rp K H x d ∧ d.depth ≤ b ∧ ∀ H' g, Same H H' → d.leS g → Q (.int g) H'
theorem gs_none {f : Addr} {fd : FuncData} {k : Nat} : FnOk P w K mg base CX0 k f fd ["shape"] (spGs K 0) := by
  have no : ∀ vs H Q E, ¬ spGs K 0 vs H Q E := fun vs H Q E h => by
    obtain ⟨x, d, _, _, h, _⟩ := h
    have := depth_pos d
    omega
  exact ⟨fun vs H Q E h => absurd h (no vs H Q E), fun A outer s H args us vs Q E _ _ _ _ h => absurd h (no vs H Q E)⟩
theorem ok_gs {f f3 : Addr} {fd d3 : FuncData} {n b : Nat} (F : Fun K "greatest_stamp" "greatest_stamp" sGreatestStamp f fd) (hn : 1 ≤ n) (Oq : Own P w K mg base CX0 1 "parts_of_shape" f3 d3 ["shape"] (spParts K)) (m_max : mg "max" = none)
    (Og : Own P w K mg base CX0 n "greatest_stamp" f fd ["shape"] (spGs K b)) : FnOk P w K mg base CX0 (n + 1) f fd ["shape"] (spGs K (b + 1)) := by
  refine F.ok scGreatestStamp (fun vs H Q E h => ?_) (fun cdv A outer s0 H vs Q E hr h => ?_)
  · obtain ⟨x, d, rfl, _⟩ := h
    rfl
  obtain ⟨x, d, rfl, R, dp, q⟩ := h
  have hr1 := hr.mono hn
  refine ⟨_, pss_cut (ps_set (i := 1) scGreatestStamp.nd rfl (.inl rfl) (pe_ifExp (pt_cmpR op_eq (pe_ix ix_tup (pv 0) pe_int (fun _ _ => rfl)) pe_str (nomark _)) (pe_ix ix_tup (pv 0) pe_int (fun _ _ => rfl)) (pe_un un_neg pe_int)))
      (pss_cons (ps_for PassesOwn.never rfl (pi_tup (pe_call Oq.ok hr1 rfl Oq.at_ Oq.kp Oq.bd .nil pass0 (pa_cons (pv 0) pa_nil))) (pg_name (i := 2) scGreatestStamp.nd rfl (.inl rfl)) (pss_one (ps_set (i := 1) scGreatestStamp.nd rfl (.inl rfl) (pe_callB (call_max2 rfl) (by rfl) m_max (by decide +kernel) (pa_cons (pv 1) (pa_cons (pe_call Og.ok hr rfl Og.at_ Og.kp Og.bd .nil pass0 (pa_cons (pv 2) pa_nil)) pa_nil))))))
      (pss_one (ps_ret (pv 1)))), ?_⟩
  refine ⟨fun σ' H' => ∃ g : Int, σ' = [some x, some (.int g), none] ∧ H' = H ∧ d.ownS g, ?_, ?_⟩
  · obtain ⟨a, ra, rfl, ta⟩ := R.tag2
    refine ⟨_, rfl, a, _, _, _, rfl, rfl, ta.sq, atI_nat (j := 0) rfl, rfl, _, rfl, ite2 (fun c1 => ?_) (fun c1 => ?_)⟩
    · have k1 : d.tg = "c" := V.str.inj (of_decide_eq_true c1)
      cases R with
      | v h1 => exact absurd k1 (show ¬ (Str.ofString "v" : Str) = "c" by decide +kernel)
      | t h1 h2 h3 => exact absurd k1 (show ¬ (Str.ofString "t" : Str) = "c" by decide +kernel)
      | f h1 h2 h3 => exact absurd k1 (show ¬ (Str.ofString "f" : Str) = "c" by decide +kernel)
      | @c _ _ s _ _ h1 h2 h3 => exact ⟨_, rfl, a, _, _, _, rfl, rfl, h1.sq, atI_nat (j := 1) rfl, s, rfl, rfl, Int.le_refl _⟩
    · refine ⟨_, rfl, -1, rfl, rfl, ?_⟩
      cases d with
      | c s as => exact absurd (decide_eq_true rfl) c1
      | v n => exact True.intro
      | t as => exact True.intro
      | f x y => exact True.intro
  rintro σ1 H1 ⟨g0, rfl, rfl, ow⟩
  have dk := depth_kids d
  refine ⟨_, rfl, x, d, rfl, R, fun H2 qa us S2 h2 RU => ?_⟩
  refine ⟨qa, rfl, ⟨_, h2.sq⟩, ?_⟩
  refine for_tup (K := K) (a := qa) (xs := us) (fun i σ' H' => ∃ (g : Int) (y2 : Option V), σ' = [some x, some (.int g), y2] ∧ Same H2 H' ∧ d.ownS g ∧ D.leSL g (d.kids.take i))
    ⟨g0, _, rfl, Same.refl _, ow, by rw [List.take_zero, D.leSL]; exact True.intro⟩ (fun i σ' H' _ h => by obtain ⟨_, _, _, S, _⟩ := h; exact (h2.mono (ST.same S)).sq) (fun i z σ' H' hz h => ?_) (fun σ' H' h => ?_)
  · obtain ⟨g, y2, rfl, S3, ow, le⟩ := h
    obtain ⟨e, he, Re⟩ := RU.get hz
    have a6 := depthL_mem (List.mem_of_getElem? he)
    refine ⟨_, rfl, _, rfl, z, e, rfl, Re.same S3, by omega, fun H4 g2 S4 l2 => ?_⟩
    refine ⟨_, _, rfl, ?_⟩
    have m1 : g ≤ (if g2 > g then g2 else g) := by split <;> omega
    have m2 : g2 ≤ (if g2 > g then g2 else g) := by split <;> omega
    refine ⟨_, _, rfl, S3.trans S4, ownS_mono m1 d ow, ?_⟩
    rw [List.take_add_one, he]
    refine leSL_app _ _ (leSL_mono m1 _ le) ?_
    show D.leSL _ [e]
    rw [D.leSL, D.leSL]
    exact ⟨leS_mono m2 e l2, True.intro⟩
  · obtain ⟨g, y2, rfl, S3, ow, le⟩ := h
    rw [RU.len, List.take_length] at le
    exact ⟨_, rfl, q _ g (S2.trans S3) (leS_node d ow le)⟩
theorem gs_all {f f3 : Addr} {fd d3 : FuncData} (F : Fun K "greatest_stamp" "greatest_stamp" sGreatestStamp f fd) (bd : Binds K fd ["shape"] []) (at_ : mg "greatest_stamp" = some (.ref f)) (Oq : Own P w K mg base CX0 1 "parts_of_shape" f3 d3 ["shape"] (spParts K)) (m_max : mg "max" = none) :
    ∀ b : Nat, FnOk P w K mg base CX0 (b + 1) f fd ["shape"] (spGs K b)
  | 0 => gs_none
  | b + 1 => ok_gs F (by omega) Oq m_max ⟨gs_all F bd at_ Oq m_max b, bd, F.kp, at_⟩
end
end Vs

set_option Elab.async false
set_option linter.all false
set_option maxRecDepth 100000
namespace Vs
open PySem PySem.Spec PyProof.Rows L2 RT StX Vr
open C8 (pss_cut tCut)
open RZ
section
variable {P : Program} {w : World} {K : PySem.W.Frag} {mg : Str → Option Value} {base : Heap}
def spAl (K : PySem.W.Frag) : Sp := fun vs H Q _ => ∃ (S O : Addr) (x y : V) (pA pB : D) (mA mB : Nat), vs = [.ref S, .ref O] ∧ TA K H S [.int (mA : Int), x] ∧ TA K H O [.int (mB : Int), y] ∧ Rp K H x pA ∧ Rp K H y pB ∧ Norm mA pA ∧ Norm mB pB ∧ mA ≤ 10 ∧ mB ≤ 10 ∧ pA.size ≤ 900 ∧ pB.size ≤ 900 ∧ pA.depth ≤ 10 ∧ pB.depth ≤ 10 ∧
  (Gen mA pA pB → ∀ H', Same H H' → Q (.bl true) H') ∧ (¬ Gen mA pA pB → ∀ H', Same H H' → Q (.bl false) H')
theorem range_step (i : Nat) (F : Int) : ((List.range (i + 1)).map fun k : Nat => D.c (F + (k : Int)) []) = ((List.range i).map fun k : Nat => D.c (F + (k : Int)) []) ++ [D.c (F + (i : Int)) []] := by
  rw [List.range_succ, List.map_append]
  rfl
theorem norm_cov {m : Nat} {p : D} (n : Norm m p) {i : Nat} (h : i < m) : (i : Int) ∈ p.occ := by
  have : (i : Int) ∈ iota m := iota_mem.mpr ⟨by omega, by omega⟩
  rw [← n.gen] at this
  exact vars_mem.mp (List.mem_filter.mp this).1
theorem kap_idx {m : Nat} {F : Int} {q : D} (hq : ∀ k ∈ q.occ, (0 ≤ k ∧ k < (m : Int)) ∨ 1000000 ≤ k) (lm : m ≤ 1000000) : q.sub (lk (idx 0 ((List.range m).map fun k : Nat => D.c (F + (k : Int)) []))) = q.sub (kap m fun n => F + n) := by
  have ll : ((List.range m).map fun k : Nat => D.c (F + (k : Int)) []).length = m := by rw [List.length_map, List.length_range]
  refine sub_congr q fun n hn => ?_
  unfold kap
  rcases hq n hn with h | h
  · rw [if_pos h]
    have hi : n.toNat < m := by omega
    have e : ((List.range m).map fun k : Nat => D.c (F + (k : Int)) [])[n.toNat]? = some (.c (F + ((n.toNat : Nat) : Int)) []) := by
      rw [List.getElem?_map, List.getElem?_range hi]
      rfl
    have := lk_idx (k := 0) e
    rw [show ((0 + n.toNat : Nat) : Int) = n by omega, show ((n.toNat : Nat) : Int) = n by omega] at this
    exact this
  · rw [if_neg (by omega)]
    cases z : lk (idx 0 ((List.range m).map fun k : Nat => D.c (F + (k : Int)) [])) n with
    | none => rfl
    | some e =>
      have := (idx_key _ _ _ (lk_mem z)).2.1
      rw [ll] at this
      have t2 : n < ((0 + m : Nat) : Int) := this
      omega
theorem kap_size (m : Nat) (g : Int → Int) (q : D) : (q.sub (kap m g)).size ≤ q.size ∧ (q.sub (kap m g)).depth ≤ q.depth := by
  have e1 : ∀ n e, kap m g n = some e → e.size = 1 ∧ e.depth = 1 := by
    intro n e h
    unfold kap at h
    split at h
    · cases h
      exact ⟨by simp only [D.size, D.sizeL], by simp only [D.depth, D.depthL]⟩
    · cases h
  have a := size_sub_le (kap m g) 1 (by decide) (fun n e h => by rw [(e1 n e h).1]; omega) q
  have b := depth_sub_one (kap m g) 1 (by decide) (fun n e h => by rw [(e1 n e h).2]; omega) q
  omega
theorem ok_al {f f2 f3 f4 C : Addr} {fd d2 d3 d4 : FuncData} (F : Fun K "at_least_as_general" "at_least_as_general" sAtLeastAsGeneral f fd) (Og : Own P w K mg base CX0 11 "greatest_stamp" f2 d2 ["shape"] (spGs K 10)) (Oin : Own P w K mg base (L2.CX P w) 103 "instantiate" f3 d3 ["scheme", "shapes"] (spInst K C))
    (Omi : Own P w K mg base CX0 18 "match_instance" f4 d4 ["scheme", "shape"] (spMi K)) (m_max : mg "max" = none) (m_range : mg "range" = none) : FnOk P w K mg base CX0 104 f fd ["scheme", "other"] (spAl K) := by
  refine F.ok scAtLeastAsGeneral (fun vs H Q E h => ?_) (fun cdv A outer s0 H vs Q E hr h => ?_)
  · obtain ⟨S, O, x, y, pA, pB, mA, mB, rfl, _⟩ := h
    rfl
  obtain ⟨S, O, x, y, pA, pB, mA, mB, rfl, hS, hO, Rx, Ry, nA, nB, lA, lB, zA, zB, dA, dB, qT, qF⟩ := h
  have hr11 := hr.mono (show 11 ≤ 103 by decide)
  have hr18 := hr.mono (show 18 ≤ 103 by decide)
  have hr103 := hr
  refine ⟨_, pss_cons (ps_asg (pv 1) (pg_tup rfl (pgs_cons (pg_name (i := 2) scAtLeastAsGeneral.nd rfl (.inl rfl)) (pgs_cons (pg_name (i := 3) scAtLeastAsGeneral.nd rfl (.inl rfl)) pgs_nil))))
      (pss_cons (ps_set (i := 4) scAtLeastAsGeneral.nd rfl (.inr rfl) (pe_op op_add pe_int (pe_callB (call_max2 rfl) (by rfl) m_max (by decide +kernel) (pa_cons (pe_call Og.ok hr11 rfl Og.at_ Og.kp Og.bd .nil pass0 (pa_cons (pe_ix ix_tup (pv 0) pe_int (fun _ _ => rfl)) pa_nil)) (pa_cons (pe_call Og.ok hr11 rfl Og.at_ Og.kp Og.bd .nil pass0 (pa_cons (pv 3) pa_nil)) pa_nil)))))
      (pss_cons (ps_setLc (i := 5) (own := [("index", 6)]) (g := gName 6) (tt := tYes) rfl scAtLeastAsGeneral.nd rfl rfl (sw_true rfl rfl rfl (by decide +kernel)) (pi_range1 rfl m_range (pa_cons (pv 2) pa_nil)) (blkOk_by (own := [("index", 6)]) (N := ["scheme", "other", "count", "shape", "first", "constants", "index"]) (sc := defScope sAtLeastAsGeneral) (by decide +kernel)) (fun _ _ _ _ _ => (pg_name (i := 6) scAtLeastAsGeneral.nd rfl (.inl rfl))) (fun _ _ _ _ _ => pts_nil) (fun _ _ _ _ _ => (pe_tup (pa_cons pe_str (pa_cons (pe_op op_add (pv 4) (pv 6)) (pa_cons (pe_tup pa_nil) pa_nil))))))
      (pss_one (ps_ret (pe_cmpR op_notN (pe_call Omi.ok hr18 rfl Omi.at_ Omi.kp Omi.bd .nil pass0 (pa_cons (pv 0) (pa_cons (pe_call Oin.ok hr103 rfl Oin.at_ Oin.kp Oin.bd .nil passL (pa_cons (pv 1) (pa_cons (pv 5) pa_nil))) pa_nil))) pe_non (nomark _)))))), ?_⟩
  refine ⟨_, rfl, O, _, rfl, hO.sq, rfl, _, _, rfl, _, _, rfl, rfl, ?_⟩
  refine ⟨_, rfl, S, _, _, _, rfl, rfl, hS.sq, atI_nat (j := 1) rfl, x, pA, rfl, Rx, dA, fun H2 g1 S2 l1 => ⟨_, rfl, y, pB, rfl, Ry.same S2, dB, fun H3 g2 S3 l2 => ?_⟩⟩
  refine ⟨_, _, rfl, _, _, rfl, rfl, ?_⟩
  have S13 := S2.trans S3
  have m1 : g1 ≤ (if g2 > g1 then g2 else g1) := by split <;> omega
  have m2 : g2 ≤ (if g2 > g1 then g2 else g1) := by split <;> omega
  refine ⟨_, rfl, (mB : Int), rfl, by omega, by omega, fun L hL => ?_⟩
  generalize hG : (if g2 > g1 then g2 else g1) = G at m1 m2
  have SL := same_upd hL (o := .lst [])
  refine lc_range (n := (mB : Int).toNat) (fun i H' => Same H3 H' ∧ ∃ ws, H' L = some (.lst ws) ∧ RpL K H' ws ((List.range i).map fun k : Nat => D.c ((1 + G) + (k : Int)) []))
    ⟨SL, [], upd_same, .nil⟩ (fun i H' hi h => ?_) (fun H' h => ?_)
  · obtain ⟨S4, ws, hL4, RL⟩ := h
    have lw := RL.len
    rw [List.length_map, List.length_range] at lw
    refine ⟨rfl, ?_⟩
    refine ⟨_, rfl, _, rfl, _, _, rfl, rfl, zz 0, fun p1 h1 => ⟨zz 3, fun p2 h2 => ?_⟩⟩
    have U1 := same_upd h1 (o := .tup [])
    have U2 := same_upd h2 (o := .tup [.str "c", .int ((1 + G) + (0 + (i : Int))), .ref p1])
    have hL5 := U2 _ _ (U1 _ _ hL4)
    have X := ST.lst hL5 (.lst (ws ++ [.ref p2]))
    refine ⟨ws, hL5, small1000 (by omega), same_skip (S4.trans (U1.trans U2)) hL, ws ++ [.ref p2], upd_same, ?_⟩
    rw [range_step]
    refine (RL.mono ((ST.same (U1.trans U2)).trans X)).app (.cons (.c (.of ?_) (.of (X _ _ (U2 _ _ upd_same))) .nil) .nil)
    rw [X _ _ upd_same, Int.zero_add]
  obtain ⟨S4, ws, hL4, RL⟩ := h
  rw [show ((mB : Int).toNat) = mB from Int.toNat_natCast mB] at RL
  have S14 := S13.trans S4
  have ki := kap_idx (F := 1 + G) (q := pB) nB.occ (by omega)
  obtain ⟨ks1, ks2⟩ := kap_size mB (fun n => (1 + G) + n) pB
  have nbk : ¬ big (pB.sub (kap mB fun n => (1 + G) + n)) := by
    rintro (c | c) <;> omega
  have gm := gen_match (mA := mA) (mB := mB) (pA := pA) (pB := pB) (g := fun n => (1 + G) + n) (f := fun s => if 1 + G ≤ s then some (s - (1 + G)) else none)
    (fun k hk => (nA.occ k hk).imp (fun z => z.2) (fun z => ⟨by omega, by omega⟩)) (fun n h0 h1 => by
      show (if 1 + G ≤ 1 + G + n then some (1 + G + n - (1 + G)) else none) = some n
      rw [if_pos (by omega)]
      congr 1
      omega) (leS_stp (g := G) (fun s hs => if_neg (by omega)) pA (leS_mono m1 pA l1)) (leS_stp (g := G) (fun s hs => if_neg (by omega)) pB (leS_mono m2 pB l2))
  refine ⟨_, rfl, _, rfl, _, rfl, O, L, (mB : Int), y, pB, ws, _, rfl, hO.mono (ST.same S14), Ry.same S14, SqL.of hL4, RL, zB, fun e he => ?_, by rw [List.length_map, List.length_range]; omega, by rw [ki]; exact fun hb => absurd hb nbk, fun _ H5 v5 S5 R5 => ?_⟩
  · obtain ⟨k, _, rfl⟩ := List.mem_map.mp he
    simp only [D.size, D.sizeL]
    omega
  rw [ki] at R5
  have S15 := S14.trans S5
  refine ⟨S, x, v5, pA, _, mA, rfl, hS.mono (ST.same S15), Rx.same S15, R5, dA, by omega, by omega, by omega, fun i hi => norm_cov nA hi, fun st' e H6 qq wq fs S6 _ _ _ _ => ?_, fun e H6 S6 => ?_⟩
  · exact ⟨rfl, qT (gm.mp ⟨st', e⟩) _ (S15.trans S6)⟩
  · refine ⟨rfl, qF (fun z => ?_) _ (S15.trans S6)⟩
    obtain ⟨st, hst⟩ := gm.mpr z
    rw [hst] at e
    cases e
end
end Vs

set_option Elab.async false
set_option linter.all false
set_option maxRecDepth 100000
namespace Vs
open PySem PySem.Spec PyProof.Rows L2 RT StX Vr
open C8 (pss_cut tCut)
open RZ
section
variable {P : Program} {w : World} {K : PySem.W.Frag} {mg : Str → Option Value} {base : Heap}
theorem numb_snoc (a : List Int) (n : Int) : numb 0 (a ++ [n]) = numb 0 a ++ [(n, .v (a.length : Int))] := by
  rw [numb_app, Nat.zero_add]
  rfl
def spLsch (K : PySem.W.Frag) : Sp := fun vs H Q _ => ∃ (x : V) (d : D), vs = [x] ∧ Rp K H x d ∧ d.size ≤ 900 ∧ d.depth ≤ 10 ∧
  ∀ H' p v', Same H H' → H' p = some (.tup [.int ((ungx [1000009] d).length : Int), v']) → Rp K H' v' (schx [1000009] d) → Q (.ref p) H'
theorem ok_lsch {f f2 f3 : Addr} {fd d2 d3 : FuncData} (F : Fun K "_law_scheme" "_law_scheme" sLawScheme f fd) (Ov : Own P w K mg base CX0 11 "_law_variables" f2 d2 ["shape", "found"] (spLv K 10)) (Oa : Own P w K mg base CX0 13 "_law_apply" f3 d3 ["shape", "pairs"] (spApply K 12)) (m_len : mg "len" = none) :
    FnOk P w K mg base CX0 14 f fd ["shape"] (spLsch K) := by
  refine F.ok scLawScheme (fun vs H Q E h => ?_) (fun cdv A outer s H vs Q E hr h => ?_)
  · obtain ⟨x, d, rfl, _⟩ := h
    rfl
  obtain ⟨x, d, rfl, R, sz, dp, q⟩ := h
  have hr11 := hr.mono (show 11 ≤ 13 by decide)
  refine ⟨_, pss_cons (ps_set (i := 1) scLawScheme.nd rfl (.inl rfl) (pe_lst pa_nil))
      (pss_cons (ps_for PassesOwn.never rfl (pi_list (pe_call Ov.ok hr11 rfl Ov.at_ Ov.kp Ov.bd .nil pass0 (pa_cons (pv 0) (pa_cons (pe_lst pa_nil) pa_nil)))) (pg_name (i := 2) scLawScheme.nd rfl (.inl rfl)) (pss_one (ps_if (pt_cmpR op_ne (pv 2) pe_int (nomark _)) (pss_one (ps_expr (pe_bm PySem.F.plainAttrs_list PySem.F.slot_list_append PySem.F.type_list_append mt_append (pv 1) (pa_cons (pe_tup (pa_cons (pv 2) (pa_cons (pe_tup (pa_cons pe_str (pa_cons (pe_callB call_len_seq (by rfl) m_len PySem.boot_len (pa_cons (pv 1) pa_nil)) pa_nil))) pa_nil))) pa_nil)))) pss_nil)))
      (pss_one (ps_ret (pe_tup (pa_cons (pe_callB call_len_seq (by rfl) m_len PySem.boot_len (pa_cons (pv 1) pa_nil)) (pa_cons (pe_call Oa.ok hr rfl Oa.at_ Oa.kp Oa.bd .nil pass0 (pa_cons (pv 0) (pa_cons (pv 1) pa_nil))) pa_nil)))))), ?_⟩
  refine ⟨zz 0, fun L hL => ?_⟩
  have SL := same_upd hL (o := .lst [])
  refine ⟨_, rfl, zz 0, fun M hM => ?_⟩
  have SM := same_upd hM (o := .lst [])
  have nLM : L ≠ M := ne_of_none upd_same hM
  have h0 : ([] : List Int).length = 0 := rfl
  refine ⟨x, d, M, [], rfl, R.same (SL.trans SM), upd_same, by omega, by omega, fun H2 O2 hM2 => ?_⟩
  have hM2' : H2 M = some (.lst (d.vars.map V.int)) := hM2
  have nM : H M = none := SL.free hM
  have S2 : Same H H2 := fun c o e => O2 c o (ne_of_none e nM) (SM _ _ (SL _ _ e))
  have hL2 : H2 L = some (.lst []) := O2 _ _ nLM (SM _ _ upd_same)
  have nL : H L = none := hL
  have vl := vars_len d
  refine ⟨M, rfl, ⟨_, SqL.of hM2'⟩, ?_⟩
  refine for_list (K := K) (a := M) (xs := d.vars.map V.int) (fun i σ' H' => ∃ (y2 : Option V) (ws : List V), σ' = [some x, some (.ref L), y2] ∧ Same H H' ∧ H' L = some (.lst ws) ∧ PrL K H' ws (numb 0 ((d.vars.take i).filter fun z => !decide (z ∈ ([1000009] : List Int)))) ∧ H' M = some (.lst (d.vars.map V.int)))
    ⟨_, [], rfl, S2, hL2, .nil, hM2'⟩ (fun i σ' H' _ h => by obtain ⟨_, _, _, _, _, _, h⟩ := h; exact SqL.of h) (fun i z σ' H' hz h => ?_) (fun σ' H' h => ?_)
  · obtain ⟨y2, ws, rfl, S3, hL3, PL, hM3⟩ := h
    obtain ⟨n, hn, rfl⟩ := int_get hz
    have lw := PL.len
    rw [numb_len] at lw
    have lf := List.length_filter_le (fun z => !decide (z ∈ ([1000009] : List Int))) (d.vars.take i)
    rw [List.length_take] at lf
    refine ⟨_, rfl, rfl, _, rfl, ?_⟩
    by_cases c : n = 1000009
    · have c2 : (!decide (n ∈ ([1000009] : List Int))) = false := by rw [c]; rfl
      rw [decide_eq_true (congrArg V.int c)]
      refine iteF ⟨_, ws, rfl, S3, hL3, ?_, hM3⟩
      rw [filt_step hn, if_neg (by rw [c2]; decide), List.append_nil]
      exact PL
    · have c2 : (!decide (n ∈ ([1000009] : List Int))) = true := by
        rw [decide_eq_false (fun z => c (List.mem_singleton.mp z))]
        rfl
      rw [decide_eq_false (fun z => c (V.int.inj z))]
      refine iteT ?_
      refine ⟨_, rfl, .inl ⟨rfl, _, SqL.of hL3⟩, _, rfl, _, rfl, L, ws, rfl, .inl (SqL.of hL3), zz 2, fun p1 hp1 => ⟨zz 2, fun p2 hp2 => ?_⟩⟩
      have S1 := same_upd hp1 (o := .tup [.str "v", .int (ws.length : Int)])
      have S2 := same_upd hp2 (o := .tup [.int n, .ref p1])
      have hL4 := S2 _ _ (S1 _ _ hL3)
      refine ⟨L, _, _, rfl, rfl, hL4, zbig (n := ws.length) (by omega), ?_⟩
      have X := ST.lst hL4 (.lst (ws ++ [.ref p2]))
      refine ⟨_, ws ++ [.ref p2], rfl, same_skip (S3.trans (S1.trans S2)) nL, upd_same, ?_, ?_⟩
      · rw [filt_step hn, if_pos c2, numb_snoc, ← lw]
        exact (PL.mono ((ST.same (S1.trans S2)).trans X)).app (.cons (X _ _ upd_same) (.v (.of (X _ _ (S2 _ _ upd_same)))) .nil)
      · rw [upd_ne nLM.symm]
        exact S2 _ _ (S1 _ _ hM3)
  · obtain ⟨y2, ws, rfl, S3, hL3, PL, hM3⟩ := h
    rw [List.length_map, List.take_length] at PL
    have lw := PL.len
    rw [numb_len] at lw
    refine ⟨_, rfl, L, ws, rfl, .inl (SqL.of hL3), _, rfl, _, rfl, x, d, L, ws, _, rfl, R.same S3, SqL.of hL3, PL, by omega, by omega, fun H5 v5 S5 R5 => ⟨zz 2, fun p hp => ?_⟩⟩
    have S6 := same_upd hp (o := .tup [.int (ws.length : Int), v5])
    refine q _ p v5 (S3.trans (S5.trans S6)) ?_ (R5.same S6)
    rw [upd_same, lw]
    rfl
def pr7 (m : Nat) : List (Int × D) := (List.range m).map fun k : Nat => ((k : Int), D.c (700 + (k : Int)) [])
theorem pr7_step (i : Nat) : pr7 (i + 1) = pr7 i ++ [((i : Int), D.c (700 + (i : Int)) [])] := by
  unfold pr7
  rw [List.range_succ, List.map_append]
  rfl
theorem lk_pr7 {m : Nat} (n : Int) : lk (pr7 m) n = kap m (fun k => 700 + k) n := by
  induction m with
  | zero =>
    unfold kap
    rw [if_neg (by omega)]
    rfl
  | succ m ih =>
    rw [pr7_step, lk_snoc, ih]
    unfold kap
    by_cases h : 0 ≤ n ∧ n < (m : Int)
    · rw [if_pos h]
      show some (D.c (700 + n) []) = if 0 ≤ n ∧ n < ((m + 1 : Nat) : Int) then some (D.c (700 + n) []) else none
      rw [if_pos ⟨h.1, by omega⟩]
    · rw [if_neg h]
      show (if (m : Int) = n then some (D.c (700 + (m : Int)) []) else none) = _
      by_cases e : (m : Int) = n
      · rw [if_pos e, if_pos (by omega), e]
      · rw [if_neg e, if_neg (by omega)]
theorem law_consts {m : Nat} {q : D} (lm : m ≤ 1000) : q.sub (lk (pr7 m ++ [(1000009, .c 777 [])])) = (q.sub mu).sub (kap m fun n => 700 + n) := by
  rw [sub_comp (f := mu) (g := kap m fun n => 700 + n) (h := lk (pr7 m ++ [(1000009, .c 777 [])])) (fun n => ?_) q]
  rw [lk_snoc, lk_pr7]
  unfold mu
  by_cases h : n = 1000009
  · rw [if_pos h]
    have : kap m (fun k => 700 + k) n = none := by
      unfold kap
      rw [if_neg (by omega)]
    rw [this]
    show (if (1000009 : Int) = n then some (D.c 777 []) else none) = some ((D.c 777 []).sub _)
    rw [if_pos h.symm, D.sub, D.subL]
  · rw [if_neg h]
    cases kap m (fun k => 700 + k) n with
    | some e => rfl
    | none =>
      show (if (1000009 : Int) = n then some (D.c 777 []) else none) = none
      rw [if_neg (fun z => h z.symm)]
theorem mu_lk (q : D) : q.sub (lk [(1000009, .c 777 [])]) = q.sub mu := by
  refine sub_congr q fun n _ => ?_
  unfold mu
  by_cases h : n = 1000009
  · rw [if_pos h, lk_pos h.symm]
  · rw [if_neg h, lk_neg (fun z => h z.symm)]
    rfl
theorem mu_size (q : D) : (q.sub mu).size ≤ q.size ∧ (q.sub mu).depth ≤ q.depth := by
  have e1 : ∀ n e, mu n = some e → e.size = 1 ∧ e.depth = 1 := by
    intro n e h
    unfold mu at h
    split at h
    · cases h
      exact ⟨by simp only [D.size, D.sizeL], by simp only [D.depth, D.depthL]⟩
    · cases h
  have a := size_sub_le mu 1 (by decide) (fun n e h => by rw [(e1 n e h).1]; omega) q
  have b := depth_sub_one mu 1 (by decide) (fun n e h => by rw [(e1 n e h).2]; omega) q
  omega
def spLg (K : PySem.W.Frag) : Sp := fun vs H Q _ => ∃ (S O : Addr) (x y : V) (pA pB : D) (mA mB : Nat), vs = [.ref S, .ref O] ∧ TA K H S [.int (mA : Int), x] ∧ TA K H O [.int (mB : Int), y] ∧ Rp K H x pA ∧ Rp K H y pB ∧ (∀ k ∈ pA.occ, (0 ≤ k ∧ k < (mA : Int)) ∨ k = 1000009) ∧ Low pA ∧ Low pB ∧ mA ≤ 10 ∧ mB ≤ 10 ∧ pA.size ≤ 900 ∧ pB.size ≤ 900 ∧ pA.depth ≤ 10 ∧ pB.depth ≤ 10 ∧
  (Gen mA pA pB → ∀ H', Same H H' → Q (.bl true) H') ∧ (¬ Gen mA pA pB → ∀ H', Same H H' → Q (.bl false) H')
theorem ok_lg {f f2 f3 : Addr} {fd d2 d3 : FuncData} (F : Fun K "_law_general" "_law_general" sLawGeneral f fd) (Oa : Own P w K mg base CX0 13 "_law_apply" f2 d2 ["shape", "pairs"] (spApply K 12)) (Om : Own P w K mg base CX0 19 "_law_match" f3 d3 ["pattern", "shape", "found"] (spLm K 12)) (m_range : mg "range" = none) :
    FnOk P w K mg base CX0 20 f fd ["one", "other"] (spLg K) := by
  refine F.ok scLawGeneral (fun vs H Q E h => ?_) (fun cdv A outer s0 H vs Q E hr h => ?_)
  · obtain ⟨S, O, x, y, pA, pB, mA, mB, rfl, _⟩ := h
    rfl
  obtain ⟨S, O, x, y, pA, pB, mA, mB, rfl, hS, hO, Rx, Ry, oA, wA, wB, lA, lB, zA, zB, dA, dB, qT, qF⟩ := h
  have hr13 := hr.mono (show 13 ≤ 19 by decide)
  refine ⟨_, pss_cons (ps_setLc (i := 2) (own := [("k", 3)]) (g := gName 3) (tt := tYes) rfl scLawGeneral.nd rfl rfl (sw_true rfl rfl rfl (by decide +kernel)) (pi_range1 rfl m_range (pa_cons (pe_ix ix_tup (pv 1) pe_int (fun _ _ => rfl)) pa_nil)) (blkOk_by (own := [("k", 3)]) (N := ["one", "other", "pairs", "k"]) (sc := defScope sLawGeneral) (by decide +kernel)) (fun _ _ _ _ _ => (pg_name (i := 3) scLawGeneral.nd rfl (.inl rfl))) (fun _ _ _ _ _ => pts_nil) (fun _ _ _ _ _ => (pe_tup (pa_cons (pv 3) (pa_cons (pe_tup (pa_cons pe_str (pa_cons (pe_op op_add pe_int (pv 3)) (pa_cons (pe_tup pa_nil) pa_nil)))) pa_nil)))))
      (pss_cons (ps_expr (pe_bm PySem.F.plainAttrs_list PySem.F.slot_list_append PySem.F.type_list_append mt_append (pv 2) (pa_cons (pe_tup (pa_cons pe_int (pa_cons (pe_tup (pa_cons pe_str (pa_cons pe_int (pa_cons (pe_tup pa_nil) pa_nil)))) pa_nil))) pa_nil)))
      (pss_one (ps_ret (pe_call Om.ok hr rfl Om.at_ Om.kp Om.bd .nil pass0 (pa_cons (pe_call Oa.ok hr13 rfl Oa.at_ Oa.kp Oa.bd .nil pass0 (pa_cons (pe_ix ix_tup (pv 0) pe_int (fun _ _ => rfl)) (pa_cons (pe_lst (pa_cons (pe_tup (pa_cons pe_int (pa_cons (pe_tup (pa_cons pe_str (pa_cons pe_int (pa_cons (pe_tup pa_nil) pa_nil)))) pa_nil))) pa_nil)) pa_nil))) (pa_cons (pe_call Oa.ok hr13 rfl Oa.at_ Oa.kp Oa.bd .nil pass0 (pa_cons (pe_ix ix_tup (pv 1) pe_int (fun _ _ => rfl)) (pa_cons (pv 2) pa_nil))) (pa_cons (pe_lst pa_nil) pa_nil))))))), ?_⟩
  refine ⟨_, rfl, O, _, _, _, rfl, rfl, hO.sq, atI_nat (j := 0) rfl, (mB : Int), rfl, by omega, by omega, fun L hL => ?_⟩
  have SL := same_upd hL (o := .lst [])
  refine lc_range (n := (mB : Int).toNat) (fun i H' => Same H H' ∧ ∃ ws, H' L = some (.lst ws) ∧ PrL K H' ws (pr7 i)) ⟨SL, [], upd_same, .nil⟩ (fun i H' hi h => ?_) (fun H' h => ?_)
  · obtain ⟨S4, ws, hL4, PL⟩ := h
    have lw := PL.len
    unfold pr7 at lw
    rw [List.length_map, List.length_range] at lw
    refine ⟨rfl, ?_⟩
    refine ⟨_, rfl, _, rfl, _, _, rfl, rfl, zz 0, fun p1 h1 => ⟨zz 3, fun p2 h2 => ⟨zz 2, fun p3 h3 => ?_⟩⟩⟩
    have U1 := same_upd h1 (o := .tup [])
    have U2 := same_upd h2 (o := .tup [.str "c", .int (700 + (0 + (i : Int))), .ref p1])
    have U3 := same_upd h3 (o := .tup [.int (0 + (i : Int)), .ref p2])
    have hL5 := U3 _ _ (U2 _ _ (U1 _ _ hL4))
    have X := ST.lst hL5 (.lst (ws ++ [.ref p3]))
    refine ⟨ws, hL5, small1000 (by omega), same_skip (S4.trans (U1.trans (U2.trans U3))) hL, ws ++ [.ref p3], upd_same, ?_⟩
    rw [pr7_step]
    refine (PL.mono ((ST.same (U1.trans (U2.trans U3))).trans X)).app (.cons ?_ (Rp.c (p := p2) (.of ?_) (.of (X _ _ (U3 _ _ (U2 _ _ upd_same)))) .nil) .nil)
    · rw [X _ _ upd_same, Int.zero_add]
    · rw [X _ _ (U3 _ _ upd_same), Int.zero_add]
  obtain ⟨S4, ws, hL4, PL⟩ := h
  rw [show ((mB : Int).toNat) = mB from Int.toNat_natCast mB] at PL
  have lw := PL.len
  unfold pr7 at lw
  rw [List.length_map, List.length_range] at lw
  refine ⟨_, rfl, .inl ⟨rfl, _, SqL.of hL4⟩, zz 0, fun p1 h1 => ⟨zz 3, fun p2 h2 => ⟨zz 2, fun p3 h3 => ?_⟩⟩⟩
  have U1 := same_upd h1 (o := .tup [])
  have U2 := same_upd h2 (o := .tup [.str "c", .int 777, .ref p1])
  have U3 := same_upd h3 (o := .tup [.int 1000009, .ref p2])
  have hL5 := U3 _ _ (U2 _ _ (U1 _ _ hL4))
  refine ⟨L, _, _, rfl, rfl, hL5, small1000 (by omega), ?_⟩
  have X := ST.lst hL5 (.lst (ws ++ [.ref p3]))
  have PL5 := (PL.mono ((ST.same (U1.trans (U2.trans U3))).trans X)).app (.cons (X _ _ upd_same) (.c (.of (X _ _ (U3 _ _ upd_same))) (.of (X _ _ (U3 _ _ (U2 _ _ upd_same)))) .nil) .nil : PrL K _ [.ref p3] [(1000009, D.c 777 [])])
  have S5 : Same H _ := same_skip (S4.trans (U1.trans (U2.trans U3))) hL (o := .lst (ws ++ [.ref p3]))
  have hL6 := upd_same (H := upd (upd (upd H' p1 (.tup [])) p2 (.tup [.str "c", .int 777, .ref p1])) p3 (.tup [.int 1000009, .ref p2])) (a := L) (o := .lst (ws ++ [.ref p3]))
  clear U1 U2 U3 hL5 X PL
  -- the two shapes
  refine ⟨_, rfl, S, _, _, _, rfl, rfl, (hS.mono (ST.same S5)).sq, atI_nat (j := 1) rfl, zz 0, fun q1 k1 => ⟨zz 3, fun q2 k2 => ⟨zz 2, fun q3 k3 => ⟨zz 1, fun q4 k4 => ?_⟩⟩⟩⟩
  have V1 := same_upd k1 (o := .tup [])
  have V2 := same_upd k2 (o := .tup [.str "c", .int 777, .ref q1])
  have V3 := same_upd k3 (o := .tup [.int 1000009, .ref q2])
  have V4 := same_upd k4 (o := .lst [.ref q3])
  have V14 := V1.trans (V2.trans (V3.trans V4))
  obtain ⟨a1, a2⟩ := mu_size pA
  obtain ⟨b1, b2⟩ := mu_size pB
  refine ⟨x, pA, q4, _, [(1000009, .c 777 [])], rfl, Rx.same (S5.trans V14), SqL.of upd_same, .cons (V4 _ _ upd_same) (.c (.of ((V3.trans V4) _ _ upd_same)) (.of ((V2.trans (V3.trans V4)) _ _ upd_same)) .nil) .nil, by omega, by omega, fun H7 v7 S7 R7 => ?_⟩
  rw [mu_lk] at R7
  have S57 := V14.trans S7
  refine ⟨_, rfl, O, _, _, _, rfl, rfl, (hO.mono (ST.same (S5.trans S57))).sq, atI_nat (j := 1) rfl, _, rfl, y, pB, L, _, _, rfl, Ry.same (S5.trans S57), SqL.of (S57 _ _ hL6), PL5.mono (ST.same S57), by omega, by omega, fun H8 v8 S8 R8 => ?_⟩
  rw [law_consts (by omega)] at R8
  obtain ⟨c1, c2⟩ := kap_size mB (fun n => 700 + n) (pB.sub mu)
  have S18 := S5.trans (S57.trans S8)
  have gl := gen_law lA lB oA wA wB
  refine ⟨zz 0, fun M hM => ?_⟩
  have SM := same_upd hM (o := .lst [])
  have nM : H M = none := S18.free hM
  refine ⟨v7, v8, _, _, M, [], [], rfl, (R7.same S8).same SM, R8.same SM, upd_same, .nil, by omega, by omega, (fun z hz => (by cases hz)), by show 0 + _ ≤ 90000; omega, fun st e H9 ws9 O9 _ _ => ?_, fun e H9 O9 => ?_⟩
  · exact qT (gl.mp ⟨st, e⟩) _ fun c o ec => O9 c o (ne_of_none ec nM) (SM _ _ (S18 _ _ ec))
  · refine qF (fun z => ?_) _ fun c o ec => O9 c o (ne_of_none ec nM) (SM _ _ (S18 _ _ ec))
    obtain ⟨st, hst⟩ := gl.mpr z
    rw [hst] at e
    cases e
end
end Vs

set_option Elab.async false
set_option linter.all false
set_option maxRecDepth 100000
namespace Vs
open PySem PySem.Spec PyProof.Rows L2 RT StX Vr
open C8 (pss_cut tCut)
open RZ
section
variable {P : Program} {w : World} {K : PySem.W.Frag} {mg : Str → Option Value} {base : Heap}
theorem lk_one_eq {n k : Int} {o e : D} (h : lk [(n, o)] k = some e) : e = o := by
  have := lk_mem h
  rw [List.mem_singleton] at this
  exact (Prod.mk.inj this).2
def spLaw (K : PySem.W.Frag) : Sp := fun vs H Q _ => ∃ (a : Addr) (ns : List Int), vs = [.ref a] ∧ SqL K H a (ns.map V.int) ∧ ns.length ≤ 63 ∧ ∀ H', Q (.bl true) H'
theorem ok_law {f f1 f2 f3 f4 f5 f6 f7 : Addr} {fd d1 d2 d3 d4 d5 d6 d7 : FuncData} (F : Fun K "law" "law" sLaw f fd) (Ot : Own P w K mg base CX0 1 "_law_tape" f1 d1 ["script", "many"] (spTape K)) (Op : Own P w K mg base CX0 1 "_law_pick" f2 d2 ["tape", "at", "many"] (spPick K))
    (Os : Own P w K mg base CX0 6 "_law_shape" f3 d3 ["tape", "at", "level", "free"] (spShape K 4)) (Osc : Own P w K mg base CX0 14 "_law_scheme" f4 d4 ["shape"] (spLsch K)) (Oa : Own P w K mg base CX0 13 "_law_apply" f5 d5 ["shape", "pairs"] (spApply K 12))
    (Oal : Own P w K mg base CX0 104 "at_least_as_general" f6 d6 ["scheme", "other"] (spAl K)) (Olg : Own P w K mg base CX0 20 "_law_general" f7 d7 ["one", "other"] (spLg K)) (m_range : mg "range" = none) :
    FnOk P w K mg base CX0 105 f fd ["script"] (spLaw K) := by
  refine F.ok scLaw (fun vs H Q E h => ?_) (fun cdv A outer s H vs Q E hr h => ?_)
  · obtain ⟨a, ns, rfl, _⟩ := h
    rfl
  obtain ⟨a, ns, rfl, hS, hlen, q⟩ := h
  have hr1 : Room 1 (A.deeper (envOfC "law" (defScope sLaw) s.heap.objs.size f cdv)) := hr.mono (by decide)
  have hr6 : Room 6 (A.deeper (envOfC "law" (defScope sLaw) s.heap.objs.size f cdv)) := hr.mono (by decide)
  have hr13 : Room 13 (A.deeper (envOfC "law" (defScope sLaw) s.heap.objs.size f cdv)) := hr.mono (by decide)
  have hr14 : Room 14 (A.deeper (envOfC "law" (defScope sLaw) s.heap.objs.size f cdv)) := hr.mono (by decide)
  have hr20 : Room 20 (A.deeper (envOfC "law" (defScope sLaw) s.heap.objs.size f cdv)) := hr.mono (by decide)
  refine ⟨_, pss_cons (ps_set (i := 1) scLaw.nd rfl (.inl rfl) (pe_call Ot.ok hr1 rfl Ot.at_ Ot.kp Ot.bd .nil pass0 (pa_cons (pv 0) (pa_cons pe_int pa_nil))))
      (pss_cons (ps_set (i := 2) scLaw.nd rfl (.inl rfl) (pe_lst (pa_cons pe_int (pa_cons pe_int (pa_cons pe_int (pa_cons pe_int (pa_cons pe_int pa_nil)))))))
      (pss_cons (ps_asg (pe_call Os.ok hr6 rfl Os.at_ Os.kp Os.bd .nil pass0 (pa_cons (pv 1) (pa_cons pe_int (pa_cons (pe_op op_add pe_int (pe_call Op.ok hr1 rfl Op.at_ Op.kp Op.bd .nil pass0 (pa_cons (pv 1) (pa_cons pe_int (pa_cons pe_int pa_nil))))) (pa_cons (pv 2) pa_nil))))) (pg_tup rfl (pgs_cons (pg_name (i := 3) scLaw.nd rfl (.inl rfl)) (pgs_cons (pg_name (i := 4) scLaw.nd rfl (.inl rfl)) pgs_nil))))
      (pss_cons (ps_set (i := 5) scLaw.nd rfl (.inl rfl) (pe_call Osc.ok hr14 rfl Osc.at_ Osc.kp Osc.bd .nil pass0 (pa_cons (pv 3) pa_nil)))
      (pss_cons (ps_set (i := 6) scLaw.nd rfl (.inl rfl) (pe_call Op.ok hr1 rfl Op.at_ Op.kp Op.bd .nil pass0 (pa_cons (pv 1) (pa_cons pe_int (pa_cons pe_int pa_nil)))))
      (pss_cut (ps_if (pt_cmpR op_eq (pv 6) pe_int (nomark _)) (pss_cons (ps_set (i := 7) scLaw.nd rfl (.inl rfl) (pe_lst pa_nil))
      (pss_cons (ps_for PassesOwn.never rfl (pi_range1 rfl m_range (pa_cons (pe_ix ix_tup (pv 5) pe_int (fun _ _ => rfl)) pa_nil)) (pg_name (i := 8) scLaw.nd rfl (.inl rfl)) (pss_cons (ps_asg (pe_call Os.ok hr6 rfl Os.at_ Os.kp Os.bd .nil pass0 (pa_cons (pv 1) (pa_cons (pe_op op_add (pv 4) pe_int) (pa_cons pe_int (pa_cons (pe_lst (pa_cons pe_int (pa_cons pe_int (pa_cons pe_int pa_nil)))) pa_nil))))) (pg_tup rfl (pgs_cons (pg_name (i := 9) scLaw.nd rfl (.inl rfl)) (pgs_cons (pg_name (i := 4) scLaw.nd rfl (.inl rfl)) pgs_nil))))
      (pss_one (ps_expr (pe_bm PySem.F.plainAttrs_list PySem.F.slot_list_append PySem.F.type_list_append mt_append (pv 7) (pa_cons (pe_tup (pa_cons (pv 8) (pa_cons (pv 9) pa_nil))) pa_nil))))))
      (pss_one (ps_set (i := 10) scLaw.nd rfl (.inl rfl) (pe_call Osc.ok hr14 rfl Osc.at_ Osc.kp Osc.bd .nil pass0 (pa_cons (pe_call Oa.ok hr13 rfl Oa.at_ Oa.kp Oa.bd .nil pass0 (pa_cons (pe_ix ix_tup (pv 5) pe_int (fun _ _ => rfl)) (pa_cons (pv 7) pa_nil))) pa_nil)))))) (pss_one (ps_if (pt_cmpR op_eq (pv 6) pe_int (nomark _)) (pss_one (ps_set (i := 10) scLaw.nd rfl (.inl rfl) (pe_call Osc.ok hr14 rfl Osc.at_ Osc.kp Osc.bd .nil pass0 (pa_cons (pe_call Oa.ok hr13 rfl Oa.at_ Oa.kp Oa.bd .nil pass0 (pa_cons (pv 3) (pa_cons (pe_lst (pa_cons (pe_tup (pa_cons pe_int (pa_cons (pe_tup (pa_cons pe_str (pa_cons pe_int pa_nil))) pa_nil))) pa_nil)) pa_nil))) pa_nil)))) (pss_cons (ps_asg (pe_call Os.ok hr6 rfl Os.at_ Os.kp Os.bd .nil pass0 (pa_cons (pv 1) (pa_cons (pe_op op_add (pv 4) pe_int) (pa_cons (pe_op op_add pe_int (pe_call Op.ok hr1 rfl Op.at_ Op.kp Op.bd .nil pass0 (pa_cons (pv 1) (pa_cons pe_int (pa_cons pe_int pa_nil))))) (pa_cons (pv 2) pa_nil))))) (pg_tup rfl (pgs_cons (pg_name (i := 11) scLaw.nd rfl (.inl rfl)) (pgs_cons (pg_name (i := 4) scLaw.nd rfl (.inl rfl)) pgs_nil))))
      (pss_one (ps_set (i := 10) scLaw.nd rfl (.inl rfl) (pe_call Osc.ok hr14 rfl Osc.at_ Osc.kp Osc.bd .nil pass0 (pa_cons (pv 11) pa_nil))))))))
      (pss_cons (ps_if (PW.pt (pw_or (pt_cmpR op_notBl (pe_call Oal.ok hr rfl Oal.at_ Oal.kp Oal.bd .nil pass0 (pa_cons (pv 5) (pa_cons (pv 5) pa_nil))) pe_bl (nomark _)) (pw_or1 (pt_cmpR op_notBl (pe_call Oal.ok hr rfl Oal.at_ Oal.kp Oal.bd .nil pass0 (pa_cons (pv 10) (pa_cons (pv 10) pa_nil))) pe_bl (nomark _))))) (pss_one (ps_ret pe_bl)) pss_nil)
      (pss_cut (ps_set (i := 12) scLaw.nd rfl (.inl rfl) (pe_call Oal.ok hr rfl Oal.at_ Oal.kp Oal.bd .nil pass0 (pa_cons (pv 5) (pa_cons (pv 10) pa_nil))))
      (pss_cut (ps_set (i := 13) scLaw.nd rfl (.inl rfl) (pe_call Oal.ok hr rfl Oal.at_ Oal.kp Oal.bd .nil pass0 (pa_cons (pv 10) (pa_cons (pv 5) pa_nil))))
      (pss_cut (ps_if (PW.pt (pw_and (pt_cmpR op_lt (pv 6) pe_int (nomark _)) (pw_and1 (pt_cmpR op_notBl (pv 12) pe_bl (nomark _))))) (pss_one (ps_ret pe_bl)) pss_nil)
      (pss_cut (ps_if (PW.pt (pw_and (pt_cmpR op_isBl (pv 12) pe_bl (nomark _)) (pw_and (pt_cmpR op_isBl (pv 13) pe_bl (nomark _)) (pw_and1 (pt_cmpR (op_neD hr.units) (pv 5) (pv 10) (nomark _)))))) (pss_one (ps_ret pe_bl)) pss_nil)
      (pss_one (ps_ret (pe_and (pe_cmpR op_eq (pv 12) (pe_call Olg.ok hr20 rfl Olg.at_ Olg.kp Olg.bd .nil pass0 (pa_cons (pv 5) (pa_cons (pv 10) pa_nil))) (nomark _)) (pe_one (pe_cmpR op_eq (pv 13) (pe_call Olg.ok hr20 rfl Olg.at_ Olg.kp Olg.bd .nil pass0 (pa_cons (pv 10) (pa_cons (pv 5) pa_nil))) (nomark _)))))))))))))))), ?_⟩
  refine ⟨_, rfl, a, ns, 200, rfl, hS, by decide, by decide, fun H1 tp ts S1 htp lts _ => ?_⟩
  have tpos : 0 < ts.length := by
    rw [lts]
    decide
  refine ⟨zz 5, fun fr hfr => ?_⟩
  have Sf := same_upd hfr (o := .lst (fr9.map V.int))
  have htp2 := Sf _ _ htp
  have c0 := pk_lo (ts := ts) (a := 0) (show (0 : Int) < 3 by decide)
  have c1 := pk_hi (ts := ts) (a := 0) (show (0 : Int) < 3 by decide)
  obtain ⟨l, hl⟩ : ∃ l : Nat, 1 + pk ts 0 3 = (l : Int) := ⟨(1 + pk ts 0 3).toNat, by omega⟩
  have l3 : l ≤ 3 := by omega
  have e85 : sizeOf' l ≤ 85 := by
    have : l = 0 ∨ l = 1 ∨ l = 2 ∨ l = 3 := by omega
    rcases this with h | h | h | h <;> subst h <;> decide
  refine ⟨_, rfl, _, rfl, tp, ts, _, _, rfl, SqL.of htp2, tpos, by decide, _, _, rfl, rfl, _, rfl, ?_⟩
  refine ⟨tp, fr, ts, fr9, 3, l, by rw [← hl]; rfl, by omega, SqL.of htp2, tpos, SqL.of upd_same, fun H3 r3 x d at1 S3 e3 R3 g3 => ?_⟩
  refine ⟨r3, _, rfl, SqT.of e3, rfl, _, _, rfl, _, _, rfl, rfl, ?_⟩
  have htp3 := S3 _ _ htp2
  have hfr3 := S3 _ _ (upd_same (H := H1) (a := fr) (o := .lst (fr9.map V.int)))
  have dsz := g3.size
  have ddp := g3.depth
  -- one
  refine ⟨_, rfl, x, d, rfl, R3, by omega, by omega, fun H4 sA vA S4 hsA RA => ?_⟩
  have sA1 := sch_ok (d := d) (fun n hn => g3.occ n hn) (by omega) (by omega) (.gen g3)
  have htp4 := S4 _ _ htp3
  have hfr4 := S4 _ _ hfr3
  have R4 := R3.same S4
  have genr := fun r hr => gen_ren (d := d) (fun n hn => g3.occ n hn) (r := r) hr
  obtain ⟨pz1, pz2⟩ := schx_size (fx := [1000009]) (d := d)
  generalize hpA : schx [1000009] d = pA at RA sA1 genr pz1 pz2
  generalize hmA : (ungx [1000009] d).length = mA at hsA sA1 genr
  have mA10 := sA1.le
  refine ⟨_, rfl, tp, ts, _, _, rfl, SqL.of htp4, tpos, by decide, ?_⟩
  have kb0 := pk_lo (ts := ts) (a := 1) (show (0 : Int) < 3 by decide)
  generalize pk ts 1 3 = kind at kb0
  refine ⟨fun σ' H' => ∃ y4 y7 y8 y9 y11 O vB pB mB, σ' = [some (.ref a), some (.ref tp), some (.ref fr), some x, y4, some (.ref sA), some (.int kind), y7, y8, y9, some (.ref O), y11, none, none] ∧ Same H4 H' ∧ H' O = some (.tup [.int ((mB : Nat) : Int), vB]) ∧ Rp K H' vB pB ∧ Sch mB pB ∧ (kind < 2 → Gen mA pA pB), ?_, ?_⟩
  · refine ⟨_, rfl, rfl, _, rfl, ite2 (fun k0 => ?_) (fun k0 => ?_)⟩
    · -- an instance
      refine ⟨zz 0, fun L hL => ?_⟩
      have SL := same_upd hL (o := .lst [])
      refine ⟨_, rfl, sA, _, _, _, rfl, rfl, SqT.of (SL _ _ hsA), atI_nat (j := 0) rfl, (mA : Int), rfl, by omega, by omega, ?_⟩
      refine for_range (n := (mA : Int).toNat) (fun i σ H' => ∃ at' y8 y9 ws es, σ = [some (.ref a), some (.ref tp), some (.ref fr), some x, some (.int at'), some (.ref sA), some (.int kind), some (.ref L), y8, y9, none, none, none, none] ∧ Same H4 H' ∧ H' L = some (.lst ws) ∧ PrL K H' ws (idx 0 es) ∧ es.length = i ∧ ∀ e ∈ es, GenD [1000000, 1000001, 1000009] 1 e)
        ⟨_, _, _, [], [], rfl, SL, upd_same, .nil, rfl, fun e h => (by cases h)⟩ (fun i σ H' hi h => ?_) (fun σ H' h => ?_)
      · obtain ⟨at', y8, y9, ws, es, rfl, S8, hA8, PL, le, ge⟩ := h
        refine ⟨_, rfl, _, rfl, _, _, rfl, rfl, zz 3, fun G hG => ?_⟩
        have SG := same_upd hG (o := .lst [.int 1000000, .int 1000001, .int 1000009])
        refine ⟨tp, G, ts, [1000000, 1000001, 1000009], at' + 1, 1, rfl, by decide, SqL.of (SG _ _ (S8 _ _ htp4)), tpos, SqL.of upd_same, fun H9 r9 x9 d9 at9 S9 e9 R9 g9 => ?_⟩
        refine ⟨r9, _, rfl, SqT.of e9, rfl, _, _, rfl, _, _, rfl, rfl, ?_⟩
        have T9 := SG.trans S9
        have hA9 := T9 _ _ hA8
        have lw := PL.len
        rw [idx_len] at lw
        refine ⟨_, rfl, .inl ⟨rfl, _, SqL.of hA9⟩, _, rfl, _, rfl, zz 2, fun p1 h1 => ?_⟩
        have U1 := same_upd h1 (o := .tup [.int (0 + (i : Int)), x9])
        have hA10 := U1 _ _ hA9
        refine ⟨L, _, _, rfl, rfl, hA10, small1000 (by omega), ?_⟩
        have X := ST.lst hA10 (.lst (ws ++ [.ref p1]))
        refine ⟨at9, _, _, ws ++ [.ref p1], es ++ [d9], rfl, same_skip (S8.trans (T9.trans U1)) hL, upd_same, ?_, by rw [List.length_append, le]; rfl, fun e he => ?_⟩
        · rw [idx_app, Nat.zero_add, le]
          refine (PL.mono ((ST.same (T9.trans U1)).trans X)).app (.cons ?_ ((R9.same U1).mono X) .nil)
          rw [X _ _ upd_same, Int.zero_add]
        · rcases List.mem_append.mp he with h | h
          · exact ge e h
          · rw [List.mem_singleton.mp h]
            exact g9
      obtain ⟨at', y8, y9, ws, es, rfl, S8, hA8, PL, le, ge⟩ := h
      rw [show ((mA : Int).toNat) = mA from Int.toNat_natCast mA] at le
      have e5 : sizeOf' 1 = 5 := rfl
      have sd1 := size_sub_le (lk (idx 0 es)) 5 (by decide) (fun k e h => (ge e (idx_key _ _ _ (lk_mem h)).2.2).size) pA
      have sd2 := depth_sub_one (lk (idx 0 es)) 2 (by decide) (fun k e h => (ge e (idx_key _ _ _ (lk_mem h)).2.2).depth) pA
      have p5 : pA.size * 5 ≤ 85 * 5 := Nat.mul_le_mul_right _ (by omega)
      have dom : ∀ n, ¬ n < (mA : Int) → lk (idx 0 es) n = none := fun n hn => by
        cases z : lk (idx 0 es) n with
        | none => rfl
        | some e =>
          have t2 : n < ((0 + es.length : Nat) : Int) := (idx_key _ _ _ (lk_mem z)).2.1
          omega
      refine ⟨_, rfl, sA, _, _, _, rfl, rfl, SqT.of (S8 _ _ hsA), atI_nat (j := 1) rfl, _, rfl, vA, pA, L, ws, _, rfl, RA.same S8, SqL.of hA8, PL, by omega, by omega, fun H10 v10 S10 R10 => ?_⟩
      refine ⟨v10, _, rfl, R10, by omega, by omega, fun H11 O vB S11 hO RB => ?_⟩
      refine ⟨_, _, _, _, _, O, vB, _, _, rfl, S8.trans (S10.trans S11), hO, RB, sch_ok (fun n hn => ?_) (by omega) (by omega) (sA1.low.sub fun k e h => .gen (ge e (idx_key _ _ _ (lk_mem h)).2.2)), fun _ => gen_inst sA1 dom⟩
      obtain ⟨j, hj, hk⟩ := (occ_sub pA).mp hn
      cases z : lk (idx 0 es) j with
      | some e =>
        rw [z] at hk
        have := (ge e (idx_key _ _ _ (lk_mem z)).2.2).occ n hk
        simp only [List.mem_cons, List.mem_nil_iff, or_false] at this
        unfold fr9
        simp only [List.mem_cons, List.mem_nil_iff, or_false]
        omega
      | none =>
        rw [z] at hk
        have hk2 : n ∈ (D.v j).occ := hk
        rw [D.occ, List.mem_singleton] at hk2
        rcases sA1.occ9 j hj with h | h
        · have hi : j.toNat < es.length := by omega
          have := lk_idx (k := 0) (List.getElem?_eq_getElem hi)
          rw [show (((0 + j.toNat : Nat)) : Int) = j by omega, z] at this
          cases this
        · rw [hk2, h]
          decide
    · refine ⟨_, rfl, rfl, _, rfl, ite2 (fun k1 => ?_) (fun k1 => ?_)⟩
      · -- two variables made one
        refine ⟨_, rfl, zz 2, fun p1 h1 => ⟨zz 2, fun p2 h2 => ⟨zz 1, fun p3 h3 => ?_⟩⟩⟩
        have U1 := same_upd h1 (o := .tup [.str "v", .int 1000000])
        have U2 := same_upd h2 (o := .tup [.int 1000001, .ref p1])
        have U3 := same_upd h3 (o := .lst [.ref p2])
        have U13 := U1.trans (U2.trans U3)
        have sd1 := size_sub_le (lk [(1000001, D.v 1000000)]) 1 (by decide) (fun k e h => by rw [lk_one_eq h]; simp only [D.size]; omega) d
        have sd2 := depth_sub_one (lk [(1000001, D.v 1000000)]) 1 (by decide) (fun k e h => by rw [lk_one_eq h]; simp only [D.depth]; omega) d
        refine ⟨x, d, p3, _, [(1000001, .v 1000000)], rfl, R4.same U13, SqL.of upd_same, .cons (U3 _ _ upd_same) (.v (.of ((U2.trans U3) _ _ upd_same))) .nil, by omega, by omega, fun H10 v10 S10 R10 => ?_⟩
        refine ⟨v10, _, rfl, R10, by omega, by omega, fun H11 O vB S11 hO RB => ?_⟩
        refine ⟨_, _, _, _, _, O, vB, _, _, rfl, U13.trans (S10.trans S11), hO, RB, sch_ok (fun n hn => ?_) (by omega) (by omega) ((Low.gen g3).sub fun k e h => by rw [lk_one_eq h]; exact Low.v _), fun _ => genr _ (by decide)⟩
        obtain ⟨j, hj, hk⟩ := (occ_sub d).mp hn
        cases z : lk [(1000001, D.v 1000000)] j with
        | some e =>
          rw [z, lk_one_eq z] at hk
          have hk2 : n ∈ (D.v 1000000).occ := hk
          rw [D.occ, List.mem_singleton] at hk2
          rw [hk2]
          decide
        | none =>
          rw [z] at hk
          have hk2 : n ∈ (D.v j).occ := hk
          rw [D.occ, List.mem_singleton] at hk2
          rw [hk2]
          exact g3.occ j hj
      · -- another one
        refine ⟨_, rfl, _, rfl, _, _, rfl, rfl, _, rfl, tp, ts, _, _, rfl, SqL.of htp4, tpos, by decide, _, _, rfl, rfl, _, rfl, ?_⟩
        refine ⟨tp, fr, ts, fr9, at1 + 1, l, by rw [← hl]; rfl, by omega, SqL.of htp4, tpos, SqL.of hfr4, fun H9 r9 x9 d9 at9 S9 e9 R9 g9 => ?_⟩
        refine ⟨r9, _, rfl, SqT.of e9, rfl, _, _, rfl, _, _, rfl, rfl, ?_⟩
        have z1 := g9.size
        have z2 := g9.depth
        refine ⟨_, rfl, x9, d9, rfl, R9, by omega, by omega, fun H11 O vB S11 hO RB => ?_⟩
        refine ⟨_, _, _, _, _, O, vB, _, _, rfl, S9.trans S11, hO, RB, sch_ok (fun n hn => g9.occ n hn) (by omega) (by omega) (.gen g9), fun k2 => ?_⟩
        exfalso
        have n0 : ¬ kind = 0 := fun z => k0 (decide_eq_true (congrArg V.int z))
        have n1 : ¬ kind = 1 := fun z => k1 (decide_eq_true (congrArg V.int z))
        omega
  rintro σ5 H5 ⟨y4, y7, y8, y9, y11, O, vB, pB, mB, rfl, S5, hO, RB, sB1, gk⟩
  have hA5 := S5 _ _ hsA
  have RA5 := RA.same S5
  refine ⟨_, rfl, _, rfl, sA, sA, vA, vA, pA, pA, mA, mA, rfl, .of hA5, .of hA5, RA5, RA5, sA1.nm, sA1.nm, sA1.le, sA1.le, sA1.sz, sA1.sz, by have := sA1.dp; omega, by have := sA1.dp; omega, fun _ H6 S6 => ?_, fun z => absurd (gen_refl _ _) z⟩
  refine ⟨true, true, rfl, rfl, _, rfl, ?_⟩
  rw [decide_eq_true rfl]
  refine iteF ?_
  have RB6 := RB.same S6
  have hB6 := S6 _ _ hO
  refine ⟨_, rfl, _, rfl, O, O, vB, vB, pB, pB, mB, mB, rfl, .of hB6, .of hB6, RB6, RB6, sB1.nm, sB1.nm, sB1.le, sB1.le, sB1.sz, sB1.sz, by have := sB1.dp; omega, by have := sB1.dp; omega, fun _ H7 S7 => ?_, fun z => absurd (gen_refl _ _) z⟩
  refine ⟨true, true, rfl, rfl, _, rfl, ?_⟩
  rw [decide_eq_true rfl]
  refine iteF ?_
  have S57 := S6.trans S7
  have hA7 := S57 _ _ hA5
  have RA7 := RA5.same S57
  have hB7 := S57 _ _ hO
  have RB7 := RB.same S57
  have dA := sA1.dp
  have dB := sB1.dp
  -- first, second
  refine ⟨fun σ' H' => ∃ b1 : Bool, σ' = [some (.ref a), some (.ref tp), some (.ref fr), some x, y4, some (.ref sA), some (.int kind), y7, y8, y9, some (.ref O), y11, some (.bl b1), none] ∧ Same H7 H' ∧ (b1 = true ↔ Gen mA pA pB), ?_, ?_⟩
  · exact ⟨_, rfl, _, rfl, sA, O, vA, vB, pA, pB, mA, mB, rfl, .of hA7, .of hB7, RA7, RB7, sA1.nm, sB1.nm, sA1.le, sB1.le, sA1.sz, sB1.sz, by omega, by omega, fun g H8 S8 => ⟨true, rfl, S8, ⟨fun _ => g, fun _ => rfl⟩⟩, fun g H8 S8 => ⟨false, rfl, S8, ⟨fun z => (by cases z), fun z => absurd z g⟩⟩⟩
  rintro σ8 H8 ⟨b1, rfl, S8, i1⟩
  have hA8 := S8 _ _ hA7
  have RA8 := RA7.same S8
  have hB8 := S8 _ _ hB7
  have RB8 := RB7.same S8
  refine ⟨fun σ' H' => ∃ b2 : Bool, σ' = [some (.ref a), some (.ref tp), some (.ref fr), some x, y4, some (.ref sA), some (.int kind), y7, y8, y9, some (.ref O), y11, some (.bl b1), some (.bl b2)] ∧ Same H8 H' ∧ (b2 = true ↔ Gen mB pB pA), ?_, ?_⟩
  · exact ⟨_, rfl, _, rfl, O, sA, vB, vA, pB, pA, mB, mA, rfl, .of hB8, .of hA8, RB8, RA8, sB1.nm, sA1.nm, sB1.le, sA1.le, sB1.sz, sA1.sz, by omega, by omega, fun g H9 S9 => ⟨true, rfl, S9, ⟨fun _ => g, fun _ => rfl⟩⟩, fun g H9 S9 => ⟨false, rfl, S9, ⟨fun z => (by cases z), fun z => absurd z g⟩⟩⟩
  rintro σ9 H9 ⟨b2, rfl, S9, i2⟩
  have hA9 := S9 _ _ hA8
  have RA9 := RA8.same S9
  have hB9 := S9 _ _ hB8
  have RB9 := RB8.same S9
  refine ⟨fun σ' H' => σ' = [some (.ref a), some (.ref tp), some (.ref fr), some x, y4, some (.ref sA), some (.int kind), y7, y8, y9, some (.ref O), y11, some (.bl b1), some (.bl b2)] ∧ H' = H9, ?_, ?_⟩
  · refine ⟨_, rfl, _, _, rfl, rfl, _, rfl, ite2 (fun k => ?_) (fun k => ?_)⟩
    · have e1 : b1 = true := i1.mpr (gk (of_decide_eq_true k))
      rw [e1]
      refine ⟨_, rfl, true, true, rfl, rfl, _, rfl, ?_⟩
      rw [decide_eq_true rfl]
      exact iteF ⟨rfl, rfl⟩
    · exact iteF ⟨rfl, rfl⟩
  rintro σ10 H10 ⟨rfl, rfl⟩
  refine ⟨fun σ' H' => σ' = [some (.ref a), some (.ref tp), some (.ref fr), some x, y4, some (.ref sA), some (.int kind), y7, y8, y9, some (.ref O), y11, some (.bl b1), some (.bl b2)] ∧ H' = H10, ?_, ?_⟩
  · refine ⟨_, rfl, b1, true, rfl, rfl, _, rfl, ite2 (fun k => ?_) (fun k => ?_)⟩
    · have e1 : b1 = true := of_decide_eq_true k
      refine ⟨_, rfl, b2, true, rfl, rfl, _, rfl, ite2 (fun k2 => ?_) (fun k2 => ?_)⟩
      · have e2 : b2 = true := of_decide_eq_true k2
        obtain ⟨em, ep⟩ := gen_eq sA1 sB1 (i1.mp e1) (i2.mp e2)
        subst em
        subst ep
        refine ⟨_, rfl, _, rfl, _, _, prD_dp hA9 RA9, prD_dp hB9 RB9, prD_shaped (by omega), prD_shaped (by omega), _, rfl, ?_⟩
        rw [prD_self]
        exact iteF ⟨rfl, rfl⟩
      · exact iteF ⟨rfl, rfl⟩
    · exact iteF ⟨rfl, rfl⟩
  rintro σ11 H11 ⟨rfl, rfl⟩
  have fin2 : ∀ b : Bool, (b = true ↔ Gen mB pB pA) → decide (V.bl b2 = V.bl b) = true := fun b hb => decide_eq_true (congrArg V.bl (by
    cases b <;> cases b2 <;> simp_all))
  have fin1 : ∀ b : Bool, (b = true ↔ Gen mA pA pB) → decide (V.bl b1 = V.bl b) = true := fun b hb => decide_eq_true (congrArg V.bl (by
    cases b <;> cases b1 <;> simp_all))
  have last : ∀ H12, Same H11 H12 → ∀ b : Bool, (b = true ↔ Gen mB pB pA) → Q (.bl (decide (V.bl b2 = V.bl b))) H12 := fun H12 _ b hb => by
    rw [fin2 b hb]
    exact q _
  refine ⟨_, rfl, _, rfl, _, rfl, sA, O, vA, vB, pA, pB, mA, mB, rfl, .of hA9, .of hB9, RA9, RB9, sA1.occ9, sA1.low, sB1.low, sA1.le, sB1.le, sA1.sz, sB1.sz, by omega, by omega, fun g H12 S12 => ⟨rfl, _, rfl, ?_⟩, fun g H12 S12 => ⟨rfl, _, rfl, ?_⟩⟩
  · rw [fin1 true ⟨fun _ => g, fun _ => rfl⟩]
    refine iteT ?_
    exact ⟨_, rfl, _, rfl, _, rfl, O, sA, vB, vA, pB, pA, mB, mA, rfl, .of (S12 _ _ hB9), .of (S12 _ _ hA9), RB9.same S12, RA9.same S12, sB1.occ9, sB1.low, sA1.low, sB1.le, sA1.le, sB1.sz, sA1.sz, by omega, by omega, fun g2 H13 S13 => ⟨rfl, last _ (S12.trans S13) true ⟨fun _ => g2, fun _ => rfl⟩⟩, fun g2 H13 S13 => ⟨rfl, last _ (S12.trans S13) false ⟨fun z => (by cases z), fun z => absurd z g2⟩⟩⟩
  · rw [fin1 false ⟨fun z => (by cases z), fun z => absurd z g⟩]
    refine iteT ?_
    exact ⟨_, rfl, _, rfl, _, rfl, O, sA, vB, vA, pB, pA, mB, mA, rfl, .of (S12 _ _ hB9), .of (S12 _ _ hA9), RB9.same S12, RA9.same S12, sB1.occ9, sB1.low, sA1.low, sB1.le, sA1.le, sB1.sz, sA1.sz, by omega, by omega, fun g2 H13 S13 => ⟨rfl, last _ (S12.trans S13) true ⟨fun _ => g2, fun _ => rfl⟩⟩, fun g2 H13 S13 => ⟨rfl, last _ (S12.trans S13) false ⟨fun z => (by cases z), fun z => absurd z g2⟩⟩⟩
end
end Vs

set_option Elab.async false
set_option linter.all false
set_option maxRecDepth 100000
namespace Vs
open PySem PySem.Spec PyProof.Rows L2 RT StX
open C8 (pss_cut tCut)
theorem all_mk {l : PySem.W.OpenLaw} {w : World} {K : PySem.W.Frag} {h : Heap} {mg : Str → Option Value} {fa f1 f2 f3 f4 f5 f6 f7 f8 f9 f10 f11 f12 f13 f14 f15 f16 f17 f18 f19 f20 f21 f22 f23 f24 : Addr} (X : K.In h) (G : h.Ns mainGlobals mg) (hfa : mg "law" = some (.ref fa))
    {od1 an1 od2 an2 od3 an3 od4 an4 od5 an5 od6 an6 od7 an7 od8 an8 od9 an9 od10 an10 od11 an11 od12 an12 od13 an13 od14 an14 od15 an15 od16 an16 od17 an17 od18 an18 od19 an19 od20 an20 od21 an21 od22 an22 od23 an23 od24 an24 : Option Addr} {sl1 sl2 sl3 sl4 sl5 sl6 sl7 sl8 sl9 sl10 sl11 sl12 sl13 sl14 sl15 sl16 sl17 sl18 sl19 sl20 sl21 sl22 sl23 sl24 : Array (Option Value)} {oc1 kV1 dc1 pm1 cd1 ct1 oc2 kV2 dc2 pm2 cd2 ct2 oc3 kV3 dc3 pm3 cd3 ct3 oc4 kV4 dc4 pm4 cd4 ct4 oc5 kV5 dc5 pm5 cd5 ct5 oc6 kV6 dc6 pm6 cd6 ct6 oc7 kV7 dc7 pm7 cd7 ct7 oc8 kV8 dc8 pm8 cd8 ct8 oc9 kV9 dc9 pm9 cd9 ct9 oc10 kV10 dc10 pm10 cd10 ct10 oc11 kV11 dc11 pm11 cd11 ct11 oc12 kV12 dc12 pm12 cd12 ct12 oc13 kV13 dc13 pm13 cd13 ct13 oc14 kV14 dc14 pm14 cd14 ct14 oc15 kV15 dc15 pm15 cd15 ct15 oc16 kV16 dc16 pm16 cd16 ct16 oc17 kV17 dc17 pm17 cd17 ct17 oc18 kV18 dc18 pm18 cd18 ct18 oc19 kV19 dc19 pm19 cd19 ct19 oc20 kV20 dc20 pm20 cd20 ct20 oc21 kV21 dc21 pm21 cd21 ct21 oc22 kV22 dc22 pm22 cd22 ct22 oc23 kV23 dc23 pm23 cd23 ct23 oc24 kV24 dc24 pm24 cd24 ct24 : Value}
    (a1 : PySem.W.nsIn K mainGlobals "parts_of_shape" = some (some (.ref f1))) (l1 : K.lookup f1 = some ⟨oc1, od1, .func (PySem.W.fnOf "parts_of_shape" "parts_of_shape" (defArgs sPartsOfShape) (defBody sPartsOfShape) (defScope sPartsOfShape) .none kV1 dc1 pm1 an1 cd1 ct1), sl1⟩) (c1 : PySem.W.codeIn K cd1 "parts_of_shape" = true) (k1 : PySem.W.keepIn K (.ref f1) = true)
    (a2 : PySem.W.nsIn K mainGlobals "with_parts" = some (some (.ref f2))) (l2 : K.lookup f2 = some ⟨oc2, od2, .func (PySem.W.fnOf "with_parts" "with_parts" (defArgs sWithParts) (defBody sWithParts) (defScope sWithParts) .none kV2 dc2 pm2 an2 cd2 ct2), sl2⟩) (c2 : PySem.W.codeIn K cd2 "with_parts" = true) (k2 : PySem.W.keepIn K (.ref f2) = true)
    (a3 : PySem.W.nsIn K mainGlobals "measures" = some (some (.ref f3))) (l3 : K.lookup f3 = some ⟨oc3, od3, .func (PySem.W.fnOf "measures" "measures" (defArgs sMeasures) (defBody sMeasures) (defScope sMeasures) .none kV3 dc3 pm3 an3 cd3 ct3), sl3⟩) (c3 : PySem.W.codeIn K cd3 "measures" = true) (k3 : PySem.W.keepIn K (.ref f3) = true)
    (a4 : PySem.W.nsIn K mainGlobals "substitute" = some (some (.ref f4))) (l4 : K.lookup f4 = some ⟨oc4, od4, .func (PySem.W.fnOf "substitute" "substitute" (defArgs sSubstitute) (defBody sSubstitute) (defScope sSubstitute) .none kV4 dc4 pm4 an4 cd4 ct4), sl4⟩) (c4 : PySem.W.codeIn K cd4 "substitute" = true) (k4 : PySem.W.keepIn K (.ref f4) = true)
    (a5 : PySem.W.nsIn K mainGlobals "check_result" = some (some (.ref f5))) (l5 : K.lookup f5 = some ⟨oc5, od5, .func (PySem.W.fnOf "check_result" "check_result" (defArgs sCheckResult) (defBody sCheckResult) (defScope sCheckResult) .none kV5 dc5 pm5 an5 cd5 ct5), sl5⟩) (c5 : PySem.W.codeIn K cd5 "check_result" = true) (k5 : PySem.W.keepIn K (.ref f5) = true)
    (a6 : PySem.W.nsIn K mainGlobals "replaced" = some (some (.ref f6))) (l6 : K.lookup f6 = some ⟨oc6, od6, .func (PySem.W.fnOf "replaced" "replaced" (defArgs sReplaced) (defBody sReplaced) (defScope sReplaced) .none kV6 dc6 pm6 an6 cd6 ct6), sl6⟩) (c6 : PySem.W.codeIn K cd6 "replaced" = true) (k6 : PySem.W.keepIn K (.ref f6) = true)
    (a7 : PySem.W.nsIn K mainGlobals "instantiate" = some (some (.ref f7))) (l7 : K.lookup f7 = some ⟨oc7, od7, .func (PySem.W.fnOf "instantiate" "instantiate" (defArgs sInstantiate) (defBody sInstantiate) (defScope sInstantiate) .none kV7 dc7 pm7 an7 cd7 ct7), sl7⟩) (c7 : PySem.W.codeIn K cd7 "instantiate" = true) (k7 : PySem.W.keepIn K (.ref f7) = true)
    (a8 : PySem.W.nsIn K mainGlobals "match_instance" = some (some (.ref f8))) (l8 : K.lookup f8 = some ⟨oc8, od8, .func (PySem.W.fnOf "match_instance" "match_instance" (defArgs sMatchInstance) (defBody sMatchInstance) (defScope sMatchInstance) .none kV8 dc8 pm8 an8 cd8 ct8), sl8⟩) (c8 : PySem.W.codeIn K cd8 "match_instance" = true) (k8 : PySem.W.keepIn K (.ref f8) = true)
    (a9 : PySem.W.nsIn K mainGlobals "matches" = some (some (.ref f9))) (l9 : K.lookup f9 = some ⟨oc9, od9, .func (PySem.W.fnOf "matches" "matches" (defArgs sMatches) (defBody sMatches) (defScope sMatches) .none kV9 dc9 pm9 an9 cd9 ct9), sl9⟩) (c9 : PySem.W.codeIn K cd9 "matches" = true) (k9 : PySem.W.keepIn K (.ref f9) = true)
    (a10 : PySem.W.nsIn K mainGlobals "same_head" = some (some (.ref f10))) (l10 : K.lookup f10 = some ⟨oc10, od10, .func (PySem.W.fnOf "same_head" "same_head" (defArgs sSameHead) (defBody sSameHead) (defScope sSameHead) .none kV10 dc10 pm10 an10 cd10 ct10), sl10⟩) (c10 : PySem.W.codeIn K cd10 "same_head" = true) (k10 : PySem.W.keepIn K (.ref f10) = true)
    (a11 : PySem.W.nsIn K mainGlobals "at_least_as_general" = some (some (.ref f11))) (l11 : K.lookup f11 = some ⟨oc11, od11, .func (PySem.W.fnOf "at_least_as_general" "at_least_as_general" (defArgs sAtLeastAsGeneral) (defBody sAtLeastAsGeneral) (defScope sAtLeastAsGeneral) .none kV11 dc11 pm11 an11 cd11 ct11), sl11⟩) (c11 : PySem.W.codeIn K cd11 "at_least_as_general" = true) (k11 : PySem.W.keepIn K (.ref f11) = true)
    (a12 : PySem.W.nsIn K mainGlobals "greatest_stamp" = some (some (.ref f12))) (l12 : K.lookup f12 = some ⟨oc12, od12, .func (PySem.W.fnOf "greatest_stamp" "greatest_stamp" (defArgs sGreatestStamp) (defBody sGreatestStamp) (defScope sGreatestStamp) .none kV12 dc12 pm12 an12 cd12 ct12), sl12⟩) (c12 : PySem.W.codeIn K cd12 "greatest_stamp" = true) (k12 : PySem.W.keepIn K (.ref f12) = true)
    (a13 : PySem.W.nsIn K mainGlobals "_law_tape" = some (some (.ref f13))) (l13 : K.lookup f13 = some ⟨oc13, od13, .func (PySem.W.fnOf "_law_tape" "_law_tape" (defArgs sLawTape) (defBody sLawTape) (defScope sLawTape) .none kV13 dc13 pm13 an13 cd13 ct13), sl13⟩) (c13 : PySem.W.codeIn K cd13 "_law_tape" = true) (k13 : PySem.W.keepIn K (.ref f13) = true)
    (a14 : PySem.W.nsIn K mainGlobals "_law_pick" = some (some (.ref f14))) (l14 : K.lookup f14 = some ⟨oc14, od14, .func (PySem.W.fnOf "_law_pick" "_law_pick" (defArgs sLawPick) (defBody sLawPick) (defScope sLawPick) .none kV14 dc14 pm14 an14 cd14 ct14), sl14⟩) (c14 : PySem.W.codeIn K cd14 "_law_pick" = true) (k14 : PySem.W.keepIn K (.ref f14) = true)
    (a15 : PySem.W.nsIn K mainGlobals "_law_leaf" = some (some (.ref f15))) (l15 : K.lookup f15 = some ⟨oc15, od15, .func (PySem.W.fnOf "_law_leaf" "_law_leaf" (defArgs sLawLeaf) (defBody sLawLeaf) (defScope sLawLeaf) .none kV15 dc15 pm15 an15 cd15 ct15), sl15⟩) (c15 : PySem.W.codeIn K cd15 "_law_leaf" = true) (k15 : PySem.W.keepIn K (.ref f15) = true)
    (a16 : PySem.W.nsIn K mainGlobals "_law_shape" = some (some (.ref f16))) (l16 : K.lookup f16 = some ⟨oc16, od16, .func (PySem.W.fnOf "_law_shape" "_law_shape" (defArgs sLawShape) (defBody sLawShape) (defScope sLawShape) .none kV16 dc16 pm16 an16 cd16 ct16), sl16⟩) (c16 : PySem.W.codeIn K cd16 "_law_shape" = true) (k16 : PySem.W.keepIn K (.ref f16) = true)
    (a17 : PySem.W.nsIn K mainGlobals "_law_parts" = some (some (.ref f17))) (l17 : K.lookup f17 = some ⟨oc17, od17, .func (PySem.W.fnOf "_law_parts" "_law_parts" (defArgs sLawParts) (defBody sLawParts) (defScope sLawParts) .none kV17 dc17 pm17 an17 cd17 ct17), sl17⟩) (c17 : PySem.W.codeIn K cd17 "_law_parts" = true) (k17 : PySem.W.keepIn K (.ref f17) = true)
    (a18 : PySem.W.nsIn K mainGlobals "_law_rebuilt" = some (some (.ref f18))) (l18 : K.lookup f18 = some ⟨oc18, od18, .func (PySem.W.fnOf "_law_rebuilt" "_law_rebuilt" (defArgs sLawRebuilt) (defBody sLawRebuilt) (defScope sLawRebuilt) .none kV18 dc18 pm18 an18 cd18 ct18), sl18⟩) (c18 : PySem.W.codeIn K cd18 "_law_rebuilt" = true) (k18 : PySem.W.keepIn K (.ref f18) = true)
    (a19 : PySem.W.nsIn K mainGlobals "_law_apply" = some (some (.ref f19))) (l19 : K.lookup f19 = some ⟨oc19, od19, .func (PySem.W.fnOf "_law_apply" "_law_apply" (defArgs sLawApply) (defBody sLawApply) (defScope sLawApply) .none kV19 dc19 pm19 an19 cd19 ct19), sl19⟩) (c19 : PySem.W.codeIn K cd19 "_law_apply" = true) (k19 : PySem.W.keepIn K (.ref f19) = true)
    (a20 : PySem.W.nsIn K mainGlobals "_law_variables" = some (some (.ref f20))) (l20 : K.lookup f20 = some ⟨oc20, od20, .func (PySem.W.fnOf "_law_variables" "_law_variables" (defArgs sLawVariables) (defBody sLawVariables) (defScope sLawVariables) .none kV20 dc20 pm20 an20 cd20 ct20), sl20⟩) (c20 : PySem.W.codeIn K cd20 "_law_variables" = true) (k20 : PySem.W.keepIn K (.ref f20) = true)
    (a21 : PySem.W.nsIn K mainGlobals "_law_match" = some (some (.ref f21))) (l21 : K.lookup f21 = some ⟨oc21, od21, .func (PySem.W.fnOf "_law_match" "_law_match" (defArgs sLawMatch) (defBody sLawMatch) (defScope sLawMatch) .none kV21 dc21 pm21 an21 cd21 ct21), sl21⟩) (c21 : PySem.W.codeIn K cd21 "_law_match" = true) (k21 : PySem.W.keepIn K (.ref f21) = true)
    (a22 : PySem.W.nsIn K mainGlobals "_law_scheme" = some (some (.ref f22))) (l22 : K.lookup f22 = some ⟨oc22, od22, .func (PySem.W.fnOf "_law_scheme" "_law_scheme" (defArgs sLawScheme) (defBody sLawScheme) (defScope sLawScheme) .none kV22 dc22 pm22 an22 cd22 ct22), sl22⟩) (c22 : PySem.W.codeIn K cd22 "_law_scheme" = true) (k22 : PySem.W.keepIn K (.ref f22) = true)
    (a23 : PySem.W.nsIn K mainGlobals "_law_general" = some (some (.ref f23))) (l23 : K.lookup f23 = some ⟨oc23, od23, .func (PySem.W.fnOf "_law_general" "_law_general" (defArgs sLawGeneral) (defBody sLawGeneral) (defScope sLawGeneral) .none kV23 dc23 pm23 an23 cd23 ct23), sl23⟩) (c23 : PySem.W.codeIn K cd23 "_law_general" = true) (k23 : PySem.W.keepIn K (.ref f23) = true)
    (a24 : PySem.W.nsIn K mainGlobals "law" = some (some (.ref f24))) (l24 : K.lookup f24 = some ⟨oc24, od24, .func (PySem.W.fnOf "law" "law" (defArgs sLaw) (defBody sLaw) (defScope sLaw) .none kV24 dc24 pm24 an24 cd24 ct24), sl24⟩) (c24 : PySem.W.codeIn K cd24 "law" = true) (k24 : PySem.W.keepIn K (.ref f24) = true)
    (z1 : PySem.W.nsIn K mainGlobals "abs" = some none) (z2 : PySem.W.nsIn K mainGlobals "max" = some none) (z3 : PySem.W.nsIn K mainGlobals "len" = some none) (z4 : PySem.W.nsIn K mainGlobals "range" = some none) (z5 : PySem.W.nsIn K mainGlobals "int" = some none) (z6 : PySem.W.nsIn K mainGlobals "tuple" = some none) (z7 : PySem.W.nsIn K mainGlobals "enumerate" = some none) (z8 : PySem.W.nsIn K mainGlobals "zip" = some none)
    {C : Addr} {u1 u2 : Tok} (y1 : PySem.W.nsIn K mainGlobals "TooLarge" = some (some (.ref C))) (y2 : PySem.W.excIn K C [.type "ValueError", .type "Exception", .type "BaseException", .type "object"] "ValueError.__new__" = true) (y3 : PySem.W.keepIn K (.ref C) = true) (y4 : PySem.W.subIn K (.ref C) (.type "BaseException") = some true)
    (y5 : PySem.W.typeIn K (.ref C) = some (.type "type")) (y6 : PySem.W.isClsIn K C = true) (y7 : PySem.W.subIn K (.ref C) (.ref C) = some true) (y8 : PySem.W.nsIn K mainGlobals "MAX_SIZE" = some (some (.int 2000 u1))) (y9 : PySem.W.nsIn K mainGlobals "MAX_DEPTH" = some (some (.int 100 u2)))
    : ∃ fd : FuncData, (∀ (s : Shared) (v : Value), BindsTo s fd ⟨[v], []⟩ [("script", v)]) ∧ ∀ base : Heap, K.In base → base.Ns mainGlobals mg → FnOk l.prog w K mg base CX0 105 fa fd ["script"] (spLaw K) := by
  have e := hfa.symm.trans (PySem.W.mg_of X G a24)
  cases e
  have F1 := fun_mk (st := sPartsOfShape) l1 c1 k1
  have b1 := F1.binds (ps := ["shape"]) fun _ _ _ _ _ _ us hl => match us, hl with | [_], _ => rfl
  have g1 := PySem.W.mg_of X G a1
  have F2 := fun_mk (st := sWithParts) l2 c2 k2
  have b2 := F2.binds (ps := ["shape", "parts"]) fun _ _ _ _ _ _ us hl => match us, hl with | [_, _], _ => rfl
  have g2 := PySem.W.mg_of X G a2
  have F3 := fun_mk (st := sMeasures) l3 c3 k3
  have b3 := F3.binds (ps := ["shape"]) fun _ _ _ _ _ _ us hl => match us, hl with | [_], _ => rfl
  have g3 := PySem.W.mg_of X G a3
  have F4 := fun_mk (st := sSubstitute) l4 c4 k4
  have b4 := F4.binds (ps := ["shape", "mapping"]) fun _ _ _ _ _ _ us hl => match us, hl with | [_, _], _ => rfl
  have g4 := PySem.W.mg_of X G a4
  have F5 := fun_mk (st := sCheckResult) l5 c5 k5
  have b5 := F5.binds (ps := ["shape", "mapping"]) fun _ _ _ _ _ _ us hl => match us, hl with | [_, _], _ => rfl
  have g5 := PySem.W.mg_of X G a5
  have F6 := fun_mk (st := sReplaced) l6 c6 k6
  have b6 := F6.binds (ps := ["shape", "mapping"]) fun _ _ _ _ _ _ us hl => match us, hl with | [_, _], _ => rfl
  have g6 := PySem.W.mg_of X G a6
  have F7 := fun_mk (st := sInstantiate) l7 c7 k7
  have b7 := F7.binds (ps := ["scheme", "shapes"]) fun _ _ _ _ _ _ us hl => match us, hl with | [_, _], _ => rfl
  have g7 := PySem.W.mg_of X G a7
  have F8 := fun_mk (st := sMatchInstance) l8 c8 k8
  have b8 := F8.binds (ps := ["scheme", "shape"]) fun _ _ _ _ _ _ us hl => match us, hl with | [_, _], _ => rfl
  have g8 := PySem.W.mg_of X G a8
  have F9 := fun_mk (st := sMatches) l9 c9 k9
  have b9 := F9.binds (ps := ["pattern", "shape", "count", "found"]) fun _ _ _ _ _ _ us hl => match us, hl with | [_, _, _, _], _ => rfl
  have g9 := PySem.W.mg_of X G a9
  have F10 := fun_mk (st := sSameHead) l10 c10 k10
  have b10 := F10.binds (ps := ["first", "second"]) fun _ _ _ _ _ _ us hl => match us, hl with | [_, _], _ => rfl
  have g10 := PySem.W.mg_of X G a10
  have F11 := fun_mk (st := sAtLeastAsGeneral) l11 c11 k11
  have b11 := F11.binds (ps := ["scheme", "other"]) fun _ _ _ _ _ _ us hl => match us, hl with | [_, _], _ => rfl
  have g11 := PySem.W.mg_of X G a11
  have F12 := fun_mk (st := sGreatestStamp) l12 c12 k12
  have b12 := F12.binds (ps := ["shape"]) fun _ _ _ _ _ _ us hl => match us, hl with | [_], _ => rfl
  have g12 := PySem.W.mg_of X G a12
  have F13 := fun_mk (st := sLawTape) l13 c13 k13
  have b13 := F13.binds (ps := ["script", "many"]) fun _ _ _ _ _ _ us hl => match us, hl with | [_, _], _ => rfl
  have g13 := PySem.W.mg_of X G a13
  have F14 := fun_mk (st := sLawPick) l14 c14 k14
  have b14 := F14.binds (ps := ["tape", "at", "many"]) fun _ _ _ _ _ _ us hl => match us, hl with | [_, _, _], _ => rfl
  have g14 := PySem.W.mg_of X G a14
  have F15 := fun_mk (st := sLawLeaf) l15 c15 k15
  have b15 := F15.binds (ps := ["tape", "at", "free"]) fun _ _ _ _ _ _ us hl => match us, hl with | [_, _, _], _ => rfl
  have g15 := PySem.W.mg_of X G a15
  have F16 := fun_mk (st := sLawShape) l16 c16 k16
  have b16 := F16.binds (ps := ["tape", "at", "level", "free"]) fun _ _ _ _ _ _ us hl => match us, hl with | [_, _, _, _], _ => rfl
  have g16 := PySem.W.mg_of X G a16
  have F17 := fun_mk (st := sLawParts) l17 c17 k17
  have b17 := F17.binds (ps := ["shape"]) fun _ _ _ _ _ _ us hl => match us, hl with | [_], _ => rfl
  have g17 := PySem.W.mg_of X G a17
  have F18 := fun_mk (st := sLawRebuilt) l18 c18 k18
  have b18 := F18.binds (ps := ["shape", "parts"]) fun _ _ _ _ _ _ us hl => match us, hl with | [_, _], _ => rfl
  have g18 := PySem.W.mg_of X G a18
  have F19 := fun_mk (st := sLawApply) l19 c19 k19
  have b19 := F19.binds (ps := ["shape", "pairs"]) fun _ _ _ _ _ _ us hl => match us, hl with | [_, _], _ => rfl
  have g19 := PySem.W.mg_of X G a19
  have F20 := fun_mk (st := sLawVariables) l20 c20 k20
  have b20 := F20.binds (ps := ["shape", "found"]) fun _ _ _ _ _ _ us hl => match us, hl with | [_, _], _ => rfl
  have g20 := PySem.W.mg_of X G a20
  have F21 := fun_mk (st := sLawMatch) l21 c21 k21
  have b21 := F21.binds (ps := ["pattern", "shape", "found"]) fun _ _ _ _ _ _ us hl => match us, hl with | [_, _, _], _ => rfl
  have g21 := PySem.W.mg_of X G a21
  have F22 := fun_mk (st := sLawScheme) l22 c22 k22
  have b22 := F22.binds (ps := ["shape"]) fun _ _ _ _ _ _ us hl => match us, hl with | [_], _ => rfl
  have g22 := PySem.W.mg_of X G a22
  have F23 := fun_mk (st := sLawGeneral) l23 c23 k23
  have b23 := F23.binds (ps := ["one", "other"]) fun _ _ _ _ _ _ us hl => match us, hl with | [_, _], _ => rfl
  have g23 := PySem.W.mg_of X G a23
  have F24 := fun_mk (st := sLaw) l24 c24 k24
  have m_abs := PySem.W.mg_none_of X G z1
  have m_max := PySem.W.mg_none_of X G z2
  have m_len := PySem.W.mg_none_of X G z3
  have m_range := PySem.W.mg_none_of X G z4
  have m_int := PySem.W.mg_none_of X G z5
  have m_tuple := PySem.W.mg_none_of X G z6
  have m_enumerate := PySem.W.mg_none_of X G z7
  have m_zip := PySem.W.mg_none_of X G z8
  refine ⟨PySem.W.fnOf "law" "law" (defArgs sLaw) (defBody sLaw) (defScope sLaw) .none kV24 dc24 pm24 an24 cd24 ct24, fun s v => .of_eq rfl, fun base _ _ => ?_⟩
  have T : ExcT K mg "TooLarge" C := ⟨PySem.W.mg_of X G y1, y2, y3, y4, y5, y6, y7⟩
  have Oq : Own l.prog w K mg base CX0 1 "parts_of_shape" _ _ ["shape"] (spParts K) := ⟨ok_parts (k := 0) F1, b1, F1.kp, g1⟩
  have Ow : Own l.prog w K mg base CX0 1 "with_parts" _ _ ["shape", "parts"] (spWith K) := ⟨ok_with (k := 0) F2 m_tuple, b2, F2.kp, g2⟩
  have Om : Own l.prog w K mg base CX0 2 "measures" _ _ ["shape"] (spMeas K) := ⟨ok_meas F3 Oq m_max, b3, F3.kp, g3⟩
  have Oq2 : Own l.prog w K mg base CX0 2 "parts_of_shape" _ _ ["shape"] (spParts K) := ⟨ok_parts (k := 1) F1, b1, F1.kp, g1⟩
  have Oc : Own l.prog w K mg base (L2.CX l.prog w) 3 "check_result" _ _ ["shape", "mapping"] (spCheck K C) := ⟨ok_check F5 Oq2 Om T (PySem.W.mg_of X G y8) (PySem.W.mg_of X G y9), b5, F5.kp, g5⟩
  have Orp : Own l.prog w K mg base CX0 101 "replaced" _ _ ["shape", "mapping"] (spRepl K 100) := ⟨repl_all F6 b6 g6 Oq Ow 100, b6, F6.kp, g6⟩
  have Ou : Own l.prog w K mg base (L2.CX l.prog w) 102 "substitute" _ _ ["shape", "mapping"] (spSubst K C) := ⟨ok_subst F4 Oc (by decide) Orp, b4, F4.kp, g4⟩
  have Oin : Own l.prog w K mg base (L2.CX l.prog w) 103 "instantiate" _ _ ["scheme", "shapes"] (spInst K C) := ⟨ok_inst F7 Ou m_enumerate, b7, F7.kp, g7⟩
  have Oh : Own l.prog w K mg base CX0 2 "same_head" _ _ ["first", "second"] (spHead K) := ⟨ok_head F10 Oq m_len, b10, F10.kp, g10⟩
  have Oma : Own l.prog w K mg base CX0 17 "matches" _ _ ["pattern", "shape", "count", "found"] (spMatch K 10) := ⟨match_all F9 b9 g9 Oh Oq m_zip 10, b9, F9.kp, g9⟩
  have Omi : Own l.prog w K mg base CX0 18 "match_instance" _ _ ["scheme", "shape"] (spMi K) := ⟨ok_mi F8 Oma m_range m_tuple, b8, F8.kp, g8⟩
  have Ot : Own l.prog w K mg base CX0 1 "_law_tape" _ _ ["script", "many"] (spTape K) := ⟨ok_tape (k := 0) F13 m_abs m_max m_len m_range m_int, b13, F13.kp, g13⟩
  have Op : Own l.prog w K mg base CX0 1 "_law_pick" _ _ ["tape", "at", "many"] (spPick K) := ⟨ok_pick (k := 0) F14 m_int m_len, b14, F14.kp, g14⟩
  have Ol : Own l.prog w K mg base CX0 2 "_law_leaf" _ _ ["tape", "at", "free"] (spLeaf K) := ⟨ok_leaf F15 Op m_len, b15, F15.kp, g15⟩
  have Os : Own l.prog w K mg base CX0 6 "_law_shape" _ _ ["tape", "at", "level", "free"] (spShape K 4) := ⟨shape_all F16 b16 g16 Op Ol m_range m_tuple 4, b16, F16.kp, g16⟩
  have Olp : Own l.prog w K mg base CX0 1 "_law_parts" _ _ ["shape"] (spParts K) := ⟨ok_lparts (k := 0) F17, b17, F17.kp, g17⟩
  have Olr : Own l.prog w K mg base CX0 1 "_law_rebuilt" _ _ ["shape", "parts"] (spWith K) := ⟨ok_lreb (k := 0) F18 m_tuple, b18, F18.kp, g18⟩
  have Oa : Own l.prog w K mg base CX0 13 "_law_apply" _ _ ["shape", "pairs"] (spApply K 12) := ⟨apply_all F19 b19 g19 Olp Olr 12, b19, F19.kp, g19⟩
  have Olv : Own l.prog w K mg base CX0 11 "_law_variables" _ _ ["shape", "found"] (spLv K 10) := ⟨lv_all F20 b20 g20 Olp 10, b20, F20.kp, g20⟩
  have Olm : Own l.prog w K mg base CX0 19 "_law_match" _ _ ["pattern", "shape", "found"] (spLm K 12) := ⟨lm_all F21 b21 g21 Olp m_enumerate m_len 12, b21, F21.kp, g21⟩
  have Ogs : Own l.prog w K mg base CX0 11 "greatest_stamp" _ _ ["shape"] (spGs K 10) := ⟨gs_all F12 b12 g12 Oq m_max 10, b12, F12.kp, g12⟩
  have Oal : Own l.prog w K mg base CX0 104 "at_least_as_general" _ _ ["scheme", "other"] (spAl K) := ⟨ok_al F11 Ogs Oin Omi m_max m_range, b11, F11.kp, g11⟩
  have Osc : Own l.prog w K mg base CX0 14 "_law_scheme" _ _ ["shape"] (spLsch K) := ⟨ok_lsch F22 Olv Oa m_len, b22, F22.kp, g22⟩
  have Olg : Own l.prog w K mg base CX0 20 "_law_general" _ _ ["one", "other"] (spLg K) := ⟨ok_lg F23 Oa Olm m_range, b23, F23.kp, g23⟩
  exact ok_law F24 Ot Op Os Osc Oa Oal Olg m_range
end Vs
open PySem PySem.W PyProof.Rows
set_option maxHeartbeats 0 in
theorem PySem.Challenge.cw_shapewright_k15_order_of_generality_holds : PySem.Challenge.rw_shapewright_k15_order_of_generality.Holds := by
  w_on; o_law; k_head; (case hw => w_witness2)
  k_fill
  refine L2.walk_of (l := PySem.Challenge.rw_shapewright_k15_order_of_generality) (n := 63) (k := 105) (x := "script") (CX := fun _ => L2.CX0) (sp := fun w => Vs.spLaw _) rfl (by decide) rfl ⟨rfl, by decide, by decide⟩ (fun w h Y => PySem.W.kIn_of Y) ?F (fun _ _ a ns hl _ hS => ⟨a, ns, rfl, hS, hl, fun _ => rfl⟩) (fun _ _ _ _ _ h => h)
  case F =>
    intro w mg fa h KX G hmg
    refine' Vs.all_mk KX G hmg ?a1 ?l1 ?c1 ?k1 ?a2 ?l2 ?c2 ?k2 ?a3 ?l3 ?c3 ?k3 ?a4 ?l4 ?c4 ?k4 ?a5 ?l5 ?c5 ?k5 ?a6 ?l6 ?c6 ?k6 ?a7 ?l7 ?c7 ?k7 ?a8 ?l8 ?c8 ?k8 ?a9 ?l9 ?c9 ?k9 ?a10 ?l10 ?c10 ?k10 ?a11 ?l11 ?c11 ?k11 ?a12 ?l12 ?c12 ?k12 ?a13 ?l13 ?c13 ?k13 ?a14 ?l14 ?c14 ?k14 ?a15 ?l15 ?c15 ?k15 ?a16 ?l16 ?c16 ?k16 ?a17 ?l17 ?c17 ?k17 ?a18 ?l18 ?c18 ?k18 ?a19 ?l19 ?c19 ?k19 ?a20 ?l20 ?c20 ?k20 ?a21 ?l21 ?c21 ?k21 ?a22 ?l22 ?c22 ?k22 ?a23 ?l23 ?c23 ?k23 ?a24 ?l24 ?c24 ?k24 ?z1 ?z2 ?z3 ?z4 ?z5 ?z6 ?z7 ?z8 ?y1 ?y2 ?y3 ?y4 ?y5 ?y6 ?y7 ?y8 ?y9
    (case a1 => k_is)
    (case l1 => k_is)
    (case c1 => k_is)
    (case k1 => k_is)
    (case a2 => k_is)
    (case l2 => k_is)
    (case c2 => k_is)
    (case k2 => k_is)
    (case a3 => k_is)
    (case l3 => k_is)
    (case c3 => k_is)
    (case k3 => k_is)
    (case a4 => k_is)
    (case l4 => k_is)
    (case c4 => k_is)
    (case k4 => k_is)
    (case a5 => k_is)
    (case l5 => k_is)
    (case c5 => k_is)
    (case k5 => k_is)
    (case a6 => k_is)
    (case l6 => k_is)
    (case c6 => k_is)
    (case k6 => k_is)
    (case a7 => k_is)
    (case l7 => k_is)
    (case c7 => k_is)
    (case k7 => k_is)
    (case a8 => k_is)
    (case l8 => k_is)
    (case c8 => k_is)
    (case k8 => k_is)
    (case a9 => k_is)
    (case l9 => k_is)
    (case c9 => k_is)
    (case k9 => k_is)
    (case a10 => k_is)
    (case l10 => k_is)
    (case c10 => k_is)
    (case k10 => k_is)
    (case a11 => k_is)
    (case l11 => k_is)
    (case c11 => k_is)
    (case k11 => k_is)
    (case a12 => k_is)
    (case l12 => k_is)
    (case c12 => k_is)
    (case k12 => k_is)
    (case a13 => k_is)
    (case l13 => k_is)
    (case c13 => k_is)
    (case k13 => k_is)
    (case a14 => k_is)
    (case l14 => k_is)
    (case c14 => k_is)
    (case k14 => k_is)
    (case a15 => k_is)
    (case l15 => k_is)
    (case c15 => k_is)
    (case k15 => k_is)
    (case a16 => k_is)
    (case l16 => k_is)
    (case c16 => k_is)
    (case k16 => k_is)
    (case a17 => k_is)
    (case l17 => k_is)
    (case c17 => k_is)
    (case k17 => k_is)
    (case a18 => k_is)
    (case l18 => k_is)
    (case c18 => k_is)
    (case k18 => k_is)
    (case a19 => k_is)
    (case l19 => k_is)
    (case c19 => k_is)
    (case k19 => k_is)
    (case a20 => k_is)
    (case l20 => k_is)
    (case c20 => k_is)
    (case k20 => k_is)
    (case a21 => k_is)
    (case l21 => k_is)
    (case c21 => k_is)
    (case k21 => k_is)
    (case a22 => k_is)
    (case l22 => k_is)
    (case c22 => k_is)
    (case k22 => k_is)
    (case a23 => k_is)
    (case l23 => k_is)
    (case c23 => k_is)
    (case k23 => k_is)
    (case a24 => k_is)
    (case l24 => k_is)
    (case c24 => k_is)
    (case k24 => k_is)
    (case z1 => k_is)
    (case z2 => k_is)
    (case z3 => k_is)
    (case z4 => k_is)
    (case z5 => k_is)
    (case z6 => k_is)
    (case z7 => k_is)
    (case z8 => k_is)
    (case y1 => k_is)
    (case y2 => first | k_exc | k_is)
    (case y3 => k_is)
    (case y4 => k_is)
    (case y5 => k_is)
    (case y6 => k_is)
    (case y7 => first | rfl | k_is)
    (case y8 => k_is)
    (case y9 => k_is)
