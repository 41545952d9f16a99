import PyProof.Rows.All
import Wide.All
import OpenK.AllK
import Wide.FinOn
import HandS.ForMost
import HandS.ForExc
import HandS.Rev
import HandS.TupAny
import HandS.More
import HandS.Star
import HandS.Codes
import HandS.DictComp
import HandS.SetKeys
import HandS.Style
import KE.KDictList
import KE.GoesMore
import HandS.Zip
import HandS.IsInst
import HandS.Wide
import HandS.Flow
import HandS.FStr
import HandS.Deep
import HandS.TupMul
import HandS.SortInts
import PySem.Challenge.RW_shapewright_k73_collection_keeps_what_is
set_option Elab.async false
set_option linter.all false
set_option maxRecDepth 100000
/-! Rules of my own: xs.extend(a tuple); t[::-1] of a tuple; tuple(a dict). -/
namespace Vr
open PySem PySem.Spec PyProof.Rows L2
theorem ext_meets (l : Addr) (xs : Array Value) (n : Nat) (b : Addr) (ys : Array Value) (m : Nat) (dd : Option Addr) (sl : Array (Option Value)) (h0 : ¬(!xs.isEmpty && Builtin.List.listTooLong (xs.size + ys.size)) = true) (h1 : xs.size ≤ sizeLine) (h2 : xs.size + ys.size ≤ sizeLine + 1) :
    Meets (Builtin.«list.extend» ⟨[.ref l, .ref b], []⟩) (fun _ R s => s.heap.get? l = some { cls := .type "list", dict := none, data := .seq xs n, slots := #[] } ∧ s.heap.get? b = some { cls := .type "tuple", dict := dd, data := .seq ys m, slots := sl } ∧
      R (.ok (.ret Value.none)) { s with heap := s.heap.update l (Obj.mapSeq fun x => x ++ ys), toks := s.toks }) :=
  .of_wp fun prog w A R s h => by
    obtain ⟨hp, g, d, tk, os⟩ := s
    obtain ⟨hl, hb, h⟩ := h
    have f1 := AutoSeq1.idx_int
    have f2 := AutoSeq1.sub_tuple_tuple
    have f3 := AutoSeq1.sub_list_list
    have f4 := AutoSeq1.sub_tuple_list
    have f5 := AutoSeq1.sub_list_tuple
    have hz : (xs ++ ys).size ≤ sizeLine + 1 := by
      rw [Array.size_append]
      exact h2
    wp_walk using (wpAny_updateSeq hl rfl (hz := h1) (_hz' := hz)), AutoSeq1.wpAny_loadPart' hl, AutoSeq1.wpAny_loadPart' hb
    exact ⟨_, rfl, h⟩
section
variable {X : Cx}
def rExtT (K : PySem.W.Frag) : V → List V → Hp → VK → Prop := fun x vs H Q => ∃ l b xs zs, x = .ref l ∧ vs = [.ref b] ∧ H l = some (.lst xs) ∧ SqT K H b zs ∧ xs.length + zs.length ≤ sizeLine ∧ Q .non (upd H l (.lst (xs ++ zs)))
theorem mt_extendT : MtM X "list.extend" (rExtT X.K) := by
  intro pins s σ H x vs v us Q I rx rv h
  obtain ⟨l, b, xs, zs, rfl, rfl, hH, hB, hz, q⟩ := h
  cases rx
  obtain ⟨u, rfl, ru⟩ := rv.one
  cases ru
  obtain ⟨z, its, n, r, hl, e⟩ := I.lstM hH
  obtain ⟨its2, r2, ht2, z2⟩ := I.tuple hB
  have len1 := r.length
  have len2 := r2.length
  obtain ⟨o2, ho2, hc2, n2, hd2⟩ := id ht2
  obtain ⟨c2, dd2, da2, sl2⟩ := o2
  simp only at hc2 hd2
  subst hc2 hd2
  have total : its.toArray.size + its2.toArray.size ≤ sizeLine := by
    rw [List.size_toArray, List.size_toArray]
    omega
  have short : ¬ (!its.toArray.isEmpty && Builtin.List.listTooLong (its.toArray.size + its2.toArray.size)) = true := by
    rw [notLongL total, Bool.and_false]
    exact Bool.false_ne_true
  refine call_meets PySem.F.slot_list_extend ⟨_, e, rfl⟩ PySem.F.entry_list_extend (PySem.F.args_list_extend_2 _ _)
    (ext_meets l its.toArray n b its2.toArray n2 dd2 sl2 short (by rw [List.size_toArray]; omega) (by omega)) ⟨e, ho2, ?_⟩
  refine ⟨.non, _, I.lset (its' := its ++ its2) hH e (by simp) (r.append r2) ?_, rfl, q⟩
  rw [List.length_append]
  omega
end

/-! ### t[::-1] -/
section
variable {prog : Program} {w : World} {A : Around} {E : Value → Shared → Prop} {s : Shared}
theorem applied_back {sl : Addr} {vl vu vs : Value} {n : Nat} {Q : Int × Int × Nat → Shared → Prop} (hs : s.heap.IsSliceOf sl vl vu vs) (pl : IsPart vl none) (pu : IsPart vu none) (ps : IsPart vs (some (-1)))
    (h : Q ((n : Int) - 1, -1, n) s) : wpAny (model prog w) A (Builtin.Slice.sliceApplied (.ref sl) (pure (n : Int))) Q E s := by
  obtain ⟨os, hos, hcs, hds⟩ := id hs
  unfold Builtin.Slice.sliceApplied Builtin.Slice.sliceFields
  refine wpAny_bind (wpAny_bind (wpAny_field hos hds (x := vl) rfl (wpAny_bind (wpAny_field hos hds (x := vu) rfl (wpAny_bind (wpAny_field hos hds (x := vs) rfl (wpAny_pure ?_)))))))
  refine wpAny_bind (HT.slicePart_ ps ?_)
  show wpAny _ _ (if ((-1 : Int) == 0) = true then _ else _) _ _ s
  rw [if_neg (by decide)]
  refine wpAny_bind (HT.slicePart_ pl (wpAny_bind (HT.slicePart_ pu (wpAny_bind (wpAny_pure ?_)))))
  have e : Builtin.Slice.slicePlaces ((n : Int) - 1) (-1) (-1) = n := by
    unfold Builtin.Slice.slicePlaces
    rw [if_neg (by decide)]
    by_cases c : (n : Int) - 1 > -1
    · rw [if_pos c, show -(-1 : Int) = 1 by decide, Int.ediv_one]
      omega
    · rw [if_neg c]
      omega
  show wpAny _ _ (pure ((n : Int) - 1, (-1 : Int), Builtin.Slice.slicePlaces ((n : Int) - 1) (-1) (-1))) _ _ s
  rw [e]
  exact wpAny_pure h
theorem fm_congr {α β : Type} {f g : α → Option β} : ∀ {l : List α}, (∀ x ∈ l, f x = g x) → l.filterMap f = l.filterMap g
  | [], _ => rfl
  | x :: r, h => by
    rw [List.filterMap_cons, List.filterMap_cons, h x List.mem_cons_self, fm_congr fun y hy => h y (List.mem_cons_of_mem _ hy)]
theorem pick_back (xs : Array Value) : ((List.range xs.size).filterMap fun (m : Nat) => xs[((xs.size : Int) - 1 + (m : Int) * -1).toNat]?).toArray = xs.toList.reverse.toArray := by
  have e := PySem.W.krv_pick xs
  unfold slicePick at e
  rw [PySem.W.krv_bounds] at e
  have e2 : ((sliceRange ((xs.size : Int) - 1) (-1) (-1)).filterMap (xs[·]?)).toArray = xs.toList.reverse.toArray := e
  rw [PySem.W.krv_sliceRange, List.filterMap_map] at e2
  rw [← e2]
  refine congrArg List.toArray (fm_congr fun m hm => ?_)
  have := List.mem_range.mp hm
  show xs[((xs.size : Int) - 1 + (m : Int) * -1).toNat]? = xs[xs.size - 1 - m]?
  rw [show ((xs.size : Int) - 1 + (m : Int) * -1).toNat = xs.size - 1 - m by omega]
theorem item_back {t sl : Addr} {items : Array Value} {vl vu vs : Value} {Q : Value → Shared → Prop} (ht : IsTup s.heap t items) (hs : s.heap.IsSliceOf sl vl vu vs) (pl : IsPart vl none) (pu : IsPart vu none) (ps : IsPart vs (some (-1)))
    (h : Q (.ref s.heap.objs.size) { s with heap := s.heap.push { cls := .type "tuple", data := .seq items.toList.reverse.toArray } }) (hsz : items.size ≤ sizeLine) : wpAny (model prog w) A (getItem (.ref t) (.ref sl)) Q E s := by
  have htake : sizeOk (.seq items.toList.reverse.toArray) := by
    show items.toList.reverse.toArray.size ≤ sizeLine
    rw [List.size_toArray, List.length_reverse, Array.length_toList]
    exact hsz
  obtain ⟨os, hos, hcs, hds⟩ := id hs
  have hTs : s.TypeIs (.ref sl) "slice" := ⟨os, hos, hcs⟩
  unfold getItem
  try with_reducible refine wpAny_holding ?_
  first | refine wpAny_bind (wpAny_pure ?_) | skip
  refine wpAny_bind (wpAny_sequenceKey ht.typeIs (by decide) ?_)
  refine wpAny_bind (wpAny_callSpecial?_slot (name := Str.ofString "__getitem__") ht.typeIs PyProof.Rows.slot_tuple_getitem
    (wpAny_call_entry PyProof.Rows.slot_tuple_getitem ht.typeIs entry_tuple_getitem ?_ (args_tuple_getitem _ _)))
  show wpAny _ _ (Builtin.Tuple.tupleItemsOf (.ref t) >>= _) _ _ s
  refine wpAny_bind (tupleItemsOf_ ht ?_)
  refine wpAny_bind (wpAny_typeOf hTs ?_)
  rw [if_pos (by decide)]
  refine wpAny_bind (applied_back hs pl pu ps ?_)
  have hno : ¬ ((((items.size : Int) - 1) == 0 && (-1 : Int) == 1 && items.size == items.size) = true) := by
    intro q
    rw [Bool.and_eq_true, Bool.and_eq_true] at q
    exact absurd q.1.2 (by decide)
  show wpAny _ _ (if (((items.size : Int) - 1) == 0 && (-1 : Int) == 1 && items.size == items.size) = true then _ else _) _ _ s
  rw [if_neg hno, pick_back]
  first
    | exact wpAny_bind (m := Builtin.Tuple.tupleExact _) (wpAny_newObj_type (wpAny_pure ⟨_, rfl, wpAny_pure h⟩) htake)
    | exact wpAny_bind (m := Builtin.Tuple.tupleExact _) (wpAny_newObj_type (wpAny_bind (wpAny_pure (wpAny_pure ⟨_, rfl, wpAny_pure h⟩))) htake)
end
def tRevT (K : PySem.W.Frag) (te : TE) : TE := fun σ H Q => te σ H fun x H1 => ∃ a xs, x = .ref a ∧ SqT K H1 a xs ∧ ∀ p, H1 p = none → Q (.ref p) (upd H1 p (.tup xs.reverse))
section
variable {X : Cx}
theorem pe_revT {e : Expr} {te : TE} {k : Nat} {p1 p2 p3 pos : Pos} (he : PE X e te) : PE X (.Subscript e (.Slice none none (some (.UnaryOp .USub (.Constant (.int 1) k p1) p2)) p3) pos) (tRevT X.K te) := by
  refine ⟨fun pins s σ H Q I h => ?_⟩
  refine Subscript_ (thn (he.run pins s σ H _ I h) fun v s1 ⟨x, H1, I1, r1, q1⟩ => ?_)
  obtain ⟨a, xs, ex, hx, q⟩ := q1
  subst ex
  cases r1
  have hst : PO X (some (.UnaryOp .USub (.Constant (.int 1) k p1) p2)) (tPart (tUn (rU fun i => .int (-i)) (tC (.int 1)))) := po_some (pe_un un_neg pe_int)
  refine wpAny_Slice (thn (po_none.run pins s1 σ H1 (fun o H2 => o = none ∧ H2 = H1) I1 ⟨rfl, rfl⟩) fun vl s2 ⟨l, H2, I2, pl, el, e2⟩ => ?_)
  subst el e2
  refine thn (po_none.run pins s2 σ H2 (fun o H3 => o = none ∧ H3 = H2) I2 ⟨rfl, rfl⟩) fun vu s3 ⟨u, H3, I3, pu, eu, e3⟩ => ?_
  subst eu e3
  refine thn (hst.run pins s3 σ H3 (fun o H4 => o = some (-1) ∧ H4 = H3) I3 ⟨1, rfl, -1, rfl, rfl, rfl⟩) fun vs s4 ⟨o, H4, I4, ps, eo, e4⟩ => ?_
  subst eo e4
  have I5 : Inv X pins σ H4 { s4 with heap := s4.heap.push { cls := .type "slice", data := .fields #[vl, vu, vs] } } := I4.kept (t' := s4.toks) fun b ob q => Heap.get?_push_of_some _ q
  obtain ⟨its, r, ht, hz⟩ := I5.tuple hx
  have hlen := r.length
  show wpAny (model X.prog X.w) X.A (subscriptTail e (.Slice none none (some (.UnaryOp .USub (.Constant (.int 1) k p1) p2)) p3) (.ref a) (.ref s4.heap.objs.size)) (EP X pins σ Q) X.xe { s4 with heap := s4.heap.push { cls := .type "slice", data := .fields #[vl, vu, vs] } }
  refine tail_any (ops := [.ref a, .ref s4.heap.objs.size]) ht.typeIs (PyProof.Rows.slot_tuple_getitem.lookup) ?_ (by with_unfolding_all rfl)
  refine item_back ht (Heap.IsSliceOf.new _ vl vu vs) pl pu ps ?_ (by rw [List.size_toArray]; omega)
  refine ⟨.ref _, _, I5.laid (t' := s4.toks) (o := .tup xs.reverse) (fun b ob q => Heap.get?_push_of_some _ q) (Nat.le_refl _) ?_, rfl, q _ (I5.hok.fresh (Nat.le_refl _))⟩
  exact ⟨by rw [List.length_reverse]; exact hz, its.reverse, r.reverse, IsTup.new _ _⟩
end

/-! ### tuple(d) of a dict: its keys -/
section
variable {prog : Program} {w : World} {A : Around} {E : Value → Shared → Prop} {s : Shared} {T : String} {r d : Addr} {n : Nat} {P : Nat → Value → Prop} {OK : Heap → Prop}
open PySem.W in
theorem collect_src {Q : List Value → Shared → Prop} (K : KdlSrc prog w T r d n P OK) (hh : A.handled = none) (hok : OK s.heap) (hn : n ≤ sizeLine)
    (hQ : ∀ (h' : Heap) (tk : Nat) (acc : Array Value), (∀ b o, s.heap.get? b = some o → h'.get? b = some o) → ItemsOf P acc n → Q acc.toList { s with heap := h', toks := tk }) : wpAny (model prog w) A (collect (.ref r)) Q E s := by
  have hlt := K.there _ hok
  unfold collect
  refine wpAny_bind (wpAny_runValue (codeAny_builtin PySem.F.entry_proto_collect ?_))
  rw [Around.under_plainId PySem.F.plain_proto_collect _]
  show wpAny _ A.in1 (newList [] >>= fun l' => again (.builtin "list.__iadd__" ⟨[l', .ref r], []⟩)) _ _ s
  refine wpAny_bind (wpAny_newObj_type ?_)
  refine wpAny_pure ⟨plainId_quiet PySem.F.plain_list_iadd _, codeAny_builtin PySem.F.entry_list_iadd ?_⟩
  rw [Around.under_plainId PySem.F.plain_list_iadd _]
  have hS₁ : (s.heap.push { cls := .type "list", data := .seq ([] : List Value).toArray }).get? s.heap.objs.size = some { cls := .type "list", data := .seq ([] : List Value).toArray } := Heap.get?_push_size _ rfl
  show wpAny _ A.in1 (Builtin.List.listExtendWith (.ref s.heap.objs.size) (.ref r) (.ref s.heap.objs.size)) _ _ _
  refine wpAny_mono (kdl_extend (A := A) (R := fun rr s' => rr = .ok (.ret (.ref s.heap.objs.size)) ∧ ∃ (h' : Heap) (tk : Nat) (acc : Array Value) (c' : Nat), s' = { s with heap := h', toks := tk } ∧
      (∀ b o, s.heap.get? b = some o → h'.get? b = some o) ∧ h'.get? s.heap.objs.size = some { cls := .type "list", dict := none, data := .seq acc c', slots := #[] } ∧ ItemsOf P acc n)
    (s := { s with heap := s.heap.push { cls := .type "list", data := .seq ([] : List Value).toArray } }) K hh (K.keep _ _ hok fun b _ o e => Heap.get?_push_of_some _ e) s.heap.objs.size (Nat.ne_of_gt hlt.1) (Nat.ne_of_gt hlt.2) (.ref s.heap.objs.size) 0 hS₁
    (fun h' tk acc' c' hk hS' hacc => ⟨rfl, h', tk, acc', c', rfl, fun b o e => hk b o (Nat.ne_of_lt (Heap.lt_size e)) (Heap.get?_push_of_some _ e), hS', hacc⟩) hn) (fun fin s' h => ?_) (fun e s' h => ?_)
  · cases fin with
    | done f =>
      obtain ⟨e, h', tk, acc, c', rfl, hk, hS', hi⟩ := h
      cases e
      show wpAny _ A (load s.heap.objs.size >>= _) _ _ _
      exact wpAny_bind (wpAny_load hS' (wpAny_pure (hQ h' tk acc hk hi)))
    | again c' =>
      refine ⟨h.1, codeAny_mono h.2 fun rr s'' hr' => ?_⟩
      obtain ⟨rfl, h', tk, acc, c', rfl, hk, hS', hi⟩ := hr'
      show wpAny _ A (load s.heap.objs.size >>= _) _ _ _
      exact wpAny_bind (wpAny_load hS' (wpAny_pure (hQ h' tk acc hk hi)))
  · exact absurd h.1 (by simp)
open PySem.W in
theorem code_tuple_src {Q₁ : Value → Shared → Prop} (K : KdlSrc prog w T r d n P OK) (hh : A.handled = none) (hok : OK s.heap) (hn : n ≤ sizeLine)
    (h : ∀ (h' : Heap) (tk : Nat) (acc : Array Value), (∀ b o, s.heap.get? b = some o → h'.get? b = some o) → ItemsOf P acc n → Q₁ (.ref h'.objs.size) { s with heap := h'.push { cls := .type "tuple", data := .seq acc }, toks := tk })
    (ne : (Value.type T == Value.type "tuple") = false) :
    codeAny (model prog w) A (.call (.builtin "tuple.__new__") ⟨[.type "tuple", .ref r], []⟩) (wants Q₁ E) s := by
  refine codeAny_of_tree ?_
  show wpAny _ A.in1 (do checkBuiltinCall "tuple.__new__" ⟨[.type "tuple", .ref r], []⟩; again (.builtin "tuple.__new__" ⟨[.type "tuple", .ref r], []⟩)) _ _ s
  refine wpAny_bind (wpAny_of_eq (PySem.F.newCall_tuple_1 _) (wpAny_pure ⟨plainId_quiet PySem.F.plain_tuple_new _, codeAny_builtin PySem.F.entry_tuple_new ?_⟩))
  rw [Around.under_plainId PySem.F.plain_tuple_new _]
  have hsub := sub_tuple_self
  have hinit := init_tuple_lookup
  have hmh := madeHere_tuple
  have hTI : s.TypeIs (.ref r) T := K.type _ hok
  have hh1 : A.in1.handled = none := hh
  wp_walk using wpAny_typeOf hTI, collect_src (A := A.in1) K hh1 hok hn
  intro h' tk acc hk hacc
  show wpAny _ _ (Builtin.Tuple.tupleExact acc.toList.toArray >>= fun v => ret v) _ _ _
  unfold Builtin.Tuple.tupleExact
  refine wpAny_bind (wpAny_newObj_type ?_ (by show acc.toList.toArray.size ≤ sizeLine; simp only [Array.toArray_toList]; rw [hacc.1]; exact hn))
  refine wpAny_pure ?_
  have e : acc.toList.toArray = acc := by simp
  rw [e]
  exact h h' tk acc hk hacc
open PySem.W in
theorem call_tuple_src {Q : Value → Shared → Prop} (K : KdlSrc prog w T r d n P OK) (hh : A.handled = none) (hok : OK s.heap) (hn : n ≤ sizeLine) (ne : (Value.type T == Value.type "tuple") = false)
    (hQ : ∀ (h' : Heap) (tk : Nat) (acc : Array Value), (∀ b o, s.heap.get? b = some o → h'.get? b = some o) → ItemsOf P acc n → Q (.ref h'.objs.size) { s with heap := h'.push { cls := .type "tuple", data := .seq acc }, toks := tk }) :
    wpAny (model prog w) A (call (.type "tuple") [.ref r]) Q E s := by
  refine callType_codes (Q₁ := fun obj s₁ => s₁.TypeIs obj "tuple" ∧ Q obj s₁) PySem.F.called_tuple (PySem.F.typeCall_tuple_1 _) PySem.F.entry_object_init
    (code_tuple_src (A := A.in1) K hh hok hn (fun h' tk acc hk hacc => ⟨⟨_, Heap.get?_push_size _ rfl, rfl⟩, hQ h' tk acc hk hacc⟩) ne) fun obj s₁ h₁ => ?_
  exact ⟨h₁.1, PySem.F.args_object_init_2 obj _, object_init_meets PySem.F.called_tuple.init.lookup PySem.F.called_tuple.made (by decide) prog w A.in1 _ s₁ ⟨h₁.1, rfl, h₁.2⟩⟩
end
section
variable {X : Cx}
theorem call_tupleD (hcalm : X.calm = true) : CallR X (.type "tuple") (fun xs H Q => ∃ (a : Addr) (kvs : List (Key × V)), xs = [.ref a] ∧ Rd H a (.dK kvs) ∧ ∀ p, H p = none → Q (.ref p) (upd H p (.tup (kvs.map fun kv => kV kv.1)))) := by
  intro pins s σ H xs us Q I r q
  obtain ⟨a, kvs, ex, hd, q⟩ := q
  subst ex
  obtain ⟨u, eu, rx⟩ := vals1 r
  subst eu
  cases rx
  obtain ⟨z, lo, vs, rel, dd⟩ := dk_rd I.hok hd
  obtain ⟨ep, hat⟩ := dd.dictAt
  have ek : (kvs.map fun kv => kV kv.1) = vs.map fun p => kV p.1 := by
    have e := congrArg (List.map kV) rel.keys
    rw [List.map_map, List.map_map] at e
    exact e
  refine call_tuple_src (PySem.W.kdl_dict (knd := mixKind X.prog X.w) (kvs := vs) (ep := ep) lo) (I.ok.hd hcalm) hat (by rw [← rel.length]; exact z) (by decide) fun h' tk acc hk hacc => ?_
  have hv : Vals (vs.map fun p => kV p.1) acc.toList := keys_at (by rw [Array.length_toList]; exact hacc.1) fun j v e => hacc.2 j v (by rw [← Array.getElem?_toList]; exact e)
  have I2 : Inv X pins σ H { s with heap := h', toks := tk } := I.kept (t' := tk) hk
  refine ⟨.ref h'.objs.size, upd H h'.objs.size (.tup (kvs.map fun kv => kV kv.1)), I2.laid (t' := tk) (fun c o e => Heap.get?_push_of_some _ e) (Nat.le_refl _) (show ObjOk X.prog X.w _ _ _ (.tup (kvs.map fun kv => kV kv.1)) from ⟨by rw [List.length_map]; exact z, acc.toList, by rw [ek]; exact hv, ?_⟩), rfl, q _ (I2.hok.fresh (Nat.le_refl _))⟩
  rw [Array.toArray_toList]
  exact IsTup.new _ _
end
end Vr

set_option Elab.async false
set_option linter.all false
set_option maxRecDepth 100000
/-! enumerate(a tuple): as a loop's source. -/
namespace PySem
open Sem (wp)
open AutoSeq1 (wpAny_loadPart')
theorem meets_enumerate_newTq (l : Addr) (items : Array Value) (n : Nat) (dct : Option Addr) (sl : Array (Option Value)) :
    Meets (Builtin.«enumerate.__new__» ⟨[.type "enumerate", .ref l], []⟩) (fun _ R s => s.heap.get? l = some { cls := .type "tuple", dict := dct, data := .seq items n, slots := sl } ∧
      R (.ok (.ret (.ref (s.heap.push { cls := .type "tuple_iterator", data := .fields #[.ref l, .int 0 0] }).objs.size)))
        { s with heap := (s.heap.push { cls := .type "tuple_iterator", data := .fields #[.ref l, .int 0 0] }).push { cls := .type "enumerate", data := .fields #[.none, .bool false, .ref s.heap.objs.size, rawInt 0, .none, .none] } }) :=
  .of_wp fun prog w A R s h => by
    obtain ⟨hp, g, d, tk, os⟩ := s; obtain ⟨hl, h⟩ := h
    have hsub := sub_enumerate
    have hL : Heap.IsTuple (Shared.heap ⟨hp, g, d, tk, os⟩) l items := ⟨_, hl, rfl, n, rfl⟩
    wp_walk using wpAny_loadPart' hl
    refine wpAny_stack_any fun st => wpAny_pure ?_
    split
    · rename_i c _ _ _ _ _
      cases (c == Value.type "enumerate")
      · wp_walk using wpAny_loadPart' hl, wpAny_pyIter_tuple hL
        exact ⟨_, rfl, h⟩
      · wp_walk using wpAny_loadPart' hl, wpAny_pyIter_tuple hL
        exact ⟨_, rfl, h⟩
    · wp_walk using wpAny_loadPart' hl, wpAny_pyIter_tuple hL
      exact ⟨_, rfl, h⟩
theorem call_enumerate_tupleq {prog : Program} {w : World} {A : Around} {E : Value → Shared → Prop} {s : Shared} {l : Addr} {items : Array Value} {Q : Value → Shared → Prop} (hL : s.heap.IsTuple l items)
    (h : ∀ h', IsEnum h' (s.heap.objs.size + 1) s.heap.objs.size 0 .none → h'.IsTupleIter s.heap.objs.size l 0 → h'.objs.size = s.heap.objs.size + 2 →
      (∀ b o, s.heap.get? b = some o → h'.get? b = some o) → Q (.ref (s.heap.objs.size + 1)) { s with heap := h' }) :
    wpAny (model prog w) A (call (.type "enumerate") [.ref l]) Q E s := by
  obtain ⟨⟨c, dct, dt, sl⟩, hl, hc, n, hd⟩ := hL
  replace hc : c = .type "tuple" := hc
  replace hd : dt = .seq items n := hd
  subst hc hd
  refine callType_new F.called_enumerate (by decide) (F.typeCall_enumerate_1 _) (F.newCall_enumerate_1 _) (fun obj => F.args_object_init_2 obj _) F.entry_enumerate_new
    (meets_enumerate_newTq l items n dct sl) ⟨hl, ?_⟩
  have hz : (s.heap.push { cls := .type "tuple_iterator", data := .fields #[.ref l, .int 0 0] }).objs.size = s.heap.objs.size + 1 := Heap.size_push ..
  show _ ∧ _
  rw [hz]
  have he : IsEnum ((s.heap.push { cls := .type "tuple_iterator", data := .fields #[.ref l, .int 0 0] }).push
      { cls := .type "enumerate", data := .fields #[.none, .bool false, .ref s.heap.objs.size, rawInt 0, .none, .none] }) (s.heap.objs.size + 1) s.heap.objs.size 0 .none := by
    have := Heap.get?_push_size (s.heap.push { cls := .type "tuple_iterator", data := .fields #[.ref l, .int 0 0] })
      (o := { cls := .type "enumerate", data := .fields #[.none, .bool false, .ref s.heap.objs.size, rawInt 0, .none, .none] }) rfl
    rw [hz] at this; exact this
  refine ⟨⟨_, he, rfl⟩, h _ he ⟨_, Heap.get?_push_of_some _ (Heap.get?_push_size _ rfl), rfl, rfl⟩ (by rw [Heap.size_push, hz]) fun b o x => Heap.get?_push_of_some _ (Heap.get?_push_of_some _ x)⟩
theorem wpAny_pyNext_enum_endTq {prog : Program} {w : World} {A : Around} {E : Value → Shared → Prop} {s : Shared} {e it l : Addr} {i : Nat} {items : Array Value} {old : Value} {Q : Option Value → Shared → Prop} (hh : A.handled = none)
    (he : IsEnum s.heap e it i old) (hit : s.heap.IsTupleIter it l i) (hl : s.heap.IsTuple l items) (hx : items[i]? = none)
    (hQ : ∀ h', Heap.ExtBut it s.heap h' → Q none { s with heap := h' }) : wpAny (model prog w) A (pyNext (.ref e)) Q E s := by
  have hT : s.TypeIs (.ref e) "enumerate" := ⟨_, he, rfl⟩
  unfold pyNext
  refine wpAny_bind (wpAny_attempt (wpAny_callSpecial?_slot (name := Str.ofString "__next__") hT F.slot_enumerate_next
    (wpAny_call_entry F.slot_enumerate_next hT F.entry_enumerate_next ?_ (F.args_enumerate_next_1 _))))
  show wpAny _ _ (field (.ref e) 2 >>= _) _ _ _
  refine wpAny_bind (wpAny_field he rfl (x := .ref it) rfl ?_)
  refine wpAny_bind (wpAny_nextOf_tuple_end (A := A.in1) hh hit hl hx fun h' x he' hx' => ?_)
  obtain ⟨o, ho, hc⟩ := hx'
  refine wpAny_bind (wpAny_isInstance (T := "StopIteration") (b := true) ⟨o, ho, hc⟩ isSubtype_stop ?_)
  exact wpAny_pure (hQ _ he')
end PySem
namespace Vr
open PySem PySem.Spec PyProof.Rows L2
/-- the tuple at a as it stands at each turn, each item in a new pair -/
def IteT (K : PySem.W.Frag) (a : Addr) : It :=
  ⟨fun i H => ∃ (xs : List V) (x : V), SqT K H a xs ∧ xs[i]? = some x, fun i H v H' => ∃ T x, v = .ref T ∧ H T = none ∧ H' = upd H T (.tup [.int (i : Nat), x]) ∧ ∀ xs, SqT K H a xs → xs[i]? = some x, fun i H => ∃ xs : List V, SqT K H a xs ∧ xs.length ≤ i⟩
theorem turn_enumT {P : Program} {w : World} {K : PySem.W.Frag} {elts : List Expr} {kk : Nat} {tpos : Pos} (a e it : Addr) :
    Turn P w K (.Tuple elts kk tpos) (IteT K a) [e, it] e (fun i h => (∃ old, IsEnum h e it ((i : Nat) : Int) old) ∧ h.IsTupleIter it a i ∧ e ≠ it) where
  mem := by simp
  obj := fun i h st b hb => by
    obtain ⟨⟨old, he⟩, ⟨o, ho, hc, hd⟩, _⟩ := st
    have e' : b = e ∨ b = it := by simpa using hb
    rcases e' with z | z
    · rw [z]; exact ⟨_, he, fun v q => nomatch q⟩
    · rw [z]; exact ⟨o, ho, fun v q => by rw [hd] at q; cases q⟩
  keep := fun i h h' st k => let ⟨⟨old, he⟩, hi, hne⟩ := st; ⟨⟨old, k e (by simp) _ he⟩, hi.at fun o q => k it (by simp) o q, hne⟩
  item := by
    intro X hP hw hK hc i pins s σ H E I hf st hg
    subst hP hw hK
    obtain ⟨⟨old, he⟩, hit, hne⟩ := st
    obtain ⟨xs, x, hq, hx⟩ := hg
    obtain ⟨its, rv, p, hz⟩ := I.tuple hq
    obtain ⟨u, hu, ru⟩ := rv.get hx
    have hel : e < s.heap.objs.size := Heap.lt_size he
    have hil : it < s.heap.objs.size := by obtain ⟨_, q, _⟩ := hit; exact Heap.lt_size q
    have pT : s.heap.IsTuple a its.toArray := p
    have hai : a ≠ it := by
      rintro rfl
      obtain ⟨o, ho, hc, _⟩ := hit
      obtain ⟨o', ho', hc', _⟩ := pT
      rw [ho] at ho'
      cases ho'
      rw [hc] at hc'
      exact absurd hc' (by decide)
    have hea : e ≠ a := by
      rintro rfl
      obtain ⟨o', ho', hc', _⟩ := pT
      have he2 : s.heap.get? e = some _ := he
      rw [he2] at ho'
      cases ho'
      have hc2 : Value.type "enumerate" = Value.type "tuple" := hc'
      exact absurd hc2 (by decide)
    have hlt : i < its.toArray.size := by
      have := (List.getElem?_eq_some_iff.mp hu).1
      simpa using this
    refine wpAny_pyNext_enum_itemD (Draws.tuple (A := X.A.in1) (show X.A.in1.handled = none from I.ok.hd hc) it a hai its.toArray) he ⟨hit, pT⟩ hlt hne (by simp [hne, hea]) fun x' h' tk hx' ho hit' hT hsz hk => ?_
    have ux : x' = u := by
      have h1 : its[i]? = some x' := by simpa using hx'
      rw [hu] at h1
      exact (Option.some.inj h1).symm
    subst ux
    refine ⟨_, rfl, wpAny_letOwnedTupleGo_enum (s := { s with heap := h', toks := tk + 1 }) ho fun h'' he' sb => ?_⟩
    have hT2 : h''.get? s.heap.objs.size = some { cls := .type "tuple", data := .seq #[.int i tk, x'] } := (sb.2 _ (Nat.ne_of_gt hel)).trans hT
    have new : ObjOk X.prog X.w (upd H s.heap.objs.size (.tup [.int (i : Nat), x])) h'' s.heap.objs.size (.tup [.int (i : Nat), x]) :=
      ⟨by show 2 ≤ sizeLine; decide, [.int i tk, x'], .cons ⟨_, rfl⟩ (.cons ru .nil), ⟨_, hT2, rfl, _, rfl⟩⟩
    have I1 : Inv X pins σ (upd H s.heap.objs.size (.tup [.int (i : Nat), x])) { s with heap := h'', toks := tk + 1 } :=
      I.turnedNew (ch := [e, it]) (fun b ob hb q => (sb.2 b (fun z => hb (by simp [z]))).trans (hk b ob (fun z => hb (by simp [z])) (fun z => hb (by simp [z])) q)) hf (Nat.le_refl _) new
    refine ⟨.ref s.heap.objs.size, _, I1, rfl, ⟨_, x, rfl, I.hok.fresh (Nat.le_refl _), rfl, fun ys hy => by rw [I.tuple_inj hy hq]; exact hx⟩, ⟨⟨x', ?_⟩, hit'.1.at fun o q => (sb.2 it (Ne.symm hne)).trans q, hne⟩, fun b hb => ?_⟩
    · have e1 : ((i + 1 : Nat) : Int) = (i : Int) + 1 := by omega
      rw [e1]; exact he'
    · have hb' : b < s.heap.objs.size := by
        have e' : b = e ∨ b = it := by simpa using hb
        rcases e' with z | z
        · rw [z]; exact hel
        · rw [z]; exact hil
      rw [upd_ne (Nat.ne_of_lt hb')]
      exact (hf b hb).1
  done := by
    intro X hP hw hK hc i pins s σ H E I hf st hg
    subst hP hw hK
    obtain ⟨⟨old, he⟩, hit, hne⟩ := st
    obtain ⟨xs, hq, hx⟩ := hg
    obtain ⟨its, rv, p, hz⟩ := I.tuple hq
    obtain ⟨f0, f1, f2, f3, f4, f5⟩ := hf it (by simp)
    have hl := rv.length
    exact wpAny_pyNext_enum_endTq (I.ok.hd hc) he hit (show s.heap.IsTuple a its.toArray from p) (by simp; omega) fun h' eb => ⟨rfl, I.turned (t' := s.toks) (fun b o hb q => eb b o hb q) f0 f1 f3 f4 f5⟩
  self := fun A i s Q E st h => let ⟨⟨_, he⟩, _⟩ := st; wpAny_pyIter_enum he h
def iEnumT (K : PySem.W.Frag) (ta : TA) : TI := fun σ H R => ta σ H fun vs H1 => ∃ a xs, vs = [.ref a] ∧ SqT K H1 a xs ∧ R (IteT K a) H1
theorem pi_enumT {X : Cx} {e : Expr} {ta : TA} {p pos tpos : Pos} {elts : List Expr} {kk : Nat} (hg : Gl X "enumerate") (hm : X.mg "enumerate" = none) (ha : PA X [e] ta) (hs : starEach [e] X.env = [(false, eval e X.env)] := by rfl) :
    PI X (.Tuple elts kk tpos) (.Call (.Name "enumerate" p) [e] [] pos) (iEnumT X.K ta) := by
  refine ⟨fun pins s σ H R I h => ?_⟩
  refine Call_ (ld_blt I hg hm boot_enumerate (PyProof.Rows.callWith_type1 (thn (ha.run pos pins s σ H _ I h) fun us s1 ⟨vs, H1, I1, r1, q1⟩ => ?_) hs rfl))
  obtain ⟨a, xs, ex, hq, q⟩ := q1
  subst ex
  cases r1 with
  | cons r rr =>
    cases rr
    cases r
    obtain ⟨its, rv, p', hz⟩ := I1.tuple hq
    refine call_enumerate_tupleq (show s1.heap.IsTuple a its.toArray from p') fun h' he hit hsz hk => wpAny_pyIter_enum he ?_
    have I2 : Inv X pins σ H1 { s1 with heap := h' } := I1.kept (t' := s1.toks) hk
    refine ⟨s1.heap.objs.size + 1, [s1.heap.objs.size + 1, s1.heap.objs.size], _, _, H1, rfl, I2, turn_enumT a (s1.heap.objs.size + 1) s1.heap.objs.size, ⟨⟨.none, he⟩, hit, Nat.succ_ne_self _⟩, fun b hb => ?_, q⟩
    have e' : b = s1.heap.objs.size + 1 ∨ b = s1.heap.objs.size := by simpa using hb
    have hle : s1.heap.objs.size ≤ b := by
      rcases e' with z | z
      · rw [z]; exact Nat.le_add_right _ _
      · rw [z]; exact Nat.le_refl _
    exact I1.fpOk hle (I1.hok.fresh hle)
/-- {k: v for a, b in enumerate(t)}, t a tuple -/
theorem dc_enumT {K : PySem.W.Frag} {a : Addr} {xs : List V} {g : TG} {tt : TT} {tk tv : TE} {vs : List Nat} {σ : L2.St} {H1 : Hp} {D : Addr} {Qd : Hp → Prop} (Pv : Nat → Hp → Prop) (h0 : Pv 0 (upd H1 D (.dK []))) (hl : ∀ i H, i ≤ xs.length → Pv i H → SqT K H a xs)
    (hs : ∀ i x T H, xs[i]? = some x → H T = none → Pv i H → g (.ref T) (wipe σ vs) (upd H T (.tup [.int (i : Nat), x])) fun σ2 H2 => wipe σ2 vs = wipe σ vs ∧ tt σ2 H2 fun b H3 =>
      if b = true then tk σ2 H3 fun y H4 => tv σ2 H4 fun z H5 => ∃ kvs k, y = kV k ∧ H5 D = some (.dK kvs) ∧ kvs.length < sizeLine ∧ Pv (i + 1) (upd H5 D (.dK (putK kvs k z))) else Pv (i + 1) H3) (hd : ∀ H, Pv xs.length H → Qd H) :
    ∃ W : Nat → Nat → Hp → Prop, (∃ m, W 0 m (upd H1 D (.dK []))) ∧ ∀ i m H, W i m H →
      ((IteT K a).stop i H ∧ Qd H) ∨ ((IteT K a).go i H ∧ ∃ Nx : Hp → Prop, (∀ H', Nx H' → ∃ m', m' < m ∧ W (i + 1) m' H') ∧ ∀ x H', (IteT K a).yld i H x H' → g x (wipe σ vs) H' fun σ2 H2 => wipe σ2 vs = wipe σ vs ∧ tt σ2 H2 fun b H3 =>
        if b = true then tk σ2 H3 fun y H4 => tv σ2 H4 fun z H5 => ∃ kvs k, y = kV k ∧ H5 D = some (.dK kvs) ∧ kvs.length < sizeLine ∧ Nx (upd H5 D (.dK (putK kvs k z))) else Nx H3) := by
  refine ⟨fun i m H => m = xs.length - i ∧ i ≤ xs.length ∧ Pv i H, ⟨xs.length, by simp, Nat.zero_le _, h0⟩, ?_⟩
  rintro i m H ⟨rfl, hi, p⟩
  have q := hl i H hi p
  by_cases hlt : i < xs.length
  · refine .inr ⟨⟨xs, xs[i], q, by simp [hlt]⟩, Pv (i + 1), fun H' p' => ⟨xs.length - (i + 1), by omega, rfl, hlt, p'⟩, fun x H' y => ?_⟩
    obtain ⟨T, z, rfl, nT, rfl, y⟩ := y
    exact hs i z T H (y xs q) nT p
  · have e : i = xs.length := by omega
    subst e
    exact .inl ⟨⟨xs, q, Nat.le_refl _⟩, hd H p⟩
/-- for k, x in enumerate(t), t a tuple -/
theorem for_enumT {K : PySem.W.Frag} {a : Addr} {xs : List V} {g : TG} {tb : TS} {D : Ends} {σ : L2.St} {H : Hp} (Pv : Nat → L2.St → Hp → Prop) (h0 : Pv 0 σ H) (hl : ∀ i σ H, i ≤ xs.length → Pv i σ H → SqT K H a xs)
    (hs : ∀ i x T σ H, xs[i]? = some x → Pv i σ H → H T = none → g (.ref T) σ (upd H T (.tup [.int (i : Nat), x])) fun σ2 H2 => tb { D with nx := Pv (i + 1), ct := Pv (i + 1), bk := D.nx } σ2 H2) (hd : ∀ σ H, Pv xs.length σ H → D.nx σ H) :
    ∃ W : Nat → Nat → L2.St → Hp → Prop, (∃ m, W 0 m σ H) ∧ ∀ i m σ H, W i m σ H →
      ((IteT K a).stop i H ∧ D.nx σ H) ∨ ((IteT K a).go i H ∧ ∃ N : L2.St → Hp → Prop, (∀ σ' H', N σ' H' → ∃ m', m' < m ∧ W (i + 1) m' σ' H') ∧ ∀ x H', (IteT K a).yld i H x H' → g x σ H' fun σ2 H2 => tb { D with nx := N, ct := N, bk := D.nx } σ2 H2) := by
  refine ⟨fun i m σ H => m = xs.length - i ∧ i ≤ xs.length ∧ Pv i σ H, ⟨xs.length, by simp, Nat.zero_le _, h0⟩, ?_⟩
  rintro i m σ H ⟨rfl, hi, p⟩
  have q := hl i σ H hi p
  by_cases hlt : i < xs.length
  · refine .inr ⟨⟨xs, xs[i], q, by simp [hlt]⟩, Pv (i + 1), fun σ' H' p' => ⟨xs.length - (i + 1), by omega, rfl, hlt, p'⟩, fun x H' y => ?_⟩
    obtain ⟨T, z, rfl, nT, rfl, y⟩ := y
    exact hs i z T σ H (y xs q) p nT
  · have e : i = xs.length := by omega
    subst e
    exact .inl ⟨⟨xs, q, Nat.le_refl _⟩, hd σ H p⟩
end Vr

set_option Elab.async false
set_option linter.all false
set_option maxRecDepth 100000
/-! y = {k: v for ..} on one line; a dict comprehension over enumerate(a list). -/
namespace Vr
open PySem PySem.Spec PyProof.Rows L2
section
variable {X : Cx}
theorem sw_trueD {k v : Expr} {gs : List Comprehension} {scope : Scope} {pos py : Pos} {y : Str} {l : Nat} {env : Env} (hk : env.scope.kind = .function) (hy : env.scope.names.lookup y = some .local) (hl : (py.line == pos.line) = true)
    (ha : (scope.names.any fun (n, k) => n == y && (k == .local || k == .cell)) = false) : swapsWith (.DictComp k v gs scope pos) (some (.Name y py)) l env = pure true := by
  have ky : env.kindOf y = some .local := hy
  have hb : env.blockKind = .function := by
    unfold Env.blockKind
    rw [hk]
    rfl
  unfold swapsWith
  simp only [hb, ky, ha, Expr.pos, hl]
  rfl
theorem ps_setDc {i : Nat} {y : Str} {py : Pos} {kx vx tg iter : Expr} {ifs : List Expr} {scope : Scope} {own : List (Str × Nat)} {pos spos : Pos} {wi : TI} {g : TG} {tt : TT} {tk tv : TE} (hc : X.calm = true) (hN : X.N.Nodup) (hy : X.N[i]? = some y) (hyl : X.env.scope.names.lookup y = some .local)
    (hsw : swapsWith (.DictComp kx vx [⟨tg, iter, ifs, 0⟩] scope pos) (some (.Name y py)) spos.line X.env = pure true) (hi : PI X tg iter wi) (ok : BlkOk X.N X.env.scope scope own)
    (hg : ∀ (s : Shared) (H : Hp) (C : Addr) (cl : List (Str × Addr)) (fp : List Addr), PG (X.blk s H scope (compEnvC scope cl C X.env) fp) tg g) (ht : ∀ (s : Shared) (H : Hp) (C : Addr) (cl : List (Str × Addr)) (fp : List Addr), PTs (X.blk s H scope (compEnvC scope cl C X.env) fp) ifs tt)
    (hk : ∀ (s : Shared) (H : Hp) (C : Addr) (cl : List (Str × Addr)) (fp : List Addr), PE (X.blk s H scope (compEnvC scope cl C X.env) fp) kx tk)
    (he : ∀ (s : Shared) (H : Hp) (C : Addr) (cl : List (Str × Addr)) (fp : List Addr), PE (X.blk s H scope (compEnvC scope cl C X.env) fp) vx tv) (hs : ∀ x, foldedSetIterable iter X.env x = pure x := by intro _; rfl) :
    PS X (.Assign [.Name y py] (.DictComp kx vx [⟨tg, iter, ifs, 0⟩] scope pos) spos) (tAsg (tDc wi g tt tk tv (own.map (·.2))) (gName i)) := by
  refine ⟨fun pins s σ H D I h => ?_⟩
  rw [exec_Assign_Name_used _ _ _ _ hsw]
  refine wpAny_bind (wpAny_standAt (wpAny_bind ?_))
  show wpAny _ X.A (do let _ ← comprehension (.DictComp kx vx [⟨tg, iter, ifs, 0⟩] scope pos) scope X.env (firstIterPos [⟨tg, iter, ifs, 0⟩] pos) newDict false (eval iter X.env) (some (assign (.Name y py) X.env))) _ _ s
  have h : tDc wi g tt tk tv (own.map (·.2)) σ H (fun x H1 => gName i x σ H1 D.nx) := h
  refine wpAny_bind (thn (dc_core (Qf := fun _ s' => SP X pins D .next s') hc hN I hi ok hg ht hk he hs h fun L C s' m H' I' q hn f => ?_) fun _ s' hq => wpAny_pure (wpAny_pure hq))
  show wpAny _ _ (assign (.Name y py) X.env (.ref L)) _ _ _
  refine wpAny_assign_Name (store_ok2 (v := V.ref L) I' hN hy (.inl hyl) rfl (fun s2 I2 ⟨a, sb, ha⟩ => ?_) (.inr hyl))
  obtain ⟨f0, f1, f2, f3, f4, f5⟩ := f
  have haC : C ≠ a := by
    rcases ha with z | z
    · rw [z]
      exact f1
    · exact fun e => f4 y a z e.symm
  refine ⟨m, hn.sameBut sb haC, fun h3 sb3 => ?_⟩
  exact ⟨_, H', I2.turned (t' := s2.toks) (fun b o hb e => (sb3.2 b hb).trans e) f0 f1 f3 f4 f5, q⟩
end
/-- {k: v for a, b in enumerate(l)}: Pv by the turn and the heap, the dict at D within; the pair of a turn is a new tuple at T -/
theorem dc_enum {K : PySem.W.Frag} {a : Addr} {xs : List V} {g : TG} {tt : TT} {tk tv : TE} {vs : List Nat} {σ : L2.St} {H1 : Hp} {D : Addr} {Qd : Hp → Prop} (Pv : Nat → Hp → Prop) (h0 : Pv 0 (upd H1 D (.dK []))) (hl : ∀ i H, i ≤ xs.length → Pv i H → SqL K H a xs)
    (hs : ∀ i x T H, xs[i]? = some x → H T = none → Pv i H → g (.ref T) (wipe σ vs) (upd H T (.tup [.int (i : Nat), x])) fun σ2 H2 => wipe σ2 vs = wipe σ vs ∧ tt σ2 H2 fun b H3 =>
      if b = true then tk σ2 H3 fun y H4 => tv σ2 H4 fun z H5 => ∃ kvs k, y = kV k ∧ H5 D = some (.dK kvs) ∧ kvs.length < sizeLine ∧ Pv (i + 1) (upd H5 D (.dK (putK kvs k z))) else Pv (i + 1) H3) (hd : ∀ H, Pv xs.length H → Qd H) :
    ∃ W : Nat → Nat → Hp → Prop, (∃ m, W 0 m (upd H1 D (.dK []))) ∧ ∀ i m H, W i m H →
      ((Ite K a).stop i H ∧ Qd H) ∨ ((Ite K a).go i H ∧ ∃ Nx : Hp → Prop, (∀ H', Nx H' → ∃ m', m' < m ∧ W (i + 1) m' H') ∧ ∀ x H', (Ite K a).yld i H x H' → g x (wipe σ vs) H' fun σ2 H2 => wipe σ2 vs = wipe σ vs ∧ tt σ2 H2 fun b H3 =>
        if b = true then tk σ2 H3 fun y H4 => tv σ2 H4 fun z H5 => ∃ kvs k, y = kV k ∧ H5 D = some (.dK kvs) ∧ kvs.length < sizeLine ∧ Nx (upd H5 D (.dK (putK kvs k z))) else Nx H3) := by
  refine ⟨fun i m H => m = xs.length - i ∧ i ≤ xs.length ∧ Pv i H, ⟨xs.length, by simp, Nat.zero_le _, h0⟩, ?_⟩
  rintro i m H ⟨rfl, hi, p⟩
  have q := hl i H hi p
  by_cases hlt : i < xs.length
  · refine .inr ⟨⟨xs, xs[i], q, by simp [hlt]⟩, Pv (i + 1), fun H' p' => ⟨xs.length - (i + 1), by omega, rfl, hlt, p'⟩, fun x H' y => ?_⟩
    obtain ⟨T, z, rfl, nT, rfl, y⟩ := y
    exact hs i z T H (y xs q) nT p
  · have e : i = xs.length := by omega
    subst e
    exact .inl ⟨⟨xs, q, Nat.le_refl _⟩, hd H p⟩
end Vr

set_option Elab.async false
set_option linter.all false
set_option maxRecDepth 100000
namespace Mir
open PySem PySem.Spec PyProof.Rows L2

/-! ### plain values and stores -/
inductive W where
  | non
  | bl (b : Bool)
  | int (i : Int)
  | str (x : Str)
  | tup (ws : List W)
  | lro (ws : List W)
  | ref (n : Nat)
inductive O where
  | lst (ws : List W)
  | dct (kvs : List (Key × W))
abbrev Sto := List O
abbrev EnvM := List (Option W)

/-! ### how they lie in the heap -/
/-- a tuple: made in the run, or written at the top -/
def TuA (K : PySem.W.Frag) (H : Hp) (a : Addr) (xs : List V) : Prop :=
  H a = some (.tup xs) ∨ ∃ (o : Obj) (its : Array Value) (n : Nat), K.lookup a = some o ∧ o.cls = .type "tuple" ∧ o.data = .seq its n ∧ its.size ≤ sizeLine ∧ Vals xs its.toList
/-- a list that is never written -/
def LiA (K : PySem.W.Frag) (H : Hp) (a : Addr) (xs : List V) : Prop :=
  (∃ o, H a = some (.frz o (.lst xs))) ∨ ∃ (o : Obj) (its : Array Value) (n : Nat), K.lookup a = some o ∧ o.cls = .type "list" ∧ o.dict = none ∧ o.data = .seq its n ∧ its.size ≤ sizeLine ∧ Vals xs its.toList
theorem TuA.of {K : PySem.W.Frag} {H : Hp} {a : Addr} {xs : List V} (h : H a = some (.tup xs)) : TuA K H a xs := .inl h
theorem TuA.sq {K : PySem.W.Frag} {H : Hp} {a : Addr} {xs : List V} (h : TuA K H a xs) : SqT K H a xs := by
  rcases h with h | h
  · exact .inl (.inl h)
  · exact .inr h
theorem LiA.sq {K : PySem.W.Frag} {H : Hp} {a : Addr} {xs : List V} (h : LiA K H a xs) : SqL K H a xs := by
  rcases h with h | h
  · exact .inl (.inr h)
  · exact .inr h
mutual
inductive R (K : PySem.W.Frag) (m : List Addr) (H : Hp) : W → V → Prop
  | non : R K m H .non .non
  | bl (b : Bool) : R K m H (.bl b) (.bl b)
  | int (i : Int) : R K m H (.int i) (.int i)
  | str (x : Str) : R K m H (.str x) (.str x)
  | tup {p : Addr} {vs : List V} {ws : List W} : TuA K H p vs → RL K m H ws vs → R K m H (.tup ws) (.ref p)
  | lro {p : Addr} {vs : List V} {ws : List W} : LiA K H p vs → RL K m H ws vs → R K m H (.lro ws) (.ref p)
  | ref {n : Nat} {a : Addr} : m[n]? = some a → R K m H (.ref n) (.ref a)
inductive RL (K : PySem.W.Frag) (m : List Addr) (H : Hp) : List W → List V → Prop
  | nil : RL K m H [] []
  | cons {w : W} {v : V} {ws : List W} {vs : List V} : R K m H w v → RL K m H ws vs → RL K m H (w :: ws) (v :: vs)
end
inductive RK (K : PySem.W.Frag) (m : List Addr) (H : Hp) : List (Key × W) → List (Key × V) → Prop
  | nil : RK K m H [] []
  | cons {k : Key} {w : W} {v : V} {ws : List (Key × W)} {vs : List (Key × V)} : R K m H w v → RK K m H ws vs → RK K m H ((k, w) :: ws) ((k, v) :: vs)
/-- H' goes on from H: what is not at m stays -/
structure Adv (m : List Addr) (H : Hp) (m' : List Addr) (H' : Hp) : Prop where
  pre : ∃ t, m' = m ++ t
  same : ∀ a o, H a = some o → a ∉ m → H' a = some o
  new : ∀ a, a ∈ m' → a ∈ m ∨ H a = none
  tup : ∀ a xs, H a = some (.tup xs) → H' a = some (.tup xs)
  frz : ∀ a o u, H a = some (.frz o u) → H' a = some (.frz o u)
theorem Adv.refl (m : List Addr) (H : Hp) : Adv m H m H := ⟨⟨[], by simp⟩, fun _ _ h _ => h, fun _ h => .inl h, fun _ _ h => h, fun _ _ _ h => h⟩
theorem Adv.trans {m m1 m2 : List Addr} {H H1 H2 : Hp} (a : Adv m H m1 H1) (b : Adv m1 H1 m2 H2) : Adv m H m2 H2 := by
  refine ⟨?_, fun x o h n => ?_, fun x h => ?_, fun x xs h => b.tup x xs (a.tup x xs h), fun x o u h => b.frz x o u (a.frz x o u h)⟩
  · obtain ⟨t, rfl⟩ := a.pre
    obtain ⟨t', rfl⟩ := b.pre
    exact ⟨t ++ t', by rw [List.append_assoc]⟩
  · refine b.same x o (a.same x o h n) fun q => ?_
    rcases a.new x q with q | q
    · exact n q
    · rw [h] at q; cases q
  · rcases b.new x h with q | q
    · exact a.new x q
    · by_cases hm : x ∈ m
      · exact .inl hm
      · cases e : H x with
        | none => exact .inr rfl
        | some o =>
          rw [a.same x o e hm] at q
          cases q
/-- what descriptions lean on -/
structure Ext (m : List Addr) (H : Hp) (m' : List Addr) (H' : Hp) : Prop where
  pre : ∃ t, m' = m ++ t
  tup : ∀ a xs, H a = some (.tup xs) → H' a = some (.tup xs)
  frz : ∀ a o u, H a = some (.frz o u) → H' a = some (.frz o u)
theorem Adv.ext {m m' : List Addr} {H H' : Hp} (a : Adv m H m' H') : Ext m H m' H' := ⟨a.pre, a.tup, a.frz⟩
theorem Ext.get {m m' : List Addr} {H H' : Hp} (a : Ext m H m' H') {n : Nat} {x : Addr} (h : m[n]? = some x) : m'[n]? = some x := by
  obtain ⟨t, rfl⟩ := a.pre
  rw [List.getElem?_append_left (List.getElem?_eq_some_iff.mp h).1]
  exact h
theorem Adv.get {m m' : List Addr} {H H' : Hp} (a : Adv m H m' H') {n : Nat} {x : Addr} (h : m[n]? = some x) : m'[n]? = some x := by
  obtain ⟨t, rfl⟩ := a.pre
  rw [List.getElem?_append_left (List.getElem?_eq_some_iff.mp h).1]
  exact h
section
variable {K : PySem.W.Frag} {m m' : List Addr} {H H' : Hp}
theorem TuA.ext {a : Addr} {xs : List V} (A : Ext m H m' H') (h : TuA K H a xs) : TuA K H' a xs := by
  rcases h with h | h
  · exact .inl (A.tup _ _ h)
  · exact .inr h
theorem LiA.ext {a : Addr} {xs : List V} (A : Ext m H m' H') (h : LiA K H a xs) : LiA K H' a xs := by
  rcases h with ⟨o, h⟩ | h
  · exact .inl ⟨o, A.frz _ _ _ h⟩
  · exact .inr h
mutual
theorem R.ext (A : Ext m H m' H') : ∀ {w : W} {v : V}, R K m H w v → R K m' H' w v
  | .non, _, h => by cases h; exact .non
  | .bl _, _, h => by cases h; exact .bl _
  | .int _, _, h => by cases h; exact .int _
  | .str _, _, h => by cases h; exact .str _
  | .tup ws, _, h => by
    cases h with
    | tup h1 h2 => exact .tup (h1.ext A) (RL.ext A h2)
  | .lro ws, _, h => by
    cases h with
    | lro h1 h2 => exact .lro (h1.ext A) (RL.ext A h2)
  | .ref _, _, h => by
    cases h with
    | ref h1 => exact .ref (A.get h1)
theorem RL.ext (A : Ext m H m' H') : ∀ {ws : List W} {vs : List V}, RL K m H ws vs → RL K m' H' ws vs
  | [], _, h => by cases h; exact .nil
  | w :: ws, _, h => by
    cases h with
    | cons h1 h2 => exact .cons (R.ext A h1) (RL.ext A h2)
end
theorem RK.ext (A : Ext m H m' H') : ∀ {ws : List (Key × W)} {vs : List (Key × V)}, RK K m H ws vs → RK K m' H' ws vs
  | [], _, h => by cases h; exact .nil
  | w :: ws, _, h => by
    cases h with
    | cons h1 h2 => exact .cons (h1.ext A) (RK.ext A h2)
theorem R.adv (A : Adv m H m' H') {w : W} {v : V} (h : R K m H w v) : R K m' H' w v := R.ext A.ext h
theorem RL.adv (A : Adv m H m' H') {w : List W} {v : List V} (h : RL K m H w v) : RL K m' H' w v := RL.ext A.ext h
theorem RK.adv (A : Adv m H m' H') {w : List (Key × W)} {v : List (Key × V)} (h : RK K m H w v) : RK K m' H' w v := RK.ext A.ext h
theorem RL.len : ∀ {ws : List W} {vs : List V}, RL K m H ws vs → vs.length = ws.length
  | [], _, h => by cases h; rfl
  | w :: ws, _, h => by
    cases h with
    | cons h1 h2 => rw [List.length_cons, List.length_cons, RL.len h2]
theorem RL.get : ∀ {ws : List W} {vs : List V} {i : Nat} {v : V}, RL K m H ws vs → vs[i]? = some v → ∃ w, ws[i]? = some w ∧ R K m H w v
  | [], _, i, x, h, e => by cases h; cases e
  | d :: r, _, 0, x, h, e => by
    cases h with
    | cons h1 h2 => cases e; exact ⟨_, rfl, h1⟩
  | d :: r, _, i + 1, x, h, e => by
    cases h with
    | cons h1 h2 => exact RL.get (i := i) h2 e
theorem RL.at : ∀ {ws : List W} {vs : List V} {i : Nat} {w : W}, RL K m H ws vs → ws[i]? = some w → ∃ v, vs[i]? = some v ∧ R K m H w v
  | [], _, i, x, h, e => by cases e
  | d :: r, _, 0, x, h, e => by
    cases h with
    | cons h1 h2 => cases e; exact ⟨_, rfl, h1⟩
  | d :: r, _, i + 1, x, h, e => by
    cases h with
    | cons h1 h2 => exact RL.at (i := i) h2 e
theorem RL.app : ∀ {ws ws' : List W} {vs vs' : List V}, RL K m H ws vs → RL K m H ws' vs' → RL K m H (ws ++ ws') (vs ++ vs')
  | [], _, _, _, h, g => by cases h; exact g
  | d :: r, _, _, _, h, g => by
    cases h with
    | cons h1 h2 => exact .cons h1 (RL.app h2 g)
theorem RL.take : ∀ {ws : List W} {vs : List V} (n : Nat), RL K m H ws vs → RL K m H (ws.take n) (vs.take n)
  | [], _, n, h => by cases h; rw [List.take_nil, List.take_nil]; exact .nil
  | d :: r, _, 0, h => by rw [List.take_zero, List.take_zero]; exact .nil
  | d :: r, _, n + 1, h => by
    cases h with
    | cons h1 h2 => exact .cons h1 (RL.take n h2)
theorem RL.drop : ∀ {ws : List W} {vs : List V} (n : Nat), RL K m H ws vs → RL K m H (ws.drop n) (vs.drop n)
  | [], _, n, h => by cases h; rw [List.drop_nil, List.drop_nil]; exact .nil
  | d :: r, _, 0, h => h
  | d :: r, _, n + 1, h => by
    cases h with
    | cons h1 h2 => exact RL.drop n h2
theorem RL.set : ∀ {ws : List W} {vs : List V} (n : Nat) {w : W} {v : V}, RL K m H ws vs → R K m H w v → RL K m H (ws.set n w) (vs.set n v)
  | [], _, n, _, _, h, g => by cases h; exact .nil
  | d :: r, _, 0, _, _, h, g => by
    cases h with
    | cons h1 h2 => exact .cons g h2
  | d :: r, _, n + 1, _, _, h, g => by
    cases h with
    | cons h1 h2 => exact .cons h1 (RL.set n h2 g)
theorem RL.rev {ws : List W} {vs : List V} (h : RL K m H ws vs) : RL K m H ws.reverse vs.reverse := by
  have key : ∀ {ws : List W} {vs : List V} {as : List W} {bs : List V}, RL K m H ws vs → RL K m H as bs → RL K m H (ws.reverseAux as) (vs.reverseAux bs) := by
    intro ws
    induction ws with
    | nil => intro vs as bs h g; cases h; exact g
    | cons x r ih =>
      intro vs as bs h g
      cases h with
      | @cons _ v _ vs h1 h2 => exact @ih vs (x :: as) (v :: bs) h2 (.cons h1 g)
  exact key h .nil
theorem RL.dropLast {ws : List W} {vs : List V} (h : RL K m H ws vs) : RL K m H ws.dropLast vs.dropLast := by
  rw [List.dropLast_eq_take, List.dropLast_eq_take, h.len]
  exact h.take _
theorem RL.erase : ∀ {ws : List W} {vs : List V} (n : Nat), RL K m H ws vs → RL K m H (ws.eraseIdx n) (vs.eraseIdx n)
  | [], _, n, h => by cases h; exact .nil
  | d :: r, _, 0, h => by
    cases h with
    | cons h1 h2 => exact h2
  | d :: r, _, n + 1, h => by
    cases h with
    | cons h1 h2 => exact .cons h1 (RL.erase n h2)
theorem RL.one {w : W} {v : V} (h : R K m H w v) : RL K m H [w] [v] := .cons h .nil
theorem RL.at_of {ws : List W} {vs : List V} {i : Int} {w : W} (h : RL K m H ws vs) (e : atI ws i = some w) : ∃ v, atI vs i = some v ∧ R K m H w v := by
  unfold atI at e ⊢
  rw [h.len]
  cases q : ixN ws.length i with
  | none => rw [q] at e; cases e
  | some j =>
    rw [q] at e
    exact h.at e
theorem RL.cut {ws : List W} {vs : List V} (h : RL K m H ws vs) (lo hi : Option Int) :
    RL K m H ((ws.drop (HT.sIx ws.length 0 lo)).take (HT.sIx ws.length ws.length hi - HT.sIx ws.length 0 lo)) (cutV vs lo hi) := by
  unfold cutV
  rw [h.len]
  exact (h.drop _).take _

/-! ### the store -/
def OR (K : PySem.W.Frag) (m : List Addr) (H : Hp) (a : Addr) : O → Prop
  | .lst ws => ∃ vs, H a = some (.lst vs) ∧ RL K m H ws vs
  | .dct kvs => ∃ vs, H a = some (.dK vs) ∧ RK K m H kvs vs
structure SR (K : PySem.W.Frag) (m : List Addr) (H : Hp) (st : Sto) : Prop where
  len : m.length = st.length
  nd : m.Nodup
  ok : ∀ (n : Nat) (a : Addr) (o : O), m[n]? = some a → st[n]? = some o → OR K m H a o
def hoOk : O → HO → Prop
  | .lst _, .lst _ => True
  | .dct _, .dK _ => True
  | _, _ => False
theorem SR.at {st : Sto} (S : SR K m H st) {n : Nat} {o : O} (h : st[n]? = some o) : ∃ a, m[n]? = some a ∧ OR K m H a o := by
  have hl : n < m.length := by rw [S.len]; exact (List.getElem?_eq_some_iff.mp h).1
  exact ⟨m[n], List.getElem?_eq_getElem hl, S.ok n _ o (List.getElem?_eq_getElem hl) h⟩
theorem SR.there {st : Sto} (S : SR K m H st) {a : Addr} (h : a ∈ m) : ∃ u, H a = some u ∧ ((∃ vs, u = .lst vs) ∨ ∃ vs, u = .dK vs) := by
  obtain ⟨n, hn, rfl⟩ := List.mem_iff_getElem.mp h
  have hl : n < st.length := by rw [← S.len]; exact hn
  have q := S.ok n m[n] st[n] (List.getElem?_eq_getElem hn) (List.getElem?_eq_getElem hl)
  cases e : st[n] with
  | lst ws => rw [e] at q; obtain ⟨vs, q, _⟩ := q; exact ⟨_, q, .inl ⟨_, rfl⟩⟩
  | dct ws => rw [e] at q; obtain ⟨vs, q, _⟩ := q; exact ⟨_, q, .inr ⟨_, rfl⟩⟩
theorem OR.ext (A : Ext m H m' H') {a : Addr} {o : O} (h : OR K m H a o) (e : H' a = H a) : OR K m' H' a o := by
  cases o with
  | lst ws => obtain ⟨vs, q, r⟩ := h; exact ⟨vs, by rw [e]; exact q, r.ext A⟩
  | dct ws => obtain ⟨vs, q, r⟩ := h; exact ⟨vs, by rw [e]; exact q, r.ext A⟩
theorem OR.adv (A : Adv m H m' H') {a : Addr} {o : O} (h : OR K m H a o) (e : H' a = H a) : OR K m' H' a o := h.ext A.ext e
/-- a list that was made beside the store joins it -/
theorem Ext.join (D : Addr) : Ext m H (m ++ [D]) H := ⟨⟨[D], rfl⟩, fun _ _ h => h, fun _ _ _ h => h⟩
theorem SR.join {st : Sto} (S : SR K m H st) {p : Addr} {u : O} (hpm : p ∉ m) (h : OR K m H p u) : SR K (m ++ [p]) H (st ++ [u]) := by
  refine ⟨by rw [List.length_append, List.length_append, S.len]; rfl, List.nodup_append.mpr ⟨S.nd, by simp, fun a ha b hb => ?_⟩, fun n a o' h1 h2 => ?_⟩
  · rw [List.mem_singleton.mp hb]
    rintro rfl
    exact hpm ha
  · by_cases hn : n < m.length
    · rw [List.getElem?_append_left hn] at h1
      rw [List.getElem?_append_left (by rw [← S.len]; exact hn)] at h2
      exact (S.ok n a o' h1 h2).ext (Ext.join p) rfl
    · have e : n = m.length := by
        have := (List.getElem?_eq_some_iff.mp h1).1
        rw [List.length_append, List.length_singleton] at this
        omega
      subst e
      rw [List.getElem?_append_right (Nat.le_refl _), Nat.sub_self] at h1
      rw [S.len, List.getElem?_append_right (Nat.le_refl _), Nat.sub_self] at h2
      cases h1
      cases h2
      exact h.ext (Ext.join p) rfl
/-- a list that stands beside the store changes -/
theorem Ext.off {D : Addr} {xs : List V} {o : HO} (h : H D = some (.lst xs)) : Ext m H m (upd H D o) :=
  ⟨⟨[], by simp⟩, fun a ys e => by rw [upd_ne (ne_of e h (fun z => by cases z))]; exact e, fun a u y e => by rw [upd_ne (ne_of e h (fun z => by cases z))]; exact e⟩
theorem SR.off {st : Sto} (S : SR K m H st) {D : Addr} {xs : List V} {o : HO} (hD : D ∉ m) (h : H D = some (.lst xs)) : SR K m (upd H D o) st :=
  ⟨S.len, S.nd, fun n a u h1 h2 => (S.ok n a u h1 h2).ext (Ext.off h) (upd_ne fun z => hD (by rw [← z]; exact List.mem_of_getElem? h1))⟩
/-- a new tuple (or another thing that is not in the store) -/
theorem Adv.fresh {p : Addr} {o : HO} (hp : H p = none) : Adv m H m (upd H p o) :=
  ⟨⟨[], by simp⟩, fun a u h _ => by rw [upd_ne (ne_of_none h hp)]; exact h, fun _ h => .inl h, fun a xs h => by rw [upd_ne (ne_of_none h hp)]; exact h, fun a o u h => by rw [upd_ne (ne_of_none h hp)]; exact h⟩
theorem SR.fresh {st : Sto} (S : SR K m H st) {p : Addr} {o : HO} (hp : H p = none) : SR K m (upd H p o) st :=
  ⟨S.len, S.nd, fun n a u h1 h2 => by
    refine (S.ok n a u h1 h2).adv (Adv.fresh hp) ?_
    obtain ⟨u', h, _⟩ := S.there (List.mem_of_getElem? h1)
    rw [upd_ne (ne_of_none h hp)]⟩
/-- a new object of the store -/
theorem Adv.alloc {p : Addr} {o : HO} (hp : H p = none) : Adv m H (m ++ [p]) (upd H p o) :=
  ⟨⟨[p], rfl⟩, fun a u h _ => by rw [upd_ne (ne_of_none h hp)]; exact h, fun a h => by
    rcases List.mem_append.mp h with h | h
    · exact .inl h
    · rw [List.mem_singleton.mp h]; exact .inr hp, fun a xs h => by rw [upd_ne (ne_of_none h hp)]; exact h, fun a o u h => by rw [upd_ne (ne_of_none h hp)]; exact h⟩
theorem SR.alloc {st : Sto} (S : SR K m H st) {p : Addr} {o : HO} {u : O} (hp : H p = none) (h : OR K (m ++ [p]) (upd H p o) p u) : SR K (m ++ [p]) (upd H p o) (st ++ [u]) := by
  have hpm : p ∉ m := fun q => by
    obtain ⟨u, e, _⟩ := S.there q
    rw [hp] at e; cases e
  refine ⟨by rw [List.length_append, List.length_append, S.len]; rfl, List.nodup_append.mpr ⟨S.nd, by simp, fun a ha b hb => ?_⟩, fun n a o' h1 h2 => ?_⟩
  · rw [List.mem_singleton.mp hb]
    rintro rfl
    exact hpm ha
  · by_cases hn : n < m.length
    · rw [List.getElem?_append_left hn] at h1
      rw [List.getElem?_append_left (by rw [← S.len]; exact hn)] at h2
      refine (S.ok n a o' h1 h2).adv (Adv.alloc hp) ?_
      obtain ⟨u', h, _⟩ := S.there (List.mem_of_getElem? h1)
      rw [upd_ne (ne_of_none h hp)]
    · have e : n = m.length := by
        have := (List.getElem?_eq_some_iff.mp h1).1
        rw [List.length_append, List.length_singleton] at this
        omega
      subst e
      rw [List.getElem?_append_right (Nat.le_refl _), Nat.sub_self] at h1
      rw [S.len, List.getElem?_append_right (Nat.le_refl _), Nat.sub_self] at h2
      cases h1
      cases h2
      exact h
theorem alloc_at {st : Sto} (S : SR K m H st) {p : Addr} {H' : Hp} : R K (m ++ [p]) H' (.ref st.length) (.ref p) := by
  refine .ref ?_
  rw [← S.len, List.getElem?_append_right (Nat.le_refl _), Nat.sub_self]
  rfl
/-- an object of the store is written -/
theorem Adv.write {st : Sto} (S : SR K m H st) {n : Nat} {a : Addr} {o : HO} (h : m[n]? = some a) : Adv m H m (upd H a o) := by
  have ha := List.mem_of_getElem? h
  obtain ⟨u, e, k⟩ := S.there ha
  refine ⟨⟨[], by simp⟩, fun b u h n => ?_, fun _ h => .inl h, fun b xs h => ?_, fun b o u h => ?_⟩
  · rw [upd_ne (fun z => n (by rw [z]; exact ha))]; exact h
  · rw [upd_ne (fun z => ?_)]
    · exact h
    · rw [z, e] at h
      rcases k with ⟨_, rfl⟩ | ⟨_, rfl⟩ <;> cases h
  · rw [upd_ne (fun z => ?_)]
    · exact h
    · rw [z, e] at h
      rcases k with ⟨_, rfl⟩ | ⟨_, rfl⟩ <;> cases h
theorem SR.write {st : Sto} (S : SR K m H st) {n : Nat} {a : Addr} {o : HO} {u : O} (h : m[n]? = some a) (hu : OR K m (upd H a o) a u) : SR K m (upd H a o) (st.set n u) := by
  refine ⟨by rw [List.length_set]; exact S.len, S.nd, fun j b o' h1 h2 => ?_⟩
  by_cases e : n = j
  · subst e
    rw [h] at h1
    cases h1
    have hl : n < st.length := by rw [← S.len]; exact (List.getElem?_eq_some_iff.mp h).1
    rw [List.getElem?_set_self hl] at h2
    cases h2
    exact hu
  · rw [List.getElem?_set_ne e] at h2
    have hne : b ≠ a := fun z => by
      subst z
      obtain ⟨l1, e1⟩ := List.getElem?_eq_some_iff.mp h
      obtain ⟨l2, e2⟩ := List.getElem?_eq_some_iff.mp h1
      exact e ((List.getElem_inj S.nd).mp (e1.trans e2.symm))
    exact (S.ok j b o' h1 h2).adv (Adv.write S h) (upd_ne hne)
/-- the frame's slots -/
def EQ (K : PySem.W.Frag) (m : List Addr) (H : Hp) : Option W → Option V → Prop
  | some w, some v => R K m H w v
  | none, _ => True
  | some _, none => False
inductive ER (K : PySem.W.Frag) (m : List Addr) (H : Hp) : EnvM → List (Option V) → Prop
  | nil : ER K m H [] []
  | cons {x : Option W} {y : Option V} {ρ : EnvM} {σ : List (Option V)} : EQ K m H x y → ER K m H ρ σ → ER K m H (x :: ρ) (y :: σ)
theorem EQ.adv (A : Adv m H m' H') : ∀ {x : Option W} {y : Option V}, EQ K m H x y → EQ K m' H' x y
  | some _, some _, h => R.adv A h
  | none, _, _ => trivial
  | some _, none, h => h
theorem ER.adv (A : Adv m H m' H') : ∀ {ρ : EnvM} {σ : List (Option V)}, ER K m H ρ σ → ER K m' H' ρ σ
  | _, _, .nil => .nil
  | _, _, .cons h t => .cons (h.adv A) (t.adv A)
theorem ER.get : ∀ {ρ : EnvM} {σ : List (Option V)} {i : Nat} {w : W}, ER K m H ρ σ → ρ[i]? = some (some w) → ∃ v, σ[i]? = some (some v) ∧ R K m H w v
  | _, _, _, _, .nil, e => by cases e
  | _, _, 0, w, .cons (x := x) (y := y) h t, e => by
    cases e
    cases y with
    | none => exact False.elim h
    | some v => exact ⟨v, rfl, h⟩
  | _, _, i + 1, w, .cons h t, e => ER.get (i := i) t e
theorem ER.set : ∀ {ρ : EnvM} {σ : List (Option V)} (i : Nat) {w : W} {v : V}, ER K m H ρ σ → R K m H w v → ER K m H (ρ.set i (some w)) (σ.set i (some v))
  | _, _, _, _, _, .nil, r => .nil
  | _, _, 0, w, _, .cons h t, r => .cons r t
  | _, _, i + 1, w, _, .cons h t, r => .cons h (ER.set i t r)
theorem ER.forget : ∀ {ρ : EnvM} {σ : List (Option V)} (i : Nat), ER K m H ρ σ → ER K m H (ρ.set i none) (σ.set i none)
  | _, _, _, .nil => .nil
  | _, _, 0, .cons h t => .cons trivial t
  | _, _, i + 1, .cons h t => .cons h (ER.forget i t)
theorem ER.len : ∀ {ρ : EnvM} {σ : List (Option V)}, ER K m H ρ σ → ρ.length = σ.length
  | _, _, .nil => rfl
  | _, _, .cons h t => by rw [List.length_cons, List.length_cons, ER.len t]
theorem ER.nones (n : Nat) : ER K m H (List.replicate n none) (List.replicate n none) := by
  induction n with
  | zero => exact .nil
  | succ n ih => exact .cons trivial ih
theorem ER.app : ∀ {ρ ρ' : EnvM} {σ σ' : List (Option V)}, ER K m H ρ σ → ER K m H ρ' σ' → ER K m H (ρ ++ ρ') (σ ++ σ')
  | _, _, _, _, .nil, g => g
  | _, _, _, _, .cons h t, g => .cons h (ER.app t g)
theorem RL.env : ∀ {ws : List W} {vs : List V}, RL K m H ws vs → ER K m H (ws.map some) (vs.map some)
  | [], _, h => by cases h; exact .nil
  | w :: ws, _, h => by
    cases h with
    | cons h1 h2 => exact .cons h1 (RL.env h2)
end
end Mir

set_option Elab.async false
set_option linter.all false
set_option maxRecDepth 100000
namespace Mir
open PySem PySem.Spec PyProof.Rows L2

/-! ### results -/
abbrev Rz (α : Type) := Option (α × Sto)
def bd {α β : Type} (x : Rz α) (f : α → Sto → Rz β) : Rz β := match x with
  | some (a, s) => f a s
  | none => none
theorem bd_some {α β : Type} {a : α} {s : Sto} {f : α → Sto → Rz β} : bd (some (a, s)) f = f a s := rfl
theorem bd_none {α β : Type} {f : α → Sto → Rz β} : bd (none : Rz α) f = none := rfl
theorem bd_inv {α β : Type} {x : Rz α} {f : α → Sto → Rz β} {r : β × Sto} (h : bd x f = some r) : ∃ a s, x = some (a, s) ∧ f a s = some r := by
  cases x with
  | none => cases h
  | some p => exact ⟨p.1, p.2, rfl, h⟩
theorem bd_assoc {α β γ : Type} {x : Rz α} {f : α → Sto → Rz β} {g : β → Sto → Rz γ} : bd (bd x f) g = bd x fun a s => bd (f a s) g := by
  cases x <;> rfl
abbrev FE := EnvM → Sto → Rz W
abbrev FT := EnvM → Sto → Rz Bool
abbrev FA := EnvM → Sto → Rz (List W)
abbrev FP := EnvM → Sto → Rz (Option Int)
inductive Out where
  | nx (ρ : EnvM)
  | rt (w : W)
  | bk (ρ : EnvM)
  | ct (ρ : EnvM)
abbrev FS := EnvM → Sto → Rz Out

/-! ### what is wished behind a result -/
def wE (K : PySem.W.Frag) (m : List Addr) (H : Hp) (r : Rz W) (Q : VK) : Prop := ∃ w s, r = some (w, s) ∧ ∀ m' H' v, Adv m H m' H' → SR K m' H' s → R K m' H' w v → Q v H'
def wT (K : PySem.W.Frag) (m : List Addr) (H : Hp) (r : Rz Bool) (Q : Bool → Hp → Prop) : Prop := ∃ b s, r = some (b, s) ∧ ∀ m' H', Adv m H m' H' → SR K m' H' s → Q b H'
def wA (K : PySem.W.Frag) (m : List Addr) (H : Hp) (r : Rz (List W)) (Q : List V → Hp → Prop) : Prop := ∃ ws s, r = some (ws, s) ∧ ∀ m' H' vs, Adv m H m' H' → SR K m' H' s → RL K m' H' ws vs → Q vs H'
def wP (K : PySem.W.Frag) (m : List Addr) (H : Hp) (r : Rz (Option Int)) (Q : Option Int → Hp → Prop) : Prop := ∃ i s, r = some (i, s) ∧ ∀ m' H', Adv m H m' H' → SR K m' H' s → Q i H'
def outE (K : PySem.W.Frag) (m : List Addr) (H : Hp) (s : Sto) (D : Ends) : Out → Prop
  | .nx ρ => ∀ m' H' σ', Adv m H m' H' → SR K m' H' s → ER K m' H' ρ σ' → D.nx σ' H'
  | .bk ρ => ∀ m' H' σ', Adv m H m' H' → SR K m' H' s → ER K m' H' ρ σ' → D.bk σ' H'
  | .ct ρ => ∀ m' H' σ', Adv m H m' H' → SR K m' H' s → ER K m' H' ρ σ' → D.ct σ' H'
  | .rt w => ∀ m' H' v, Adv m H m' H' → SR K m' H' s → R K m' H' w v → D.rt v H'
def wS (K : PySem.W.Frag) (m : List Addr) (H : Hp) (r : Rz Out) (D : Ends) : Prop := ∃ o s, r = some (o, s) ∧ outE K m H s D o
/-! ### the readings -/
def tF (K : PySem.W.Frag) (f : FE) : TE := fun σ H Q => ∃ m ρ s, ER K m H ρ σ ∧ SR K m H s ∧ wE K m H (f ρ s) Q
def tT (K : PySem.W.Frag) (f : FT) : TT := fun σ H Q => ∃ m ρ s, ER K m H ρ σ ∧ SR K m H s ∧ wT K m H (f ρ s) Q
def tA (K : PySem.W.Frag) (f : FA) : TA := fun σ H Q => ∃ m ρ s, ER K m H ρ σ ∧ SR K m H s ∧ wA K m H (f ρ s) Q
def tP (K : PySem.W.Frag) (f : FP) : TO := fun σ H Q => ∃ m ρ s, ER K m H ρ σ ∧ SR K m H s ∧ wP K m H (f ρ s) Q
def tS (K : PySem.W.Frag) (f : FS) : TS := fun D σ H => ∃ m ρ s, ER K m H ρ σ ∧ SR K m H s ∧ wS K m H (f ρ s) D
def OpF (K : PySem.W.Frag) (r : R2) (g : W → W → Sto → Rz W) : Prop := ∀ m H s x y v u Q, SR K m H s → R K m H x v → R K m H y u → wE K m H (g x y s) Q → r v u H Q
def UnF (K : PySem.W.Frag) (r : V → Hp → VK → Prop) (g : W → Sto → Rz W) : Prop := ∀ m H s x v Q, SR K m H s → R K m H x v → wE K m H (g x s) Q → r v H Q
def CallF (K : PySem.W.Frag) (r : List V → Hp → VK → Prop) (g : List W → Sto → Rz W) : Prop := ∀ m H s ws vs Q, SR K m H s → RL K m H ws vs → wE K m H (g ws s) Q → r vs H Q
def MtF (K : PySem.W.Frag) (r : V → List V → Hp → VK → Prop) (g : W → List W → Sto → Rz W) : Prop := ∀ m H s x v ws vs Q, SR K m H s → R K m H x v → RL K m H ws vs → wE K m H (g x ws s) Q → r v vs H Q
def SlF (K : PySem.W.Frag) (r : V → Option Int → Option Int → Hp → VK → Prop) (g : W → Option Int → Option Int → Sto → Rz W) : Prop := ∀ m H s x v lo hi Q, SR K m H s → R K m H x v → wE K m H (g x lo hi s) Q → r v lo hi H Q

section
variable {X : Cx}
theorem _root_.L2.PE.imp {e : Expr} {t t' : TE} (h : PE X e t) (q : ∀ σ H Q, t' σ H Q → t σ H Q) : PE X e t' := ⟨fun pins s σ H Q I r => h.run pins s σ H Q I (q _ _ _ r)⟩
theorem _root_.L2.PT.imp {e : Expr} {t t' : TT} (h : PT X e t) (q : ∀ σ H Q, t' σ H Q → t σ H Q) : PT X e t' := ⟨fun pins s σ H Q I r => h.run pins s σ H Q I (q _ _ _ r)⟩
theorem _root_.L2.PW.imp {e : Expr} {t t' : TT} (h : PW X e t) (q : ∀ σ H Q, t' σ H Q → t σ H Q) : PW X e t' := ⟨fun whole pins s σ H Q I r => h.run whole pins s σ H Q I (q _ _ _ r)⟩
theorem _root_.L2.PA.imp {e : List Expr} {t t' : TA} (h : PA X e t) (q : ∀ σ H Q, t' σ H Q → t σ H Q) : PA X e t' := ⟨fun pos pins s σ H Q I r => h.run pos pins s σ H Q I (q _ _ _ r)⟩
theorem _root_.L2.PS.imp {st : Stmt} {t t' : TS} (h : PS X st t) (q : ∀ D σ H, t' D σ H → t D σ H) : PS X st t' := ⟨fun pins s σ H D I r => h.run pins s σ H D I (q _ _ _ r)⟩
theorem _root_.L2.PSs.imp {st : List Stmt} {t t' : TS} (h : PSs X st t) (q : ∀ D σ H, t' D σ H → t D σ H) : PSs X st t' := ⟨fun pins s σ H D I r => h.run pins s σ H D I (q _ _ _ r)⟩
theorem _root_.L2.PO.imp {e : Option Expr} {t t' : TO} (h : PO X e t) (q : ∀ σ H Q, t' σ H Q → t σ H Q) : PO X e t' := by
  cases h with
  | mk run => exact ⟨fun pins s σ H Q I r => run pins s σ H Q I (q _ _ _ r)⟩
theorem wE.adv {K : PySem.W.Frag} {m m1 : List Addr} {H H1 : Hp} {r : Rz W} {Q : VK} (h : wE K m H r Q) (A : Adv m H m1 H1) : wE K m1 H1 r Q := by
  obtain ⟨w, s, e, q⟩ := h
  exact ⟨w, s, e, fun m' H' v A' => q m' H' v (A.trans A')⟩
theorem wT.adv {K : PySem.W.Frag} {m m1 : List Addr} {H H1 : Hp} {r : Rz Bool} {Q : Bool → Hp → Prop} (h : wT K m H r Q) (A : Adv m H m1 H1) : wT K m1 H1 r Q := by
  obtain ⟨w, s, e, q⟩ := h
  exact ⟨w, s, e, fun m' H' A' => q m' H' (A.trans A')⟩
theorem wA.adv {K : PySem.W.Frag} {m m1 : List Addr} {H H1 : Hp} {r : Rz (List W)} {Q : List V → Hp → Prop} (h : wA K m H r Q) (A : Adv m H m1 H1) : wA K m1 H1 r Q := by
  obtain ⟨w, s, e, q⟩ := h
  exact ⟨w, s, e, fun m' H' v A' => q m' H' v (A.trans A')⟩
theorem outE.adv {K : PySem.W.Frag} {m m1 : List Addr} {H H1 : Hp} {s : Sto} {D : Ends} {o : Out} (h : outE K m H s D o) (A : Adv m H m1 H1) : outE K m1 H1 s D o := by
  cases o with
  | nx ρ => exact fun m' H' σ' A' => h m' H' σ' (A.trans A')
  | bk ρ => exact fun m' H' σ' A' => h m' H' σ' (A.trans A')
  | ct ρ => exact fun m' H' σ' A' => h m' H' σ' (A.trans A')
  | rt w => exact fun m' H' σ' A' => h m' H' σ' (A.trans A')
theorem wS.adv {K : PySem.W.Frag} {m m1 : List Addr} {H H1 : Hp} {r : Rz Out} {D : Ends} (h : wS K m H r D) (A : Adv m H m1 H1) : wS K m1 H1 r D := by
  obtain ⟨o, s, e, q⟩ := h
  exact ⟨o, s, e, q.adv A⟩
/-- the chain: first x, then its follower, in the place where x has come -/
theorem wE.bdE {K : PySem.W.Frag} {m : List Addr} {H : Hp} {x : Rz W} {f : W → Sto → Rz W} {Q : VK} (h : wE K m H (bd x f) Q) : wE K m H x fun v H' => ∃ m' w s, Adv m H m' H' ∧ SR K m' H' s ∧ R K m' H' w v ∧ x = some (w, s) ∧ wE K m' H' (f w s) Q := by
  obtain ⟨w, s, e, q⟩ := h
  obtain ⟨a, s1, e1, e2⟩ := bd_inv e
  exact ⟨a, s1, e1, fun m' H' v A S r => ⟨m', a, s1, A, S, r, e1, w, s, e2, fun m2 H2 v2 A2 => q m2 H2 v2 (A.trans A2)⟩⟩

/-! ### names, constants -/
def eVar (i : Nat) : FE := fun ρ s => match ρ[i]? with
  | some (some w) => some (w, s)
  | _ => none
theorem eVar_at {i : Nat} {ρ : EnvM} {s : Sto} {w : W} (h : ρ[i]? = some (some w)) : eVar i ρ s = some (w, s) := by unfold eVar; rw [h]
def eC (w : W) : FE := fun _ s => some (w, s)
theorem eVar_inv {i : Nat} {ρ : EnvM} {s : Sto} {r : W × Sto} (h : eVar i ρ s = some r) : ρ[i]? = some (some r.1) ∧ s = r.2 := by
  unfold eVar at h
  cases e : ρ[i]? with
  | none => rw [e] at h; cases h
  | some o =>
    cases o with
    | none => rw [e] at h; cases h
    | some w => rw [e] at h; cases h; exact ⟨rfl, rfl⟩
variable {e a b : Expr} {es : List Expr} {pos : Pos}
theorem m_var (i : Nat) {x : Str} (hN : X.N[i]? = some x := by rfl) (hv : Vis X.env.scope x := by first | exact Or.inl rfl | exact Or.inr (Or.inl rfl) | exact Or.inr (Or.inr rfl)) (hd : (x == ("__debug__" : Str)) = false := by decide)
    (hcd : (x == ("__classdict__" : Str)) = false := by decide) : PE X (.Name x pos) (tF X.K (eVar i)) := (pe_var hN hv hd hcd).imp fun σ H Q ⟨m, ρ, s, er, sr, w, s', h, q⟩ => by
  obtain ⟨h1, h2⟩ := eVar_inv h
  obtain ⟨v, hv, r⟩ := er.get h1
  have h2 : s = s' := h2
  subst h2
  exact ⟨v, hv, q m H v (Adv.refl m H) sr r⟩
theorem m_c {v : V} {w : W} (h : PE X e (tC v)) (r : ∀ m H, R X.K m H w v) : PE X e (tF X.K (eC w)) := h.imp fun σ H Q ⟨m, ρ, s, er, sr, w', s', e', q⟩ => by
  cases e'
  exact q m H v (Adv.refl m H) sr (r m H)
theorem m_int {i j} : PE X (.Constant (.int i) j pos) (tF X.K (eC (.int i))) := m_c pe_int fun _ _ => .int _
theorem m_bl {i j} : PE X (.Constant (.bool i) j pos) (tF X.K (eC (.bl i))) := m_c pe_bl fun _ _ => .bl _
theorem m_non {j} : PE X (.Constant .none j pos) (tF X.K (eC .non)) := m_c pe_non fun _ _ => .non
theorem m_str {x j} : PE X (.Constant (.str x) j pos) (tF X.K (eC (.str x))) := m_c pe_str fun _ _ => .str _

/-! ### operators, calls, methods by values -/
def eOp (g : W → W → Sto → Rz W) (a b : FE) : FE := fun ρ s => bd (a ρ s) fun x s1 => bd (b ρ s1) fun y s2 => g x y s2
def eUn (g : W → Sto → Rz W) (a : FE) : FE := fun ρ s => bd (a ρ s) fun x s1 => g x s1
def aNil : FA := fun _ s => some ([], s)
def aCons (a : FE) (r : FA) : FA := fun ρ s => bd (a ρ s) fun x s1 => bd (r ρ s1) fun xs s2 => some (x :: xs, s2)
def eFn (g : List W → Sto → Rz W) (a : FA) : FE := fun ρ s => bd (a ρ s) fun xs s1 => g xs s1
def eMt (c : W → Sto → Bool) (g : W → List W → Sto → Rz W) (o : FE) (a : FA) : FE := fun ρ s => bd (o ρ s) fun x s1 => if c x s1 = true then bd (a ρ s1) fun xs s2 => g x xs s2 else none
theorem tF_op {K : PySem.W.Frag} {r : R2} {g : W → W → Sto → Rz W} {fa fb : FE} (hg : OpF K r g) : ∀ σ H Q, tF K (eOp g fa fb) σ H Q → tOp r (tF K fa) (tF K fb) σ H Q := by
  rintro σ H Q ⟨m, ρ, s, er, sr, w, s', e, q⟩
  obtain ⟨x, s1, e1, e⟩ := bd_inv e
  obtain ⟨y, s2, e2, e⟩ := bd_inv e
  exact ⟨m, ρ, s, er, sr, x, s1, e1, fun m1 H1 v A1 S1 r1 => ⟨m1, ρ, s1, er.adv A1, S1, y, s2, e2, fun m2 H2 u A2 S2 r2 =>
    hg m2 H2 s2 x y v u Q S2 (r1.adv A2) r2 ⟨w, s', e, fun m3 H3 z A3 => q m3 H3 z ((A1.trans A2).trans A3)⟩⟩⟩
theorem tF_un {K : PySem.W.Frag} {r : V → Hp → VK → Prop} {g : W → Sto → Rz W} {fa : FE} (hg : UnF K r g) : ∀ σ H Q, tF K (eUn g fa) σ H Q → tUn r (tF K fa) σ H Q := by
  rintro σ H Q ⟨m, ρ, s, er, sr, w, s', e, q⟩
  obtain ⟨x, s1, e1, e⟩ := bd_inv e
  exact ⟨m, ρ, s, er, sr, x, s1, e1, fun m1 H1 v A1 S1 r1 => hg m1 H1 s1 x v Q S1 r1 ⟨w, s', e, fun m3 H3 z A3 => q m3 H3 z (A1.trans A3)⟩⟩
theorem tF_fn {K : PySem.W.Frag} {r : List V → Hp → VK → Prop} {g : List W → Sto → Rz W} {fa : FA} (hg : CallF K r g) : ∀ σ H Q, tF K (eFn g fa) σ H Q → (fun σ H Q => tA K fa σ H fun vs H1 => r vs H1 Q : TE) σ H Q := by
  rintro σ H Q ⟨m, ρ, s, er, sr, w, s', e, q⟩
  obtain ⟨x, s1, e1, e⟩ := bd_inv e
  exact ⟨m, ρ, s, er, sr, x, s1, e1, fun m1 H1 v A1 S1 r1 => hg m1 H1 s1 x v Q S1 r1 ⟨w, s', e, fun m3 H3 z A3 => q m3 H3 z (A1.trans A3)⟩⟩
theorem m_op {op : Operator} {r : R2} {g : W → W → Sto → Rz W} {fa fb : FE} (ho : OpR X (binaryOp op) r) (hg : OpF X.K r g) (ha : PE X a (tF X.K fa)) (hb : PE X b (tF X.K fb)) : PE X (.BinOp a op b pos) (tF X.K (eOp g fa fb)) := (pe_op ho ha hb).imp (tF_op hg)
theorem m_un {op : UnaryOp} {r : V → Hp → VK → Prop} {g : W → Sto → Rz W} {fa : FE} (ho : UnR X (unaryOp op) r) (hg : UnF X.K r g) (ha : PE X a (tF X.K fa)) : PE X (.UnaryOp op a pos) (tF X.K (eUn g fa)) := (pe_un ho ha).imp (tF_un hg)
theorem m_ix {r : R2} {g : W → W → Sto → Rz W} {fa fb : FE} (hr : IxR X r) (hg : OpF X.K r g) (ha : PE X a (tF X.K fa)) (hb : PE X b (tF X.K fb)) (hs : PlainIx b) : PE X (.Subscript a b pos) (tF X.K (eOp g fa fb)) := (pe_ix hr ha hb hs).imp (tF_op hg)
theorem m_cmp {op : CmpOp} {r : R2} {g : W → W → Sto → Rz W} {fa fb : FE} (ho : OpR X (compareOp op) r) (hg : OpF X.K r g) (ha : PE X a (tF X.K fa)) (hb : PE X b (tF X.K fb)) (hm : behindInMarks op b = false) : PE X (.Compare a [op] [b] pos) (tF X.K (eOp g fa fb)) :=
  (pe_cmpR ho ha hb hm).imp (tF_op hg)
theorem ma_nil : PA X [] (tA X.K aNil) := pa_nil.imp fun σ H Q ⟨m, ρ, s, er, sr, ws, s', e, q⟩ => by
  cases e
  exact q m H [] (Adv.refl m H) sr .nil
theorem ma_cons {fa : FE} {fr : FA} (ha : PE X e (tF X.K fa)) (hr : PA X es (tA X.K fr)) (hs : starEach (e :: es) X.env = (false, eval e X.env) :: starEach es X.env := by rfl) : PA X (e :: es) (tA X.K (aCons fa fr)) :=
  (pa_cons ha hr hs).imp fun σ H Q ⟨m, ρ, s, er, sr, ws, s', e, q⟩ => by
    obtain ⟨x, s1, e1, e⟩ := bd_inv e
    obtain ⟨y, s2, e2, e⟩ := bd_inv e
    cases e
    exact ⟨m, ρ, s, er, sr, x, s1, e1, fun m1 H1 v A1 S1 r1 => ⟨m1, ρ, s1, er.adv A1, S1, y, _, e2, fun m2 H2 u A2 S2 r2 => q m2 H2 (v :: u) (A1.trans A2) S2 (.cons (r1.adv A2) r2)⟩⟩
/-- a star of a tuple or a list -/
def seqOf (x : W) (s : Sto) : Option (List W) := match x with
  | .tup ws => some ws
  | .lro ws => some ws
  | .ref n => match s[n]? with
    | some (.lst ws) => some ws
    | _ => none
  | _ => none
theorem seq_of {K : PySem.W.Frag} {m : List Addr} {H : Hp} {s : Sto} {x : W} {v : V} {ws : List W} (S : SR K m H s) (r : R K m H x v) (h : seqOf x s = some ws) : ∃ p vs, v = .ref p ∧ (SqT K H p vs ∨ SqL K H p vs) ∧ RL K m H ws vs := by
  cases r with
  | non => cases h
  | bl => cases h
  | int => cases h
  | str => cases h
  | tup h1 h2 => cases h; exact ⟨_, _, rfl, .inl h1.sq, h2⟩
  | lro h1 h2 => cases h; exact ⟨_, _, rfl, .inr h1.sq, h2⟩
  | @ref n a h1 =>
    cases e : s[n]? with
    | none => simp only [seqOf, e] at h; cases h
    | some o =>
      cases o with
      | dct _ => simp only [seqOf, e] at h; cases h
      | lst ws' =>
        simp only [seqOf, e] at h
        cases h
        obtain ⟨a', h2, vs, h3, h4⟩ := S.at e
        rw [h1] at h2
        cases h2
        exact ⟨_, _, rfl, .inr (SqL.of h3), h4⟩
def aStar (a : FE) (r : FA) : FA := fun ρ s => bd (a ρ s) fun x s1 => match seqOf x s1 with
  | some ws => bd (r ρ s1) fun xs s2 => some (ws ++ xs, s2)
  | none => none
theorem ma_star {p : Pos} {fa : FE} {fr : FA} (ha : PE X e (tF X.K fa)) (hr : PA X es (tA X.K fr)) (hs : starEach (.Starred e p :: es) X.env = (true, eval e X.env) :: starEach es X.env := by rfl) : PA X (.Starred e p :: es) (tA X.K (aStar fa fr)) :=
  (StX.pa_star ha hr hs).imp fun σ H Q ⟨m, ρ, s, er, sr, ws, s', e, q⟩ => by
    obtain ⟨x, s1, e1, e⟩ := bd_inv e
    cases es : seqOf x s1 with
    | none => rw [es] at e; cases e
    | some zs =>
      rw [es] at e
      obtain ⟨y, s2, e2, e⟩ := bd_inv e
      cases e
      refine ⟨m, ρ, s, er, sr, x, s1, e1, fun m1 H1 v A1 S1 r1 => ?_⟩
      obtain ⟨p, vs, e3, h3, r3⟩ := seq_of S1 r1 es
      exact ⟨p, vs, e3, h3, m1, ρ, s1, er.adv A1, S1, y, _, e2, fun m2 H2 u A2 S2 r2 => q m2 H2 (vs ++ u) (A1.trans A2) S2 ((r3.adv A2).app r2)⟩
/-- built-ins by name -/
theorem m_callB {id : String} {x : Str} {p : Pos} {r : List V → Hp → VK → Prop} {g : List W → Sto → Rz W} {fa : FA} (hc : CallR X (.builtin id) r) (hg' : CallF X.K r g) (hg : Gl X x) (hm : X.mg x = none) (hv : bootBuiltins x = some (.builtin id)) (ha : PA X (e :: es) (tA X.K fa)) (hn : x ≠ "__name__" := by decide) (hdb : (x == ("__debug__" : Str)) = false := by decide)
    (he : starEach (e :: es) X.env = (false, eval e X.env) :: starEach es X.env := by rfl) (hpl : (backTo pos (starEach es X.env)).any (·.1) = false := by rfl) : PE X (.Call (.Name x p) (e :: es) [] pos) (tF X.K (eFn g fa)) := (pe_callB hc hg hm hv ha hn hdb he hpl).imp (tF_fn hg')
theorem m_callTy {T : String} {x : Str} {p : Pos} {r : List V → Hp → VK → Prop} {g : List W → Sto → Rz W} {fa : FA} (hc : CallR X (.type T) r) (hg' : CallF X.K r g) (hg : Gl X x) (hm : X.mg x = none) (hv : bootBuiltins x = some (.type T)) (ha : PA X (e :: es) (tA X.K fa)) (hn : x ≠ "__name__" := by decide) (hdb : (x == ("__debug__" : Str)) = false := by decide)
    (he : starEach (e :: es) X.env = (false, eval e X.env) :: starEach es X.env := by rfl) (hpl : (backTo pos (starEach es X.env)).any (·.1) = false := by rfl) : PE X (.Call (.Name x p) (e :: es) [] pos) (tF X.K (eFn g fa)) := (pe_callTy hc hg hm hv ha hn hdb he hpl).imp (tF_fn hg')
end
end Mir

set_option Elab.async false
set_option linter.all false
set_option maxRecDepth 100000
namespace Mir
open PySem PySem.Spec PyProof.Rows L2
section
variable {X : Cx} {e a b c : Expr} {es : List Expr} {pos : Pos}
/-! ### tests, truth -/
def bTest (f : FE) : FT := fun ρ s => bd (f ρ s) fun x s1 => match x with
  | .bl k => some (k, s1)
  | _ => none
theorem tT_test {K : PySem.W.Frag} {f : FE} : ∀ σ H Q, tT K (bTest f) σ H Q → (tF K f) σ H fun x H' => ∃ k, x = .bl k ∧ Q k H' := by
  rintro σ H Q ⟨m, ρ, s, er, sr, k, s', e, q⟩
  obtain ⟨x, s1, e1, e⟩ := bd_inv e
  cases x with
  | bl k' =>
    cases e
    exact ⟨m, ρ, s, er, sr, _, _, e1, fun m1 H1 v A1 S1 r1 => by cases r1; exact ⟨k, rfl, q m1 H1 A1 S1⟩⟩
  | _ => cases e
theorem mt_cmp {op : CmpOp} {r : R2} {g : W → W → Sto → Rz W} {fa fb : FE} (ho : OpR X (compareOp op) r) (hg : OpF X.K r g) (ha : PE X a (tF X.K fa)) (hb : PE X b (tF X.K fb)) (hm : behindInMarks op b = false) : PT X (.Compare a [op] [b] pos) (tT X.K (bTest (eOp g fa fb))) :=
  (pt_cmpR ho ha hb hm).imp fun σ H Q h => tF_op hg σ H _ (tT_test σ H Q h)
theorem mt_val {f : FE} (h : PE X e (tF X.K f)) (he : ∀ whole, isTrue e X.env whole = (do let v ← whole; standAt e.pos; holding [v] (truthy v)) := by intro _; rfl) : PT X e (tT X.K (bTest f)) := (pt_val h he).imp fun σ H Q q => tT_test σ H Q q
/-- truth of any value -/
def truW (x : W) (s : Sto) : Option Bool := match x with
  | .non => some false
  | .bl b => some b
  | .int i => some (i != 0)
  | .str y => if y.length ≤ sizeLine then some ((y.length : Int) != 0) else none
  | .tup ws => some (!ws.isEmpty)
  | .lro ws => some (!ws.isEmpty)
  | .ref n => match s[n]? with
    | some (.lst ws) => some (!ws.isEmpty)
    | some (.dct kvs) => some (!kvs.isEmpty)
    | none => none
theorem RL.emp {K : PySem.W.Frag} {m : List Addr} {H : Hp} {ws : List W} {vs : List V} (h : RL K m H ws vs) : vs.isEmpty = ws.isEmpty := by cases h <;> rfl
theorem RK.emp {K : PySem.W.Frag} {m : List Addr} {H : Hp} {ws : List (Key × W)} {vs : List (Key × V)} (h : RK K m H ws vs) : vs.isEmpty = ws.isEmpty := by cases h <;> rfl
theorem tru_of {K : PySem.W.Frag} {m : List Addr} {H : Hp} {s : Sto} {x : W} {v : V} {k : Bool} (S : SR K m H s) (r : R K m H x v) (h : truW x s = some k) : TruV K v H k := by
  cases r with
  | non => cases h; rfl
  | bl b => cases h; rfl
  | int i => cases h; rfl
  | str y =>
    simp only [truW] at h
    split at h
    · rename_i hl
      cases h
      exact ⟨hl, rfl⟩
    · cases h
  | tup h1 h2 => cases h; exact .inr (.inl ⟨_, h1.sq, by rw [h2.emp]⟩)
  | lro h1 h2 => cases h; exact .inl ⟨_, h1.sq, by rw [h2.emp]⟩
  | @ref n a h1 =>
    cases e : s[n]? with
    | none => simp only [truW, e] at h; cases h
    | some o =>
      obtain ⟨a', h2, h3⟩ := S.at e
      rw [h1] at h2
      cases h2
      cases o with
      | lst ws =>
        simp only [truW, e] at h
        cases h
        obtain ⟨vs, h3, h4⟩ := h3
        exact .inl ⟨_, SqL.of h3, by rw [h4.emp]⟩
      | dct ws =>
        simp only [truW, e] at h
        cases h
        obtain ⟨vs, h3, h4⟩ := h3
        exact .inr (.inr ⟨_, h3, by rw [h4.emp]⟩)
def bTruth (f : FE) : FT := fun ρ s => bd (f ρ s) fun x s1 => match truW x s1 with
  | some k => some (k, s1)
  | none => none
theorem mt_truth {f : FE} (h : PE X e (tF X.K f)) (he : ∀ whole, isTrue e X.env whole = (do let v ← whole; standAt e.pos; holding [v] (truthy v)) := by intro _; rfl) : PT X e (tT X.K (bTruth f)) :=
  (pt_truth h he).imp fun σ H Q ⟨m, ρ, s, er, sr, k, s', e, q⟩ => by
    obtain ⟨x, s1, e1, e⟩ := bd_inv e
    cases et : truW x s1 with
    | none => simp only [et] at e; cases e
    | some k' =>
      simp only [et] at e
      cases e
      exact ⟨m, ρ, s, er, sr, x, _, e1, fun m1 H1 v A1 S1 r1 => ⟨_, tru_of S1 r1 et, q m1 H1 A1 S1⟩⟩
def bAnd (t u : FT) : FT := fun ρ s => bd (t ρ s) fun k s1 => if k = true then u ρ s1 else some (false, s1)
def bOr (t u : FT) : FT := fun ρ s => bd (t ρ s) fun k s1 => if k = true then some (true, s1) else u ρ s1
def bNot (t : FT) : FT := fun ρ s => bd (t ρ s) fun k s1 => some (!k, s1)

theorem mw_and1 {t : FT} (h : PT X a (tT X.K t)) : PW X (.BoolOp .And [a] pos) (tT X.K t) := pw_and1 h
theorem mw_or1 {t : FT} (h : PT X a (tT X.K t)) : PW X (.BoolOp .Or [a] pos) (tT X.K t) := pw_or1 h
theorem mw_and {t u : FT} {rest : List Expr} (ha : PT X a (tT X.K t)) (hb : PW X (.BoolOp .And (b :: rest) pos) (tT X.K u)) : PW X (.BoolOp .And (a :: b :: rest) pos) (tT X.K (bAnd t u)) :=
  (pw_and ha hb).imp fun σ H Q ⟨m, ρ, s, er, sr, k, s', e, q⟩ => by
    obtain ⟨c, s1, e1, e⟩ := bd_inv e
    refine ⟨m, ρ, s, er, sr, c, s1, e1, fun m1 H1 A1 S1 => ?_⟩
    cases c with
    | true =>
      rw [if_pos rfl] at e ⊢
      exact ⟨m1, ρ, s1, er.adv A1, S1, k, s', e, fun m2 H2 A2 => q m2 H2 (A1.trans A2)⟩
    | false =>
      rw [if_neg Bool.false_ne_true] at e ⊢
      cases e
      exact q m1 H1 A1 S1
theorem mw_or {t u : FT} {rest : List Expr} (ha : PT X a (tT X.K t)) (hb : PW X (.BoolOp .Or (b :: rest) pos) (tT X.K u)) : PW X (.BoolOp .Or (a :: b :: rest) pos) (tT X.K (bOr t u)) :=
  (pw_or ha hb).imp fun σ H Q ⟨m, ρ, s, er, sr, k, s', e, q⟩ => by
    obtain ⟨c, s1, e1, e⟩ := bd_inv e
    refine ⟨m, ρ, s, er, sr, c, s1, e1, fun m1 H1 A1 S1 => ?_⟩
    cases c with
    | false =>
      rw [if_neg Bool.false_ne_true] at e ⊢
      exact ⟨m1, ρ, s1, er.adv A1, S1, k, s', e, fun m2 H2 A2 => q m2 H2 (A1.trans A2)⟩
    | true =>
      rw [if_pos rfl] at e ⊢
      cases e
      exact q m1 H1 A1 S1
theorem mt_not {t : FT} (ha : PT X a (tT X.K t)) : PT X (.UnaryOp .Not a pos) (tT X.K (bNot t)) :=
  (pt_not ha).imp fun σ H Q ⟨m, ρ, s, er, sr, k, s', e, q⟩ => by
    obtain ⟨c, s1, e1, e⟩ := bd_inv e
    cases e
    exact ⟨m, ρ, s, er, sr, c, _, e1, fun m1 H1 A1 S1 => q m1 H1 A1 S1⟩
/-! ### and, or, not, if as values -/
def eAnd (f g : FE) : FE := fun ρ s => bd (f ρ s) fun x s1 => match truW x s1 with
  | some k => if k = true then g ρ s1 else some (x, s1)
  | none => none
def eOr (f g : FE) : FE := fun ρ s => bd (f ρ s) fun x s1 => match truW x s1 with
  | some k => if k = true then some (x, s1) else g ρ s1
  | none => none
def eNot (f : FE) : FE := fun ρ s => bd (f ρ s) fun x s1 => match truW x s1 with
  | some k => some (.bl (!k), s1)
  | none => none
def eIf (t : FT) (f g : FE) : FE := fun ρ s => bd (t ρ s) fun k s1 => if k = true then f ρ s1 else g ρ s1
theorem m_one {op} {f : FE} (h : PE X a (tF X.K f)) : PE X (.BoolOp op [a] pos) (tF X.K f) := pe_one h
theorem m_and {f g : FE} {rest : List Expr} (ha : PE X a (tF X.K f)) (hb : PE X (.BoolOp .And (b :: rest) pos) (tF X.K g)) : PE X (.BoolOp .And (a :: b :: rest) pos) (tF X.K (eAnd f g)) :=
  (pe_andT ha hb).imp fun σ H Q ⟨m, ρ, s, er, sr, w, s', e, q⟩ => by
    obtain ⟨x, s1, e1, e⟩ := bd_inv e
    refine ⟨m, ρ, s, er, sr, x, s1, e1, fun m1 H1 v A1 S1 r1 => ?_⟩
    cases et : truW x s1 with
    | none => simp only [et] at e; cases e
    | some k =>
      refine ⟨k, tru_of S1 r1 et, ?_⟩
      cases k with
      | true =>
        simp only [et, if_true] at e
        rw [if_pos rfl]
        exact ⟨m1, ρ, s1, er.adv A1, S1, w, s', e, fun m2 H2 v A2 => q m2 H2 v (A1.trans A2)⟩
      | false =>
        simp only [et, Bool.false_eq_true, if_false] at e
        rw [if_neg Bool.false_ne_true]
        cases e
        exact q m1 H1 v A1 S1 r1
theorem m_or {f g : FE} {rest : List Expr} (ha : PE X a (tF X.K f)) (hb : PE X (.BoolOp .Or (b :: rest) pos) (tF X.K g)) : PE X (.BoolOp .Or (a :: b :: rest) pos) (tF X.K (eOr f g)) :=
  (pe_orT ha hb).imp fun σ H Q ⟨m, ρ, s, er, sr, w, s', e, q⟩ => by
    obtain ⟨x, s1, e1, e⟩ := bd_inv e
    refine ⟨m, ρ, s, er, sr, x, s1, e1, fun m1 H1 v A1 S1 r1 => ?_⟩
    cases et : truW x s1 with
    | none => simp only [et] at e; cases e
    | some k =>
      refine ⟨k, tru_of S1 r1 et, ?_⟩
      cases k with
      | false =>
        simp only [et, Bool.false_eq_true, if_false] at e
        rw [if_neg Bool.false_ne_true]
        exact ⟨m1, ρ, s1, er.adv A1, S1, w, s', e, fun m2 H2 v A2 => q m2 H2 v (A1.trans A2)⟩
      | true =>
        simp only [et, if_true] at e
        rw [if_pos rfl]
        cases e
        exact q m1 H1 v A1 S1 r1
theorem m_not {f : FE} (ha : PE X a (tF X.K f)) : PE X (.UnaryOp .Not a pos) (tF X.K (eNot f)) :=
  (pe_notT ha).imp fun σ H Q ⟨m, ρ, s, er, sr, w, s', e, q⟩ => by
    obtain ⟨x, s1, e1, e⟩ := bd_inv e
    refine ⟨m, ρ, s, er, sr, x, s1, e1, fun m1 H1 v A1 S1 r1 => ?_⟩
    cases et : truW x s1 with
    | none => simp only [et] at e; cases e
    | some k =>
      simp only [et] at e
      cases e
      exact ⟨k, tru_of S1 r1 et, q m1 H1 _ A1 S1 (.bl _)⟩
theorem m_if {t : FT} {f g : FE} (hc : PT X c (tT X.K t)) (ha : PE X a (tF X.K f)) (hb : PE X b (tF X.K g)) : PE X (.IfExp c a b pos) (tF X.K (eIf t f g)) :=
  (pe_ifExp hc ha hb).imp fun σ H Q ⟨m, ρ, s, er, sr, w, s', e, q⟩ => by
    obtain ⟨k, s1, e1, e⟩ := bd_inv e
    refine ⟨m, ρ, s, er, sr, k, s1, e1, fun m1 H1 A1 S1 => ?_⟩
    cases k with
    | true =>
      rw [if_pos rfl] at e ⊢
      exact ⟨m1, ρ, s1, er.adv A1, S1, w, s', e, fun m2 H2 v A2 => q m2 H2 v (A1.trans A2)⟩
    | false =>
      rw [if_neg Bool.false_ne_true] at e ⊢
      exact ⟨m1, ρ, s1, er.adv A1, S1, w, s', e, fun m2 H2 v A2 => q m2 H2 v (A1.trans A2)⟩
/-! ### displays -/
def eTup (f : FA) : FE := fun ρ s => bd (f ρ s) fun ws s1 => if ws.length ≤ 100000 then some (.tup ws, s1) else none
def eLst (f : FA) : FE := fun ρ s => bd (f ρ s) fun ws s1 => if ws.length ≤ 100000 then some (.ref s1.length, s1 ++ [.lst ws]) else none
theorem szl {n : Nat} (h : n ≤ 100000) : n ≤ sizeLine := Nat.le_trans h (by decide)
theorem szt {n : Nat} (h : n ≤ 100000) : n < sizeLine := Nat.lt_of_le_of_lt h (by decide)
/-- a new tuple has come -/
theorem new_tup {K : PySem.W.Frag} {m : List Addr} {H : Hp} {s : Sto} {ws : List W} {vs : List V} {p : Addr} {Q : VK} (S : SR K m H s) (r : RL K m H ws vs) (hp : H p = none) (q : ∀ m' H' v, Adv m H m' H' → SR K m' H' s → R K m' H' (.tup ws) v → Q v H') : Q (.ref p) (upd H p (.tup vs)) :=
  q m _ _ (Adv.fresh hp) (S.fresh hp) (.tup (.inl upd_same) (r.adv (Adv.fresh hp)))
/-- a new list has come -/
theorem new_lst {K : PySem.W.Frag} {m : List Addr} {H : Hp} {s : Sto} {ws : List W} {vs : List V} {p : Addr} {Q : VK} (S : SR K m H s) (r : RL K m H ws vs) (hp : H p = none) (q : ∀ m' H' v, Adv m H m' H' → SR K m' H' (s ++ [.lst ws]) → R K m' H' (.ref s.length) v → Q v H') : Q (.ref p) (upd H p (.lst vs)) :=
  q (m ++ [p]) _ _ (Adv.alloc hp) (S.alloc hp ⟨vs, upd_same, r.adv (Adv.alloc hp)⟩) (alloc_at S)
theorem m_tup {f : FA} {x1} (h : PA X es (tA X.K f)) : PE X (.Tuple es x1 pos) (tF X.K (eTup f)) :=
  (pe_tup h).imp fun σ H Q ⟨m, ρ, s, er, sr, w, s', e, q⟩ => by
    obtain ⟨ws, s1, e1, e⟩ := bd_inv e
    refine ⟨m, ρ, s, er, sr, ws, s1, e1, fun m1 H1 vs A1 S1 r1 => ?_⟩
    split at e
    · rename_i hl
      cases e
      exact ⟨szl (by rw [r1.len]; exact hl), fun p hp => new_tup S1 r1 hp fun m2 H2 v A2 => q m2 H2 v (A1.trans A2)⟩
    · cases e
theorem m_lst {f : FA} (h : PA X es (tA X.K f)) : PE X (.List es pos) (tF X.K (eLst f)) :=
  (pe_lst h).imp fun σ H Q ⟨m, ρ, s, er, sr, w, s', e, q⟩ => by
    obtain ⟨ws, s1, e1, e⟩ := bd_inv e
    refine ⟨m, ρ, s, er, sr, ws, s1, e1, fun m1 H1 vs A1 S1 r1 => ?_⟩
    split at e
    · rename_i hl
      cases e
      exact ⟨szl (by rw [r1.len]; exact hl), fun p hp => new_lst S1 r1 hp fun m2 H2 v A2 => q m2 H2 v (A1.trans A2)⟩
    · cases e
def eDnew : FE := fun _ s => some (.ref s.length, s ++ [.dct []])
theorem m_dnew : PE X (.Dict [] [] pos) (tF X.K eDnew) :=
  pe_dnewK.imp fun σ H Q ⟨m, ρ, s, er, sr, w, s', e, q⟩ => by
    cases e
    exact fun p hp => q (m ++ [p]) _ _ (Adv.alloc hp) (sr.alloc hp ⟨[], upd_same, .nil⟩) (alloc_at sr)
/-! ### slices -/
def pNo : FP := fun _ s => some (none, s)
def pAt (f : FE) : FP := fun ρ s => bd (f ρ s) fun x s1 => match x with
  | .int i => some (some i, s1)
  | _ => none
theorem mp_none : PO X none (tP X.K pNo) := po_none.imp fun σ H Q ⟨m, ρ, s, er, sr, w, s', e, q⟩ => by
  cases e
  exact q m H (Adv.refl m H) sr
theorem mp_some {f : FE} (h : PE X e (tF X.K f)) : PO X (some e) (tP X.K (pAt f)) := (po_some h).imp fun σ H Q ⟨m, ρ, s, er, sr, w, s', e, q⟩ => by
  obtain ⟨x, s1, e1, e⟩ := bd_inv e
  refine ⟨m, ρ, s, er, sr, x, s1, e1, fun m1 H1 v A1 S1 r1 => ?_⟩
  cases r1 with
  | int i => cases e; exact ⟨i, rfl, q m1 H1 A1 S1⟩
  | _ => cases e
def eSl (g : W → Option Int → Option Int → Sto → Rz W) (f : FE) (lo hi : FP) : FE := fun ρ s => bd (f ρ s) fun x s1 => bd (lo ρ s1) fun l s2 => bd (hi ρ s2) fun u s3 => g x l u s3
theorem m_slice {r : V → Option Int → Option Int → Hp → VK → Prop} {g : W → Option Int → Option Int → Sto → Rz W} {f : FE} {l u : FP} {lo hi : Option Expr} {p2 : Pos} (hr : SlR X r) (hg : SlF X.K r g) (he : PE X e (tF X.K f)) (hl : PO X lo (tP X.K l)) (hu : PO X hi (tP X.K u)) : PE X (.Subscript e (.Slice lo hi none p2) pos) (tF X.K (eSl g f l u)) :=
  (pe_slice hr he hl hu).imp fun σ H Q ⟨m, ρ, s, er, sr, w, s', e, q⟩ => by
    obtain ⟨x, s1, e1, e⟩ := bd_inv e
    obtain ⟨y, s2, e2, e⟩ := bd_inv e
    obtain ⟨z, s3, e3, e⟩ := bd_inv e
    exact ⟨m, ρ, s, er, sr, x, s1, e1, fun m1 H1 v A1 S1 r1 => ⟨m1, ρ, s1, er.adv A1, S1, y, s2, e2, fun m2 H2 A2 S2 => ⟨m2, ρ, s2, (er.adv A1).adv A2, S2, z, s3, e3, fun m3 H3 A3 S3 =>
      hg m3 H3 s3 x v y z Q S3 ((r1.adv A2).adv A3) ⟨w, s', e, fun m4 H4 v4 A4 => q m4 H4 v4 (((A1.trans A2).trans A3).trans A4)⟩⟩⟩⟩
end
end Mir

set_option Elab.async false
set_option linter.all false
set_option maxRecDepth 100000
namespace Mir
open PySem PySem.Spec PyProof.Rows L2
/-! ### targets: names, tuples of such -/
inductive Tg where
  | name (i : Nat)
  | tup (ts : List Tg)
mutual
def tgT (K : PySem.W.Frag) : Tg → TG
  | .name i => gName i
  | .tup ts => gTup K ts.length (tgTs K ts)
def tgTs (K : PySem.W.Frag) : List Tg → TGs
  | [] => gNil
  | t :: ts => gCons (tgT K t) (tgTs K ts)
end
mutual
def tgM : Tg → W → EnvM → Option EnvM
  | .name i, w, ρ => some (ρ.set i (some w))
  | .tup ts, .tup ws, ρ => tgMs ts ws ρ
  | .tup _, _, _ => none
def tgMs : List Tg → List W → EnvM → Option EnvM
  | [], [], ρ => some ρ
  | t :: ts, w :: ws, ρ => match tgM t w ρ with
    | some ρ' => tgMs ts ws ρ'
    | none => none
  | _, _, _ => none
end
mutual
def Tg.names : Tg → List Nat
  | .name i => [i]
  | .tup ts => Tg.namesL ts
def Tg.namesL : List Tg → List Nat
  | [] => []
  | t :: ts => t.names ++ Tg.namesL ts
end
/-- a slot that is wiped anyway -/
theorem wipe_set {σ : L2.St} {i : Nat} {x : Option V} : ∀ {vs : List Nat}, i ∈ vs → wipe (σ.set i x) vs = wipe σ vs := by
  intro vs
  induction vs with
  | nil => intro h; cases h
  | cons v vs ih =>
    intro h
    have comm : ∀ (vs : List Nat) (τ : L2.St), i ∉ vs → wipe (τ.set i x) vs = (wipe τ vs).set i x := by
      intro vs
      induction vs with
      | nil => intros; rfl
      | cons w ws ih2 =>
        intro τ h
        rw [List.mem_cons, not_or] at h
        show (wipe (τ.set i x) ws).set w none = ((wipe τ ws).set w none).set i x
        rw [ih2 τ h.2, List.set_comm _ _ h.1]
    show (wipe (σ.set i x) vs).set v none = (wipe σ vs).set v none
    by_cases hi : i ∈ vs
    · rw [ih hi]
    · rw [comm vs σ hi]
      have e : i = v := (List.mem_cons.mp h).resolve_right hi
      subst e
      rw [List.set_set]
section
variable {K : PySem.W.Frag} {m : List Addr} {H : Hp}
mutual
theorem tg_ok : ∀ (t : Tg) {w : W} {v : V} {ρ ρ' : EnvM} {σ : L2.St} {Q : L2.St → Hp → Prop}, ER K m H ρ σ → R K m H w v → tgM t w ρ = some ρ' →
    (∀ σ', ER K m H ρ' σ' → (∀ vs, (∀ i ∈ t.names, i ∈ vs) → wipe σ' vs = wipe σ vs) → Q σ' H) → tgT K t v σ H Q
  | .name i, w, v, ρ, ρ', σ, Q, er, r, e, q => by
    rw [tgM] at e
    cases e
    rw [tgT]
    exact q _ (er.set i r) fun vs h => wipe_set (h i (by rw [Tg.names]; exact List.mem_cons_self))
  | .tup ts, w, v, ρ, ρ', σ, Q, er, r, e, q => by
    rw [tgT]
    cases r with
    | tup h1 h2 =>
      rw [tgM] at e
      refine ⟨_, _, rfl, h1.sq, ?_, ?_⟩
      · exact (h2.len).trans (tgMs_len ts e).symm
      · exact tgs_ok ts er h2 e fun σ' er' h => q σ' er' fun vs hv => h vs (by rw [Tg.names] at hv; exact hv)
    | _ => simp only [tgM] at e <;> cases e
theorem tgs_ok : ∀ (ts : List Tg) {ws : List W} {vs : List V} {ρ ρ' : EnvM} {σ : L2.St} {Q : L2.St → Hp → Prop}, ER K m H ρ σ → RL K m H ws vs → tgMs ts ws ρ = some ρ' →
    (∀ σ', ER K m H ρ' σ' → (∀ vs, (∀ i ∈ Tg.namesL ts, i ∈ vs) → wipe σ' vs = wipe σ vs) → Q σ' H) → tgTs K ts vs σ H Q
  | [], ws, vs, ρ, ρ', σ, Q, er, r, e, q => by
    cases r with
    | nil =>
      rw [tgMs] at e
      cases e
      rw [tgTs]
      exact ⟨rfl, q _ er fun _ _ => rfl⟩
    | cons _ _ => simp only [tgMs] at e; cases e
  | t :: ts, ws, vs, ρ, ρ', σ, Q, er, r, e, q => by
    cases r with
    | nil => simp only [tgMs] at e; cases e
    | cons r1 r2 =>
      rw [tgMs] at e
      cases h1 : tgM t _ ρ with
      | none => rw [h1] at e; cases e
      | some ρ1 =>
        rw [h1] at e
        rw [tgTs]
        refine ⟨_, _, rfl, tg_ok t er r1 h1 fun σ1 er1 w1 => tgs_ok ts er1 r2 e fun σ2 er2 w2 => q σ2 er2 fun vs hv => ?_⟩
        rw [Tg.namesL] at hv
        rw [w2 vs fun i hi => hv i (List.mem_append_right _ hi), w1 vs fun i hi => hv i (List.mem_append_left _ hi)]
theorem tgMs_len : ∀ (ts : List Tg) {ws : List W} {ρ ρ' : EnvM}, tgMs ts ws ρ = some ρ' → ts.length = ws.length
  | [], [], _, _, _ => rfl
  | [], _ :: _, _, _, e => by simp only [tgMs] at e; cases e
  | _ :: _, [], _, _, e => by simp only [tgMs] at e; cases e
  | t :: ts, w :: ws, ρ, ρ', e => by
    rw [tgMs] at e
    cases h1 : tgM t w ρ with
    | none => rw [h1] at e; cases e
    | some ρ1 =>
      rw [h1] at e
      rw [List.length_cons, List.length_cons, tgMs_len ts e]
end
end
section
variable {X : Cx} {e a b c : Expr} {es : List Expr} {pos : Pos} {st : Stmt} {rest : List Stmt}
/-! ### statements -/
def sNil : FS := fun ρ s => some (.nx ρ, s)
def sCons (f g : FS) : FS := fun ρ s => bd (f ρ s) fun o s1 => match o with
  | .nx ρ1 => g ρ1 s1
  | o => some (o, s1)
def sSet (i : Nat) (f : FE) : FS := fun ρ s => bd (f ρ s) fun w s1 => some (.nx (ρ.set i (some w)), s1)
def sAsg (t : Tg) (f : FE) : FS := fun ρ s => bd (f ρ s) fun w s1 => match tgM t w ρ with
  | some ρ1 => some (.nx ρ1, s1)
  | none => none
def sDo (f : FE) : FS := fun ρ s => bd (f ρ s) fun _ s1 => some (.nx ρ, s1)
def sRet (f : FE) : FS := fun ρ s => bd (f ρ s) fun w s1 => some (.rt w, s1)
def sRetN : FS := fun _ s => some (.rt .non, s)
def sIf (t : FT) (f g : FS) : FS := fun ρ s => bd (t ρ s) fun k s1 => if k = true then f ρ s1 else g ρ s1
def sBrk : FS := fun ρ s => some (.bk ρ, s)
def sCnt : FS := fun ρ s => some (.ct ρ, s)
theorem ms_pass : PS X (.Pass pos) (tS X.K sNil) := ps_pass.imp fun D σ H ⟨m, ρ, s, er, sr, o, s', e, q⟩ => by cases e; exact q m H σ (Adv.refl m H) sr er
theorem ms_brk : PS X (.Break pos) (tS X.K sBrk) := ps_break.imp fun D σ H ⟨m, ρ, s, er, sr, o, s', e, q⟩ => by cases e; exact q m H σ (Adv.refl m H) sr er
theorem ms_cnt : PS X (.Continue pos) (tS X.K sCnt) := ps_continue.imp fun D σ H ⟨m, ρ, s, er, sr, o, s', e, q⟩ => by cases e; exact q m H σ (Adv.refl m H) sr er
theorem mss_nil : PSs X [] (tS X.K sNil) := pss_nil.imp fun D σ H ⟨m, ρ, s, er, sr, o, s', e, q⟩ => by cases e; exact q m H σ (Adv.refl m H) sr er
theorem mss_one {f : FS} (h : PS X st (tS X.K f)) : PSs X [st] (tS X.K f) := pss_one h
theorem mss_cons {f g : FS} (h1 : PS X st (tS X.K f)) (h2 : PSs X rest (tS X.K g)) : PSs X (st :: rest) (tS X.K (sCons f g)) :=
  (pss_cons h1 h2).imp fun D σ H ⟨m, ρ, s, er, sr, o, s', e, q⟩ => by
    obtain ⟨o1, s1, e1, e⟩ := bd_inv e
    refine ⟨m, ρ, s, er, sr, o1, s1, e1, ?_⟩
    cases o1 with
    | nx ρ1 => exact fun m1 H1 σ1 A1 S1 er1 => ⟨m1, ρ1, s1, er1, S1, o, s', e, q.adv A1⟩
    | rt w => cases e; exact q
    | bk ρ1 => cases e; exact q
    | ct ρ1 => cases e; exact q
theorem ms_set {i : Nat} {x : Str} {pos' : Pos} {f : FE} (hN : X.N.Nodup) (hi : X.N[i]? = some x) (hx : Loc X.env.scope x) (he : PE X e (tF X.K f)) (hs : swapsWith e (some (.Name x pos')) pos.line X.env = pure false := by rfl) (hf : X.fn x = true ∨ X.env.scope.names.lookup x = some .local := by first | exact .inl rfl | exact .inr rfl | assumption) :
    PS X (.Assign [.Name x pos'] e pos) (tS X.K (sSet i f)) :=
  (ps_set hN hi hx he hs hf).imp fun D σ H ⟨m, ρ, s, er, sr, o, s', e, q⟩ => by
    obtain ⟨w, s1, e1, e⟩ := bd_inv e
    cases e
    exact ⟨m, ρ, s, er, sr, w, _, e1, fun m1 H1 v A1 S1 r1 => q m1 H1 _ A1 S1 ((er.adv A1).set i r1)⟩
theorem ms_asg {tg : Expr} {t : Tg} {f : FE} (he : PE X e (tF X.K f)) (hg : PG X tg (tgT X.K t)) (hs : swapsWithSole [tg] e pos.line X.env = pure false := by rfl) (hw : swappedStores [tg] e X.env = pure none := by rfl)
    (h1 : (assignEach [tg] X.env).map (·.2) = [assign tg X.env] := by rfl) : PS X (.Assign [tg] e pos) (tS X.K (sAsg t f)) :=
  (ps_asg he hg hs hw h1).imp fun D σ H ⟨m, ρ, s, er, sr, o, s', e, q⟩ => by
    obtain ⟨w, s1, e1, e⟩ := bd_inv e
    cases et : tgM t w ρ with
    | none => simp only [et] at e; cases e
    | some ρ1 =>
      simp only [et] at e
      cases e
      exact ⟨m, ρ, s, er, sr, w, _, e1, fun m1 H1 v A1 S1 r1 => tg_ok t (er.adv A1) r1 et fun σ' er' _ => q m1 H1 σ' A1 S1 er'⟩
theorem ms_expr {f : FE} (he : PE X e (tF X.K f)) (hs : swapsWith e none pos.line X.env = pure false := by rfl) : PS X (.Expr e pos) (tS X.K (sDo f)) :=
  (ps_expr he hs).imp fun D σ H ⟨m, ρ, s, er, sr, o, s', e, q⟩ => by
    obtain ⟨w, s1, e1, e⟩ := bd_inv e
    cases e
    exact ⟨m, ρ, s, er, sr, w, _, e1, fun m1 H1 v A1 S1 r1 => q m1 H1 _ A1 S1 (er.adv A1)⟩
theorem ms_ret {f : FE} (he : PE X e (tF X.K f)) : PS X (.Return (some e) pos) (tS X.K (sRet f)) :=
  (ps_ret he).imp fun D σ H ⟨m, ρ, s, er, sr, o, s', e, q⟩ => by
    obtain ⟨w, s1, e1, e⟩ := bd_inv e
    cases e
    exact ⟨m, ρ, s, er, sr, w, _, e1, fun m1 H1 v A1 S1 r1 => q m1 H1 _ A1 S1 r1⟩
theorem ms_retN : PS X (.Return none pos) (tS X.K sRetN) := ps_retN.imp fun D σ H ⟨m, ρ, s, er, sr, o, s', e, q⟩ => by cases e; exact q m H _ (Adv.refl m H) sr .non
theorem ms_if {t : FT} {f g : FS} {as bs : List Stmt} (hc : PT X c (tT X.K t)) (ha : PSs X as (tS X.K f)) (hb : PSs X bs (tS X.K g)) : PS X (.If c as bs pos) (tS X.K (sIf t f g)) :=
  (ps_if hc ha hb).imp fun D σ H ⟨m, ρ, s, er, sr, o, s', e, q⟩ => by
    obtain ⟨k, s1, e1, e⟩ := bd_inv e
    refine ⟨m, ρ, s, er, sr, k, s1, e1, fun m1 H1 A1 S1 => ?_⟩
    cases k with
    | true =>
      rw [if_pos rfl] at e ⊢
      exact ⟨m1, ρ, s1, er.adv A1, S1, o, s', e, q.adv A1⟩
    | false =>
      rw [if_neg Bool.false_ne_true] at e ⊢
      exact ⟨m1, ρ, s1, er.adv A1, S1, o, s', e, q.adv A1⟩
/-- xs[i] = e -/
def setAt (o i w : W) (s : Sto) : Option Sto := match o, i with
  | .ref n, .int k => match s[n]? with
    | some (.lst ws) => match ixN ws.length k with
      | some j => some (s.set n (.lst (ws.set j w)))
      | none => none
    | _ => none
  | _, _ => none
def sPut (o i f : FE) : FS := fun ρ s => bd (f ρ s) fun w s1 => bd (o ρ s1) fun x s2 => bd (i ρ s2) fun y s3 => match setAt x y w s3 with
  | some s4 => some (.nx ρ, s4)
  | none => none
theorem ms_put {o i : Expr} {tpos : Pos} {fo fi f : FE} (he : PE X e (tF X.K f)) (ho : PE X o (tF X.K fo)) (hi : PE X i (tF X.K fi))
    (ha : ∀ v, assign (.Subscript o i tpos) X.env v = (do
      let ov ← holding [v] (eval o X.env)
      let iv ← holding [v, ov] (eval i X.env)
      standAt tpos
      holding [v, ov, iv] (setItem ov iv v)
      release [v, ov, iv] []) := by intro _; rfl)
    (hs : swapsWithSole [.Subscript o i tpos] e pos.line X.env = pure false := by rfl) (hw : swappedStores [.Subscript o i tpos] e X.env = pure none := by rfl)
    (h1 : (assignEach [.Subscript o i tpos] X.env).map (·.2) = [assign (.Subscript o i tpos) X.env] := by rfl) : PS X (.Assign [.Subscript o i tpos] e pos) (tS X.K (sPut fo fi f)) :=
  (ps_asg he (pg_sub ho hi set_list ha) hs hw h1).imp fun D σ H ⟨m, ρ, s, er, sr, oo, s', e, q⟩ => by
    obtain ⟨w, s1, e1, e⟩ := bd_inv e
    obtain ⟨x, s2, e2, e⟩ := bd_inv e
    obtain ⟨y, s3, e3, e⟩ := bd_inv e
    refine ⟨m, ρ, s, er, sr, w, s1, e1, fun m1 H1 v A1 S1 r1 => ⟨m1, ρ, s1, er.adv A1, S1, x, s2, e2, fun m2 H2 u A2 S2 r2 => ⟨m2, ρ, s2, (er.adv A1).adv A2, S2, y, s3, e3, fun m3 H3 z A3 S3 r3 => ?_⟩⟩⟩
    have r2' := r2.adv A3
    have r1' := (r1.adv A2).adv A3
    cases es : setAt x y w s3 with
    | none => simp only [es] at e; cases e
    | some s4 =>
      simp only [es] at e
      cases e
      cases r2' with
      | @ref n a hn =>
        cases r3 with
        | int k =>
          simp only [setAt] at es
          cases eo : s3[n]? with
          | none => simp only [eo] at es; cases es
          | some ob =>
            cases ob with
            | dct _ => simp only [eo] at es; cases es
            | lst ws =>
              simp only [eo] at es
              cases ek : ixN ws.length k with
              | none => simp only [ek] at es; cases es
              | some j =>
                simp only [ek] at es
                cases es
                obtain ⟨a', h2, vs, h3, h4⟩ := S3.at eo
                rw [hn] at h2
                cases h2
                refine ⟨a, vs, k, j, rfl, rfl, h3, by rw [h4.len]; exact ek, ?_⟩
                have A4 : Adv m3 H3 m3 (upd H3 a (.lst (vs.set j v))) := Adv.write S3 hn
                exact q m3 _ σ (((A1.trans A2).trans A3).trans A4) (S3.write hn ⟨_, upd_same, (h4.adv A4).set j (r1'.adv A4)⟩) ((((er.adv A1).adv A2).adv A3).adv A4)
        | _ => simp only [setAt] at es <;> cases es
      | _ => simp only [setAt] at es <;> cases es
/-- x op= e of a local -/
def sAug (i : Nat) (g : W → W → Sto → Rz W) (f : FE) : FS := fun ρ s => match ρ[i]? with
  | some (some x) => bd (f ρ s) fun y s1 => bd (g x y s1) fun z s2 => some (.nx (ρ.set i (some z)), s2)
  | _ => none
theorem ms_aug {i : Nat} {x : Str} {op : Operator} {ti : TIp} {pos' : Pos} {g : W → W → Sto → Rz W} {f : FE} (hN : X.N.Nodup) (hi : X.N[i]? = some x) (hx : Loc X.env.scope x) (he : PE X e (tF X.K f)) (ho : PIp X op ti) (hg : OpF X.K ti g) (hf : X.fn x = true ∨ X.env.scope.names.lookup x = some .local := by first | exact .inl rfl | exact .inr rfl | assumption) :
    PS X (.AugAssign (.Name x pos') op e pos) (tS X.K (sAug i g f)) :=
  (ps_aug hN hi hx he ho hf).imp fun D σ H ⟨m, ρ, s, er, sr, o, s', e, q⟩ => by
    cases hx : ρ[i]? with
    | none => simp only [sAug, hx] at e; cases e
    | some ox =>
      cases ox with
      | none => simp only [sAug, hx] at e; cases e
      | some x =>
        simp only [sAug, hx] at e
        obtain ⟨y, s1, e1, e⟩ := bd_inv e
        obtain ⟨z, s2, e2, e⟩ := bd_inv e
        cases e
        obtain ⟨v, hv, r⟩ := er.get hx
        exact ⟨v, hv, m, ρ, s, er, sr, y, s1, e1, fun m1 H1 u A1 S1 r1 => hg m1 H1 s1 x y v u _ S1 (r.adv A1) r1 ⟨z, _, e2, fun m2 H2 zv A2 S2 r2 => q m2 H2 _ (A1.trans A2) S2 (((er.adv A1).adv A2).set i r2)⟩⟩
/-! ### while -/
def wh (t : FT) (b : FS) : Nat → FS
  | 0, _, _ => none
  | n + 1, ρ, s => bd (t ρ s) fun k s1 => if k = true then bd (b ρ s1) fun o s2 => match o with
      | .nx ρ' => wh t b n ρ' s2
      | .ct ρ' => wh t b n ρ' s2
      | .bk ρ' => some (.nx ρ', s2)
      | .rt w => some (.rt w, s2)
    else some (.nx ρ, s1)
def sWh (n : EnvM → Sto → Nat) (t : FT) (b : FS) : FS := fun ρ s => wh t b (n ρ s) ρ s
theorem ms_while {n : EnvM → Sto → Nat} {t : FT} {b : FS} {body : List Stmt} (hp : PassesOwn (model X.prog X.w) X.A X.env X.xe) (hc : PT X c (tT X.K t)) (hb : PSs X body (tS X.K b)) : PS X (.While c body [] pos) (tS X.K (sWh n t b)) :=
  (ps_while hp hc hb).imp fun D σ H ⟨m, ρ, s, er, sr, o, s', e, q⟩ => by
    refine ⟨fun μ σ1 H1 => ∃ m1 ρ1 s1, Adv m H m1 H1 ∧ ER X.K m1 H1 ρ1 σ1 ∧ SR X.K m1 H1 s1 ∧ wh t b μ ρ1 s1 = some (o, s'), ⟨n ρ s, m, ρ, s, Adv.refl m H, er, sr, e⟩, ?_⟩
    rintro μ σ1 H1 ⟨m1, ρ1, s1, A1, er1, S1, e1⟩
    cases μ with
    | zero => cases e1
    | succ μ =>
      rw [wh] at e1
      obtain ⟨k, s2, e2, e1⟩ := bd_inv e1
      refine ⟨m1, ρ1, s1, er1, S1, k, s2, e2, fun m2 H2 A2 S2 => ?_⟩
      cases k with
      | false =>
        rw [if_neg Bool.false_ne_true] at e1 ⊢
        cases e1
        exact q m2 H2 σ1 (A1.trans A2) S2 (er1.adv A2)
      | true =>
        rw [if_pos rfl] at e1 ⊢
        obtain ⟨o3, s3, e3, e1⟩ := bd_inv e1
        refine ⟨fun σ' H' => ∃ m', m' < μ + 1 ∧ ∃ m1 ρ1 s1, Adv m H m1 H' ∧ ER X.K m1 H' ρ1 σ' ∧ SR X.K m1 H' s1 ∧ wh t b m' ρ1 s1 = some (o, s'), fun _ _ h => h, m2, ρ1, s2, er1.adv A2, S2, o3, s3, e3, ?_⟩
        cases o3 with
        | nx ρ3 => exact fun m3 H3 σ3 A3 S3 er3 => ⟨μ, Nat.lt_succ_self μ, m3, ρ3, s3, (A1.trans A2).trans A3, er3, S3, e1⟩
        | ct ρ3 => exact fun m3 H3 σ3 A3 S3 er3 => ⟨μ, Nat.lt_succ_self μ, m3, ρ3, s3, (A1.trans A2).trans A3, er3, S3, e1⟩
        | bk ρ3 => cases e1; exact fun m3 H3 σ3 A3 S3 er3 => q m3 H3 σ3 ((A1.trans A2).trans A3) S3 er3
        | rt w => cases e1; exact fun m3 H3 v A3 S3 r3 => q m3 H3 v ((A1.trans A2).trans A3) S3 r3
/-! ### what is walked -/
def okc (c : Option (Nat × List W)) (s : Sto) : Prop := match c with
  | none => True
  | some (n, ws) => s[n]? = some (.lst ws)
structure ItOk (K : PySem.W.Frag) (J : It) (m0 : List Addr) (H0 : Hp) (xs : List W) (c : Option (Nat × List W)) : Prop where
  go : ∀ m H s i x, Adv m0 H0 m H → SR K m H s → okc c s → xs[i]? = some x → J.go i H ∧ ∀ v H', J.yld i H v H' → ∃ m', Adv m H m' H' ∧ SR K m' H' s ∧ R K m' H' x v
  stop : ∀ m H s, Adv m0 H0 m H → SR K m H s → okc c s → J.stop xs.length H
abbrev FI := EnvM → Sto → Rz (List W × Option (Nat × List W))
def tI (K : PySem.W.Frag) (f : FI) : TI := fun σ H Q => ∃ m ρ s, ER K m H ρ σ ∧ SR K m H s ∧ ∃ xs c s', f ρ s = some ((xs, c), s') ∧ ∀ m' H' J, Adv m H m' H' → SR K m' H' s' → ItOk K J m' H' xs c → Q J H'
theorem _root_.L2.PI.imp {tg iter : Expr} {t t' : TI} (h : PI X tg iter t) (q : ∀ σ H Q, t' σ H Q → t σ H Q) : PI X tg iter t' := ⟨fun pins s σ H Q I r => h.run pins s σ H Q I (q _ _ _ r)⟩
open Classical in
noncomputable def fo (t : Tg) (b : FS) (c : Option (Nat × List W)) : List W → FS
  | [], ρ, s => if okc c s then some (.nx ρ, s) else none
  | x :: r, ρ, s => if okc c s then match tgM t x ρ with
      | some ρ1 => bd (b ρ1 s) fun o s2 => match o with
        | .nx ρ' => fo t b c r ρ' s2
        | .ct ρ' => fo t b c r ρ' s2
        | .bk ρ' => some (.nx ρ', s2)
        | .rt w => some (.rt w, s2)
      | none => none
    else none
noncomputable def sFor (it : FI) (t : Tg) (b : FS) : FS := fun ρ s => bd (it ρ s) fun x s1 => fo t b x.2 x.1 ρ s1
theorem ms_for {it : FI} {t : Tg} {b : FS} {tg iter : Expr} {body : List Stmt} (hp : PassesOwn (model X.prog X.w) X.A X.env X.xe) (hc : X.calm = true) (hi : PI X tg iter (tI X.K it)) (hg : PG X tg (tgT X.K t)) (hb : PSs X body (tS X.K b))
    (hs : ∀ x, foldedSetIterable iter X.env x = pure x := by intro _; rfl) : PS X (.For tg iter body [] pos) (tS X.K (sFor it t b)) :=
  (ps_for hp hc hi hg hb hs).imp fun D σ H ⟨m, ρ, s, er, sr, o, s', e, q⟩ => by
    obtain ⟨⟨xs, c⟩, s1, e1, e⟩ := bd_inv e
    refine ⟨m, ρ, s, er, sr, xs, c, s1, e1, fun m1 H1 J A1 S1 ok => ?_⟩
    refine ⟨fun i μ σ2 H2 => ∃ m2 ρ2 s2, Adv m1 H1 m2 H2 ∧ ER X.K m2 H2 ρ2 σ2 ∧ SR X.K m2 H2 s2 ∧ i + μ = xs.length ∧ fo t b c (xs.drop i) ρ2 s2 = some (o, s'), ⟨xs.length, m1, ρ, s1, Adv.refl m1 H1, er.adv A1, S1, Nat.zero_add _, e⟩, ?_⟩
    rintro i μ σ2 H2 ⟨m2, ρ2, s2, A2, er2, S2, hi, e2⟩
    cases μ with
    | zero =>
      have hl : i = xs.length := by omega
      subst hl
      rw [List.drop_length, fo] at e2
      by_cases ho : okc c s2
      · rw [if_pos ho] at e2
        cases e2
        exact .inl ⟨ok.stop m2 H2 _ A2 S2 ho, q m2 H2 σ2 (A1.trans A2) S2 er2⟩
      · rw [if_neg ho] at e2
        cases e2
    | succ μ =>
      have hl : i < xs.length := by omega
      rw [List.drop_eq_getElem_cons hl, fo] at e2
      by_cases ho : okc c s2
      · rw [if_pos ho] at e2
        obtain ⟨g1, g2⟩ := ok.go m2 H2 s2 i xs[i] A2 S2 ho (List.getElem?_eq_getElem hl)
        refine .inr ⟨g1, fun σ' H' => ∃ m', m' < μ + 1 ∧ ∃ m2 ρ2 s2, Adv m1 H1 m2 H' ∧ ER X.K m2 H' ρ2 σ' ∧ SR X.K m2 H' s2 ∧ (i + 1) + m' = xs.length ∧ fo t b c (xs.drop (i + 1)) ρ2 s2 = some (o, s'), fun _ _ h => h, fun v H3 y => ?_⟩
        obtain ⟨m3, A3, S3, r3⟩ := g2 v H3 y
        cases et : tgM t xs[i] ρ2 with
        | none => simp only [et] at e2; cases e2
        | some ρ4 =>
          simp only [et] at e2
          obtain ⟨o5, s5, e5, e2⟩ := bd_inv e2
          refine tg_ok t (er2.adv A3) r3 et fun σ4 er4 _ => ⟨m3, ρ4, s2, er4, S3, o5, s5, e5, ?_⟩
          cases o5 with
          | nx ρ5 => exact fun m6 H6 σ6 A6 S6 er6 => ⟨μ, Nat.lt_succ_self μ, m6, ρ5, s5, (A2.trans A3).trans A6, er6, S6, by omega, e2⟩
          | ct ρ5 => exact fun m6 H6 σ6 A6 S6 er6 => ⟨μ, Nat.lt_succ_self μ, m6, ρ5, s5, (A2.trans A3).trans A6, er6, S6, by omega, e2⟩
          | bk ρ5 => cases e2; exact fun m6 H6 σ6 A6 S6 er6 => q m6 H6 σ6 (A1.trans ((A2.trans A3).trans A6)) S6 er6
          | rt w => cases e2; exact fun m6 H6 v A6 S6 r6 => q m6 H6 v (A1.trans ((A2.trans A3).trans A6)) S6 r6
      · rw [if_neg ho] at e2
        cases e2
/-! ### list comprehensions -/
theorem wipe_wipe (σ : L2.St) : ∀ vs : List Nat, wipe (wipe σ vs) vs = wipe σ vs
  | [] => rfl
  | v :: vs => by
    show wipe ((wipe σ vs).set v none) (v :: vs) = _
    rw [wipe_set List.mem_cons_self]
    show (wipe (wipe σ vs) vs).set v none = _
    rw [wipe_wipe σ vs]
    rfl
def wipeM (ρ : EnvM) : List Nat → EnvM
  | [] => ρ
  | v :: vs => (wipeM ρ vs).set v none
theorem ER.wipe {K : PySem.W.Frag} {m : List Addr} {H : Hp} {ρ : EnvM} {σ : L2.St} (h : ER K m H ρ σ) : ∀ vs, ER K m H (wipeM ρ vs) (L2.wipe σ vs)
  | [] => h
  | v :: vs => ER.forget v (ER.wipe h vs)
open Classical in
noncomputable def lcf (t : Tg) (u : FT) (f : FE) (c : Option (Nat × List W)) (ρ : EnvM) : List W → Sto → Rz (List W)
  | [], s => if okc c s then some ([], s) else none
  | x :: r, s => if okc c s then match tgM t x ρ with
      | some ρ1 => bd (u ρ1 s) fun k s1 => if k = true then bd (f ρ1 s1) fun w s2 => bd (lcf t u f c ρ r s2) fun ws s3 => some (w :: ws, s3) else lcf t u f c ρ r s1
      | none => none
    else none
noncomputable def eLc (vs : List Nat) (it : FI) (t : Tg) (u : FT) (f : FE) : FE := fun ρ s => bd (it ρ s) fun x s1 => if x.1.length ≤ 100000 then bd (lcf t u f x.2 (wipeM ρ vs) x.1 s1) fun ws s2 => some (.ref s2.length, s2 ++ [.lst ws]) else none
theorem tLc_of {K : PySem.W.Frag} {vs : List Nat} {it : FI} {t : Tg} {u : FT} {f : FE} (hv : ∀ i ∈ t.names, i ∈ vs) : ∀ σ H Q, tF K (eLc vs it t u f) σ H Q → tLc (tI K it) (tgT K t) (tT K u) (tF K f) vs σ H Q := by
  rintro σ H Q ⟨m, ρ, s, er, sr, w, s', e, q⟩
  obtain ⟨⟨xs, c⟩, s1, e1, e⟩ := bd_inv e
  by_cases hz : xs.length ≤ 100000
  · rw [if_pos hz] at e
    obtain ⟨ws, s2, e2, e⟩ := bd_inv e
    cases e
    refine ⟨m, ρ, s, er, sr, xs, c, s1, e1, fun m1 H1 J A1 S1 ok D hD => ?_⟩
    have hDm : D ∉ m1 := fun z => by
      obtain ⟨o, h, _⟩ := S1.there z
      rw [hD] at h; cases h
    have A2 : Adv m1 H1 m1 (upd H1 D (.lst [])) := Adv.fresh hD
    have S2 : SR K m1 (upd H1 D (.lst [])) s1 := S1.fresh hD
    -- the walk: D holds what has been made
    refine ⟨fun i μ H2 => ∃ m2 s2' acc accW rw, Adv m1 H1 m2 H2 ∧ D ∉ m2 ∧ SR K m2 H2 s2' ∧ H2 D = some (.lst acc) ∧ RL K m2 H2 accW acc ∧ i + μ = xs.length ∧ acc.length ≤ i ∧ lcf t u f c (wipeM ρ vs) (xs.drop i) s2' = some (rw, s2) ∧ accW ++ rw = ws,
      ⟨xs.length, m1, s1, [], [], ws, A2, hDm, S2, upd_same, .nil, Nat.zero_add _, Nat.le_refl _, e2, rfl⟩, ?_⟩
    rintro i μ H2 ⟨m2, s3, acc, accW, rw_, A3, hD3, S3, h3, r3, hi, hl, e3, ea⟩
    cases μ with
    | zero =>
      have hl2 : i = xs.length := by omega
      subst hl2
      rw [List.drop_length, lcf] at e3
      by_cases ho : okc c s3
      · rw [if_pos ho] at e3
        cases e3
        refine .inl ⟨ok.stop m2 H2 _ A3 S3 ho, ?_⟩
        rw [List.append_nil] at ea
        subst ea
        have A4 : Adv m1 H1 (m2 ++ [D]) H2 := by
          refine ⟨?_, A3.same, fun a h => ?_, A3.tup, A3.frz⟩
          · obtain ⟨t, rfl⟩ := A3.pre
            exact ⟨t ++ [D], by rw [List.append_assoc]⟩
          · rcases List.mem_append.mp h with h | h
            · exact A3.new a h
            · rw [List.mem_singleton.mp h]; exact .inr hD
        refine q (m2 ++ [D]) H2 (.ref D) (A1.trans A4) (S3.join hD3 ⟨acc, h3, r3⟩) (.ref ?_)
        rw [← S3.len, List.getElem?_append_right (Nat.le_refl _), Nat.sub_self]
        rfl
      · rw [if_neg ho] at e3
        cases e3
    | succ μ =>
      have hl2 : i < xs.length := by omega
      rw [List.drop_eq_getElem_cons hl2, lcf] at e3
      by_cases ho : okc c s3
      · rw [if_pos ho] at e3
        obtain ⟨g1, g2⟩ := ok.go m2 H2 s3 i xs[i] A3 S3 ho (List.getElem?_eq_getElem hl2)
        refine .inr ⟨g1, _, fun _ h => h, fun v H3 y => ?_⟩
        obtain ⟨m3, A5, S5, r5⟩ := g2 v H3 y
        have keepD : ∀ {m' H'}, Adv m2 H2 m' H' → D ∉ m' ∧ H' D = some (.lst acc) := fun {m' H'} A => by
          refine ⟨fun z => ?_, A.same D _ h3 hD3⟩
          rcases A.new D z with z | z
          · exact hD3 z
          · rw [h3] at z; cases z
        cases et : tgM t xs[i] (wipeM ρ vs) with
        | none => simp only [et] at e3; cases e3
        | some ρ4 =>
          simp only [et] at e3
          obtain ⟨k, s5, e5, e3⟩ := bd_inv e3
          have erw := ((er.adv A1).adv (A3.trans A5)).wipe vs
          refine tg_ok t erw r5 et fun σ4 er4 w4 => ⟨by rw [w4 vs hv, wipe_wipe], m3, ρ4, s3, er4, S5, k, s5, e5, fun m6 H6 A6 S6 => ?_⟩
          cases k with
          | false =>
            rw [if_neg Bool.false_ne_true] at e3 ⊢
            obtain ⟨n6, h6⟩ := keepD (A5.trans A6)
            exact ⟨μ, Nat.lt_succ_self μ, m6, s5, acc, accW, rw_, A3.trans (A5.trans A6), n6, S6, h6, r3.adv (A5.trans A6), by omega, by omega, e3, ea⟩
          | true =>
            rw [if_pos rfl] at e3 ⊢
            obtain ⟨w7, s7, e7, e3⟩ := bd_inv e3
            obtain ⟨ws8, s8, e8, e3⟩ := bd_inv e3
            cases e3
            refine ⟨m6, ρ4, s5, er4.adv A6, S6, w7, s7, e7, fun m7 H7 v7 A7 S7 r7 => ?_⟩
            have AA := A5.trans (A6.trans A7)
            obtain ⟨n7, h7⟩ := keepD AA
            have r3' := r3.adv AA
            refine ⟨acc, h7, szt (by omega), μ, Nat.lt_succ_self μ, m7, s7, acc ++ [v7], accW ++ [w7], ws8, ?_, n7, S7.off n7 h7, upd_same, (r3'.ext (Ext.off h7)).app (RL.one (r7.ext (Ext.off h7))), by omega, by rw [List.length_append, List.length_singleton]; omega, e8, by rw [List.append_assoc]; exact ea⟩
            have A8 := A3.trans AA
            refine ⟨A8.pre, fun a o h n => ?_, A8.new, fun a xs h => ?_, fun a o u h => ?_⟩
            · rw [upd_ne (ne_of_none h hD)]
              exact A8.same a o h n
            · rw [upd_ne (ne_of_none h hD)]
              exact A8.tup a xs h
            · rw [upd_ne (ne_of_none h hD)]
              exact A8.frz a o u h
      · rw [if_neg ho] at e3
        cases e3
  · rw [if_neg hz] at e
    cases e
theorem m_lc {elt tg iter : Expr} {ifs : List Expr} {scope : Scope} {own : List (Str × Nat)} {it : FI} {t : Tg} {u : FT} {f : FE} (hv : ∀ i ∈ t.names, i ∈ own.map (·.2)) (hc : X.calm = true) (hN : X.N.Nodup) (hi : PI X tg iter (tI X.K it)) (ok : BlkOk X.N X.env.scope scope own)
    (hg : ∀ (s : Shared) (H : Hp) (C : Addr) (cl : List (Str × Addr)) (fp : List Addr), PG (X.blk s H scope (compEnvC scope cl C X.env) fp) tg (tgT X.K t)) (ht : ∀ (s : Shared) (H : Hp) (C : Addr) (cl : List (Str × Addr)) (fp : List Addr), PTs (X.blk s H scope (compEnvC scope cl C X.env) fp) ifs (tT X.K u))
    (he : ∀ (s : Shared) (H : Hp) (C : Addr) (cl : List (Str × Addr)) (fp : List Addr), PE (X.blk s H scope (compEnvC scope cl C X.env) fp) elt (tF X.K f)) (hs : ∀ x, foldedSetIterable iter X.env x = pure x := by intro _; rfl) :
    PE X (.ListComp elt [⟨tg, iter, ifs, 0⟩] scope pos) (tF X.K (eLc (own.map (·.2)) it t u f)) := (pe_lc hc hN hi ok hg ht he hs).imp (tLc_of hv)
theorem ms_setLc {i : Nat} {y : Str} {py : Pos} {elt tg iter : Expr} {ifs : List Expr} {scope : Scope} {own : List (Str × Nat)} {spos : Pos} {it : FI} {t : Tg} {u : FT} {f : FE} (hv : ∀ i ∈ t.names, i ∈ own.map (·.2)) (hc : X.calm = true) (hN : X.N.Nodup) (hy : X.N[i]? = some y) (hyl : X.env.scope.names.lookup y = some .local)
    (hsw : swapsWith (.ListComp elt [⟨tg, iter, ifs, 0⟩] scope pos) (some (.Name y py)) spos.line X.env = pure true) (hi : PI X tg iter (tI X.K it)) (ok : BlkOk X.N X.env.scope scope own)
    (hg : ∀ (s : Shared) (H : Hp) (C : Addr) (cl : List (Str × Addr)) (fp : List Addr), PG (X.blk s H scope (compEnvC scope cl C X.env) fp) tg (tgT X.K t)) (ht : ∀ (s : Shared) (H : Hp) (C : Addr) (cl : List (Str × Addr)) (fp : List Addr), PTs (X.blk s H scope (compEnvC scope cl C X.env) fp) ifs (tT X.K u))
    (he : ∀ (s : Shared) (H : Hp) (C : Addr) (cl : List (Str × Addr)) (fp : List Addr), PE (X.blk s H scope (compEnvC scope cl C X.env) fp) elt (tF X.K f)) (hs : ∀ x, foldedSetIterable iter X.env x = pure x := by intro _; rfl) :
    PS X (.Assign [.Name y py] (.ListComp elt [⟨tg, iter, ifs, 0⟩] scope pos) spos) (tS X.K (sSet i (eLc (own.map (·.2)) it t u f))) :=
  (ps_setLc hc hN hy hyl hsw hi ok hg ht he hs).imp fun D σ H ⟨m, ρ, s, er, sr, o, s', e, q⟩ => by
    obtain ⟨w, s1, e1, e⟩ := bd_inv e
    cases e
    exact tLc_of hv σ H _ ⟨m, ρ, s, er, sr, w, _, e1, fun m1 H1 v A1 S1 r1 => q m1 H1 _ A1 S1 ((er.adv A1).set i r1)⟩
def bYes : FT := fun _ s => some (true, s)
theorem mts_nil : PTs X [] (tT X.K bYes) := by
  have h := pts_nil (X := X)
  cases h with
  | mk run => exact ⟨fun pins s σ H Q I ⟨m, ρ, s1, er, sr, k, s', e, q⟩ => run pins s σ H Q I (by cases e; exact q m H (Adv.refl m H) sr)⟩
theorem mts_one {c : Expr} {t : FT} (h : PT X c (tT X.K t)) : PTs X [c] (tT X.K t) := pts_one h

/-! ### defs -/
/-- the promise: what the mirror F gives -/
def spF (K : PySem.W.Frag) (n : Nat) (F : List W → Sto → Rz W) : Sp := fun vs H Q _ => vs.length = n ∧ ∃ m s ws, RL K m H ws vs ∧ SR K m H s ∧ wE K m H (F ws s) Q
def mkF (n N : Nat) (body : FS) : List W → Sto → Rz W := fun ws s => if ws.length = n then bd (body (ws.map some ++ List.replicate (N - ws.length) none) s) fun o s1 => match o with
  | .rt w => some (w, s1)
  | .nx _ => some (.non, s1)
  | _ => none
  else none
structure Own (P : Program) (w : World) (K : PySem.W.Frag) (mg : Str → Option Value) (base : Heap) (k : Nat) (x : Str) (ps : List Str) (F : List W → Sto → Rz W) : Prop where
  ex : ∃ (f : Addr) (fd : FuncData), FnOk P w K mg base CX0 k f fd ps (spF K ps.length F) ∧ Binds K fd ps [] ∧ PySem.W.keepIn K (.ref f) = true ∧ mg x = some (.ref f)
  ln : ∀ ws s r, F ws s = some r → ws.length = ps.length
theorem Own.mono {P : Program} {w : World} {K : PySem.W.Frag} {mg : Str → Option Value} {base : Heap} {j k : Nat} {x : Str} {ps : List Str} {F : List W → Sto → Rz W} (h : Own P w K mg base j x ps F) (hk : j ≤ k) : Own P w K mg base k x ps F := by
  obtain ⟨f, fd, h1, h2, h3, h4⟩ := h.ex
  exact ⟨⟨f, fd, h1.mono hk, h2, h3, h4⟩, h.ln⟩
theorem m_call {k : Nat} {x : Str} {ps : List Str} {F : List W → Sto → Rz W} {fa : FA} {p : Pos} (O : Own X.prog X.w X.K X.mg X.base k x ps F) (hr : Room k X.A) (hg : Gl X x) (ha : PA X (e :: es) (tA X.K fa)) (hdb : (x == ("__debug__" : Str)) = false := by decide) (he : starEach (e :: es) X.env = (false, eval e X.env) :: starEach es X.env := by rfl)
    (hpl : (backTo pos (starEach es X.env)).any (·.1) = false := by rfl) : PE X (.Call (.Name x p) (e :: es) [] pos) (tF X.K (eFn F fa)) := by
  obtain ⟨f, fd, h1, h2, h3, h4⟩ := O.ex
  refine (pe_call h1 hr hg h4 h3 h2 .nil pass0 ha hdb he hpl).imp fun σ H Q ⟨m, ρ, s, er, sr, w, s', e, q⟩ => ?_
  obtain ⟨ws, s1, e1, e⟩ := bd_inv e
  refine ⟨m, ρ, s, er, sr, ws, s1, e1, fun m1 H1 vs A1 S1 r1 => ?_⟩
  show spF X.K ps.length F (vs ++ []) H1 Q E0
  rw [List.append_nil]
  exact ⟨by rw [r1.len]; exact O.ln _ _ _ e, m1, s1, ws, r1, S1, w, s', e, fun m2 H2 v A2 => q m2 H2 v (A1.trans A2)⟩
theorem m_call0 {k : Nat} {x : Str} {F : List W → Sto → Rz W} {p : Pos} (O : Own X.prog X.w X.K X.mg X.base k x [] F) (hr : Room k X.A) (hg : Gl X x) (hdb : (x == ("__debug__" : Str)) = false := by decide) : PE X (.Call (.Name x p) [] [] pos) (tF X.K (eFn F aNil)) := by
  obtain ⟨f, fd, h1, h2, h3, h4⟩ := O.ex
  refine (pe_call0 h1 hr hg h4 h3 h2 .nil pass0 hdb).imp fun σ H Q ⟨m, ρ, s, er, sr, w, s', e, q⟩ => ?_
  exact ⟨rfl, m, s, [], .nil, sr, w, s', e, q⟩
end
/-- THE RULE for a def -/
theorem fnm_of {P : Program} {w : World} {K : PySem.W.Frag} {mg : Str → Option Value} {base : Heap} {x : Str} {st : Stmt} {f : Addr} {fd : FuncData} {N ps : List Str} {k : Nat} {body : FS} (F : Fun K x x st f fd) (S : FnScope N ps (defScope st))
    (h : ∀ (cdv : Value) (A : Around) (outer : List Env) (s : Shared) (H : Hp) (E : XK), Room k (A.deeper (envOfC x (defScope st) s.heap.objs.size f cdv)) → PSs (cxOf CX0 P w K mg base N x (defScope st) f cdv A outer s H E).nox (defBody st) (tS K body)) :
    FnOk P w K mg base CX0 (k + 1) f fd ps (spF K ps.length (mkF ps.length N.length body)) := by
  refine F.ok S (fun vs H Q E h => h.1) (fun cdv A outer s H vs Q E hr hq => ⟨_, h cdv A outer s H E hr, ?_⟩)
  obtain ⟨hl, m, st, ws, r, sr, w, s', e, q⟩ := hq
  unfold mkF at e
  rw [if_pos (by rw [← r.len]; exact hl)] at e
  obtain ⟨o, s1, e1, e⟩ := bd_inv e
  refine ⟨m, _, st, ?_, sr, o, s1, e1, ?_⟩
  · unfold L2.start
    rw [r.len]
    exact r.env.app (ER.nones _)
  · cases o with
    | nx ρ1 => cases e; exact fun m' H' σ' A S _ => q m' H' _ A S .non
    | rt w => cases e; exact q
    | bk ρ1 => cases e
    | ct ρ1 => cases e
theorem own_of {P : Program} {w : World} {K : PySem.W.Frag} {mg : Str → Option Value} {base : Heap} {x : Str} {st : Stmt} {f : Addr} {fd : FuncData} {N ps : List Str} {k : Nat} {body : FS} (F : Fun K x x st f fd) (S : FnScope N ps (defScope st)) (hb : Binds K fd ps []) (hm : mg x = some (.ref f))
    (h : ∀ (cdv : Value) (A : Around) (outer : List Env) (s : Shared) (H : Hp) (E : XK), Room k (A.deeper (envOfC x (defScope st) s.heap.objs.size f cdv)) → PSs (cxOf CX0 P w K mg base N x (defScope st) f cdv A outer s H E).nox (defBody st) (tS K body)) :
    Own P w K mg base (k + 1) x ps (mkF ps.length N.length body) := by
  refine ⟨⟨f, fd, fnm_of F S h, hb, F.kp, hm⟩, fun ws s r e => ?_⟩
  unfold mkF at e
  split at e
  · assumption
  · cases e
/-- no promise at all -/
theorem own_none {P : Program} {w : World} {K : PySem.W.Frag} {mg : Str → Option Value} {base : Heap} {x : Str} {f : Addr} {fd : FuncData} {ps : List Str} {k : Nat} (hb : Binds K fd ps []) (hk : PySem.W.keepIn K (.ref f) = true) (hm : mg x = some (.ref f)) : Own P w K mg base k x ps (fun _ _ => none) :=
  ⟨⟨f, fd, ⟨fun vs H Q E h => h.1, fun A outer s H args us vs Q E _ _ _ _ h => by obtain ⟨_, _, _, _, _, _, _, _, e, _⟩ := h; cases e⟩, hb, hk, hm⟩, fun _ _ _ e => by cases e⟩
end Mir

set_option Elab.async false
set_option linter.all false
set_option maxRecDepth 100000
namespace Mir
open PySem PySem.Spec PyProof.Rows L2
section
variable {K : PySem.W.Frag}
/-- a result that leaves the store -/
theorem wE.val {m : List Addr} {H : Hp} {w : W} {s : Sto} {Q : VK} (h : wE K m H (some (w, s)) Q) (S : SR K m H s) : ∀ v, R K m H w v → Q v H := by
  obtain ⟨w', s', e, q⟩ := h
  cases e
  exact fun v r => q m H v (Adv.refl m H) S r
/-! ### ints -/
def gII (f : Int → Int → W) : W → W → Sto → Rz W := fun x y s => match x, y with
  | .int i, .int j => some (f i j, s)
  | _, _ => none
def gIIc (c : Int → Int → Bool) (f : Int → Int → W) : W → W → Sto → Rz W := fun x y s => match x, y with
  | .int i, .int j => if c i j = true then some (f i j, s) else none
  | _, _ => none
theorem f_I0 {g : Int → Int → V} {f : Int → Int → W} (hf : ∀ m H i j, R K m H (f i j) (g i j)) : OpF K (rI0 g) (gII f) := by
  intro m H s x y v u Q S rx ry h
  cases rx with
  | int i =>
    cases ry with
    | int j => exact ⟨i, j, rfl, rfl, h.val S _ (hf m H i j)⟩
    | _ => obtain ⟨_, _, e, _⟩ := h; cases e
  | _ => obtain ⟨_, _, e, _⟩ := h; cases e
theorem f_I {C : Int → Int → Prop} {c : Int → Int → Bool} {g : Int → Int → V} {f : Int → Int → W} (hc : ∀ i j, c i j = true → C i j) (hf : ∀ m H i j, R K m H (f i j) (g i j)) : OpF K (rI C g) (gIIc c f) := by
  intro m H s x y v u Q S rx ry h
  cases rx with
  | int i =>
    cases ry with
    | int j =>
      by_cases q : c i j = true
      · simp only [gIIc, q, if_pos] at h
        exact ⟨i, j, rfl, rfl, hc i j q, h.val S _ (hf m H i j)⟩
      · simp only [gIIc, q, if_neg, not_false_eq_true] at h
        obtain ⟨_, _, e, _⟩ := h; cases e
    | _ => obtain ⟨_, _, e, _⟩ := h; cases e
  | _ => obtain ⟨_, _, e, _⟩ := h; cases e
abbrev gSub := gII fun i j => .int (i - j)
abbrev gLt := gII fun i j => .bl (decide (i < j))
abbrev gLe := gII fun i j => .bl (decide (i ≤ j))
abbrev gGt := gII fun i j => .bl (decide (j < i))
abbrev gGe := gII fun i j => .bl (decide (j ≤ i))
abbrev gMulI := gIIc (fun i j => decide ((-(2 ^ 64) < i ∧ i < 2 ^ 64) ∨ (-(2 ^ 64) < j ∧ j < 2 ^ 64))) fun i j => .int (i * j)
abbrev gDiv := gIIc (fun i j => decide (0 < j ∧ j < 1073741824)) fun i j => .int (i / j)
abbrev gDivW := gIIc (fun _ j => decide (0 < j ∧ j.natAbs.log2 < 9000)) fun i j => .int (i / j)
abbrev gDivN := gIIc (fun _ j => decide (j ≠ 0 ∧ j.natAbs < 1073741824)) fun i j => .int (i.fdiv j)
abbrev gMod := gIIc (fun _ j => decide (0 < j)) fun i j => .int (i % j)
abbrev gModN := gIIc (fun _ j => decide (j ≠ 0)) fun i j => .int (i.fmod j)
abbrev gPow := gIIc (fun i j => decide (0 ≤ j ∧ j ≤ 1000000 ∧ i.natAbs < 2 ^ 64)) fun i j => .int (i ^ j.toNat)
theorem f_sub : OpF K (rI0 fun i j => .int (i - j)) gSub := f_I0 fun _ _ _ _ => .int _
theorem f_lt : OpF K (rI0 fun i j => .bl (decide (i < j))) gLt := f_I0 fun _ _ _ _ => .bl _
theorem f_le : OpF K (rI0 fun i j => .bl (decide (i ≤ j))) gLe := f_I0 fun _ _ _ _ => .bl _
theorem f_gt : OpF K (rI0 fun i j => .bl (decide (j < i))) gGt := f_I0 fun _ _ _ _ => .bl _
theorem f_ge : OpF K (rI0 fun i j => .bl (decide (j ≤ i))) gGe := f_I0 fun _ _ _ _ => .bl _
theorem f_mulI : OpF K (rI CMul fun i j => .int (i * j)) gMulI := f_I (fun i j h => of_decide_eq_true (p := (-(2 ^ 64) < i ∧ i < 2 ^ 64) ∨ (-(2 ^ 64) < j ∧ j < 2 ^ 64)) h) fun _ _ _ _ => .int _
theorem f_div : OpF K (rI CDiv fun i j => .int (i / j)) gDiv := f_I (fun i j h => of_decide_eq_true (p := 0 < j ∧ j < 1073741824) h) fun _ _ _ _ => .int _
theorem f_divW : OpF K (rI CDivW fun i j => .int (i / j)) gDivW := f_I (fun i j h => of_decide_eq_true (p := 0 < j ∧ j.natAbs.log2 < 9000) h) fun _ _ _ _ => .int _
theorem f_divN : OpF K (rI CDivN fun i j => .int (i.fdiv j)) gDivN := f_I (fun i j h => of_decide_eq_true (p := j ≠ 0 ∧ j.natAbs < 1073741824) h) fun _ _ _ _ => .int _
theorem f_mod : OpF K (rI (fun _ j => 0 < j) fun i j => .int (i % j)) gMod := f_I (fun i j h => of_decide_eq_true h) fun _ _ _ _ => .int _
theorem f_modN : OpF K (rI (fun _ j => j ≠ 0) fun i j => .int (i.fmod j)) gModN := f_I (fun i j h => of_decide_eq_true h) fun _ _ _ _ => .int _
theorem f_pow : OpF K (rI CPow fun i j => .int (i ^ j.toNat)) gPow := f_I (fun i j h => of_decide_eq_true (p := 0 ≤ j ∧ j ≤ 1000000 ∧ i.natAbs < 2 ^ 64) h) fun _ _ _ _ => .int _
def gNeg : W → Sto → Rz W := fun x s => match x with
  | .int i => some (.int (-i), s)
  | _ => none
theorem f_neg : UnF K (rU fun i => .int (-i)) gNeg := by
  intro m H s x v Q S rx h
  cases rx with
  | int i => exact ⟨i, rfl, h.val S _ (.int _)⟩
  | _ => obtain ⟨_, _, e, _⟩ := h; cases e
/-! ### + of ints, texts, tuples, lists -/
def gAdd : W → W → Sto → Rz W := fun x y s => match x, y with
  | .int i, .int j => some (.int (i + j), s)
  | .str a, .str b => if a.length + b.length ≤ 100000 then some (.str (a ++ b), s) else none
  | .tup a, .tup b => if a.length + b.length ≤ 100000 then some (.tup (a ++ b), s) else none
  | .ref n, .ref k => match s[n]?, s[k]? with
    | some (.lst a), some (.lst b) => if a.length + b.length ≤ 100000 then some (.ref s.length, s ++ [.lst (a ++ b)]) else none
    | _, _ => none
  | _, _ => none
def rAddA (K : PySem.W.Frag) : R2 := fun x y H Q => (rI0 fun i j => .int (i + j)) x y H Q ∨ (∃ i j, x = .str i ∧ y = .str j ∧ i.length + j.length ≤ sizeLine ∧ Q (.str (i ++ j)) H) ∨ rCatA K x y H Q ∨ rCat x y H Q
theorem op_addA {X : Cx} : OpR X (binaryOp .Add) (rAddA X.K) := op_add.or (op_add_str.or (op_catA.or op_cat))
theorem f_add : OpF K (rAddA K) gAdd := by
  intro m H s x y v u Q S rx ry h
  have nope : ∀ {P : Prop}, wE K m H (none : Rz W) Q → P := fun h => by obtain ⟨_, _, e, _⟩ := h; cases e
  cases rx with
  | int i =>
    cases ry with
    | int j => exact .inl ⟨i, j, rfl, rfl, h.val S _ (.int _)⟩
    | _ => exact nope h
  | str a =>
    cases ry with
    | str b =>
      by_cases q : a.length + b.length ≤ 100000
      · simp only [gAdd, q, if_pos] at h
        exact .inr (.inl ⟨a, b, rfl, rfl, szl q, h.val S _ (.str _)⟩)
      · simp only [gAdd, q, if_neg, not_false_eq_true] at h
        exact nope h
    | _ => exact nope h
  | @tup p vs ws h1 h2 =>
    cases ry with
    | @tup p' vs' ws' h3 h4 =>
      by_cases q : ws.length + ws'.length ≤ 100000
      · simp only [gAdd, q, if_pos] at h
        have r := h2.app h4
        refine .inr (.inr (.inl ⟨p, p', vs, vs', rfl, rfl, h1.sq, h3.sq, szl (by rw [h2.len, h4.len]; exact q), fun e => ?_, fun _ e => ?_, fun _ _ z hz => ?_⟩))
        · subst e
          exact h.val S _ (.tup h3 r)
        · subst e
          rw [List.append_nil] at r
          exact h.val S _ (.tup h1 r)
        · obtain ⟨w, s', e, q⟩ := h
          cases e
          exact new_tup S r hz q
      · simp only [gAdd, q, if_neg, not_false_eq_true] at h
        exact nope h
    | _ => exact nope h
  | @ref n a h1 =>
    cases ry with
    | @ref k b h2 =>
      cases en : s[n]? with
      | none => simp only [gAdd, en] at h; exact nope h
      | some on =>
        cases on with
        | dct _ => simp only [gAdd, en] at h; exact nope h
        | lst wa =>
          cases ek : s[k]? with
          | none => simp only [gAdd, en, ek] at h; exact nope h
          | some ok =>
            cases ok with
            | dct _ => simp only [gAdd, en, ek] at h; exact nope h
            | lst wb =>
              by_cases q : wa.length + wb.length ≤ 100000
              · simp only [gAdd, en, ek, q, if_pos] at h
                obtain ⟨a', ha, va, ha1, ha2⟩ := S.at en
                obtain ⟨b', hb, vb, hb1, hb2⟩ := S.at ek
                rw [h1] at ha; cases ha
                rw [h2] at hb; cases hb
                refine .inr (.inr (.inr ⟨a, b, va, vb, rfl, rfl, ha1, hb1, szl (by rw [ha2.len, hb2.len]; exact q), fun p hp => ?_⟩))
                obtain ⟨w, s', e, q⟩ := h
                cases e
                exact new_lst S (ha2.app hb2) hp q
              · simp only [gAdd, en, ek, q, if_neg, not_false_eq_true] at h
                exact nope h
    | _ => exact nope h
  | _ => cases ry <;> exact nope h
/-! ### [..] * n -/
def gRep : W → W → Sto → Rz W := fun x y s => match x, y with
  | .ref n, .int k => match s[n]? with
    | some (.lst a) => if a.length * k.toNat ≤ 100000 ∧ -(2 ^ 63) ≤ k ∧ k < 2 ^ 63 then some (.ref s.length, s ++ [.lst (List.replicate k.toNat a).flatten]) else none
    | _ => none
  | _, _ => none
theorem RL.rep {m : List Addr} {H : Hp} {ws : List W} {vs : List V} (h : RL K m H ws vs) : ∀ k : Nat, RL K m H (List.replicate k ws).flatten (List.replicate k vs).flatten
  | 0 => .nil
  | k + 1 => by
    rw [List.replicate_succ, List.replicate_succ, List.flatten_cons, List.flatten_cons]
    exact h.app (RL.rep h k)
theorem f_rep : OpF K rRep gRep := by
  intro m H s x y v u Q S rx ry h
  have nope : ∀ {P : Prop}, wE K m H (none : Rz W) Q → P := fun h => by obtain ⟨_, _, e, _⟩ := h; cases e
  cases rx with
  | @ref n a h1 =>
    cases ry with
    | int k =>
      cases en : s[n]? with
      | none => simp only [gRep, en] at h; exact nope h
      | some on =>
        cases on with
        | dct _ => simp only [gRep, en] at h; exact nope h
        | lst wa =>
          by_cases q : wa.length * k.toNat ≤ 100000 ∧ -(2 ^ 63) ≤ k ∧ k < 2 ^ 63
          · simp only [gRep, en, q, and_self, if_true] at h
            obtain ⟨a', ha, va, ha1, ha2⟩ := S.at en
            rw [h1] at ha; cases ha
            refine ⟨a, k, va, rfl, rfl, ha1, q.2.1, q.2.2, szl (by rw [ha2.len]; exact q.1), fun p hp => ?_⟩
            obtain ⟨w, s', e, q⟩ := h
            cases e
            exact new_lst S (ha2.rep k.toNat) hp q
          · simp only [gRep, en, q, if_false] at h
            exact nope h
    | _ => exact nope h
  | _ => cases ry <;> exact nope h
/-! ### subscripts -/
def gIx : W → W → Sto → Rz W := fun x y s => match x, y with
  | .str z, .int i => if z.length ≤ 100000 then match atI z.cps.toList i with
      | some c => some (.str ⟨#[c]⟩, s)
      | none => none
    else none
  | x, .int i => match seqOf x s with
    | some ws => match atI ws i with
      | some w => some (w, s)
      | none => none
    | none => none
  | _, _ => none
theorem f_ix : OpF K (rIx K) gIx := by
  intro m H s x y v u Q S rx ry h
  have nope : ∀ {P : Prop}, wE K m H (none : Rz W) Q → P := fun h => by obtain ⟨_, _, e, _⟩ := h; cases e
  have seq : ∀ {i : Int}, u = .int i → (∀ z, x ≠ .str z) → wE K m H (match seqOf x s with
    | some ws => match atI ws i with
      | some w => some (w, s)
      | none => none
    | none => none) Q → rIx K v u H Q := fun {i} e _ h => by
    subst e
    cases es : seqOf x s with
    | none => simp only [es] at h; exact nope h
    | some ws =>
      simp only [es] at h
      cases ea : atI ws i with
      | none => simp only [ea] at h; exact nope h
      | some w =>
        simp only [ea] at h
        obtain ⟨p, vs, rfl, hs, r⟩ := seq_of S rx es
        obtain ⟨v', hv, rv⟩ := r.at_of ea
        rcases hs with hs | hs
        · exact .inr (.inl ⟨p, vs, i, v', rfl, rfl, hs, hv, h.val S _ rv⟩)
        · exact .inl ⟨p, vs, i, v', rfl, rfl, hs, hv, h.val S _ rv⟩
  cases ry with
  | int i =>
    cases x with
    | str z =>
      cases rx
      by_cases q : z.length ≤ 100000
      · simp only [gIx, q, if_true] at h
        cases ea : atI z.cps.toList i with
        | none => simp only [ea] at h; exact nope h
        | some c =>
          simp only [ea] at h
          exact .inr (.inr ⟨z, i, c, rfl, rfl, szl q, ea, h.val S _ (.str _)⟩)
      · simp only [gIx, q, if_false] at h; exact nope h
    | _ => exact seq rfl (fun z e => by cases e) h
  | _ => cases x <;> exact nope h
/-! ### == -/
mutual
def pyW : W → Option PyData
  | .non => some .none
  | .bl b => some (.bool b)
  | .int i => some (.int i)
  | .str x => some (.str x)
  | .tup ws => (pyWs ws).map .tuple
  | .lro ws => (pyWs ws).map .list
  | .ref _ => none
def pyWs : List W → Option (List PyData)
  | [] => some []
  | w :: ws => match pyW w, pyWs ws with
    | some d, some ds => some (d :: ds)
    | _, _ => none
end
/-- data, with the lists of the store down to n levels -/
def pyS (s : Sto) : Nat → W → Option PyData
  | 0, _ => none
  | n + 1, .ref k => match s[k]? with
    | some (.lst ws) => (ws.mapM (pyS s n)).map .list
    | _ => none
  | _ + 1, w => pyW w
mutual
theorem dp_of {m : List Addr} {H : Hp} : ∀ {w : W} {v : V} {d : PyData}, R K m H w v → pyW w = some d → Dp K H v d
  | .non, v, d, r, e => by cases r; rw [pyW] at e; cases e; exact .non
  | .bl _, v, d, r, e => by cases r; rw [pyW] at e; cases e; exact .bl _
  | .int _, v, d, r, e => by cases r; rw [pyW] at e; cases e; exact .int _
  | .str _, v, d, r, e => by cases r; rw [pyW] at e; cases e; exact .str _
  | .tup ws, v, d, r, e => by
    cases r with
    | tup h1 h2 =>
      rw [pyW] at e
      cases eds : pyWs ws with
      | none => rw [eds] at e; cases e
      | some ds =>
        rw [eds] at e
        cases e
        exact .tup h1.sq (dps_of h2 eds)
  | .lro ws, v, d, r, e => by
    cases r with
    | lro h1 h2 =>
      rw [pyW] at e
      cases eds : pyWs ws with
      | none => rw [eds] at e; cases e
      | some ds =>
        rw [eds] at e
        cases e
        exact .lst h1.sq (dps_of h2 eds)
  | .ref _, v, d, r, e => by rw [pyW] at e; cases e
theorem dps_of {m : List Addr} {H : Hp} : ∀ {ws : List W} {vs : List V} {ds : List PyData}, RL K m H ws vs → pyWs ws = some ds → DpAll K H vs ds
  | [], vs, ds, r, e => by cases r; rw [pyWs] at e; cases e; exact .nil
  | w :: ws, vs, ds, r, e => by
    cases r with
    | cons h1 h2 =>
      rw [pyWs] at e
      cases e1 : pyW w with
      | none => rw [e1] at e; cases e
      | some d1 =>
        cases e2 : pyWs ws with
        | none => rw [e1, e2] at e; cases e
        | some d2 =>
          rw [e1, e2] at e
          cases e
          exact .cons (dp_of h1 e1) (dps_of h2 e2)
end
theorem dpS_of {m : List Addr} {H : Hp} {s : Sto} (S : SR K m H s) : ∀ {n : Nat} {w : W} {v : V} {d : PyData}, R K m H w v → pyS s n w = some d → Dp K H v d
  | 0, w, v, d, r, e => by rw [pyS] at e; cases e
  | n + 1, .ref k, v, d, r, e => by
    rw [pyS] at e
    cases ek : s[k]? with
    | none => simp only [ek] at e; cases e
    | some o =>
      cases o with
      | dct _ => simp only [ek] at e; cases e
      | lst ws =>
        simp only [ek] at e
        cases em : ws.mapM (pyS s n) with
        | none => rw [em] at e; cases e
        | some ds =>
          rw [em] at e
          cases e
          cases r with
          | @ref _ a hk =>
            obtain ⟨a', ha, vs, h1, h2⟩ := S.at ek
            rw [hk] at ha; cases ha
            refine .lst (SqL.of h1) ?_
            clear hk h1 ek
            induction ws generalizing vs ds with
            | nil => cases h2; cases em; exact .nil
            | cons x r ih =>
              cases h2 with
              | cons r1 r2 =>
                rw [List.mapM_cons] at em
                cases ex : pyS s n x with
                | none => rw [ex] at em; cases em
                | some dx =>
                  rw [ex] at em
                  cases er : r.mapM (pyS s n) with
                  | none => rw [er] at em; cases em
                  | some dr =>
                    rw [er] at em
                    cases em
                    exact .cons (dpS_of S r1 ex) (ih _ er _ r2)
  | _ + 1, .non, v, d, r, e => dp_of r (by simpa only [pyS] using e)
  | _ + 1, .bl _, v, d, r, e => dp_of r (by simpa only [pyS] using e)
  | _ + 1, .int _, v, d, r, e => dp_of r (by simpa only [pyS] using e)
  | _ + 1, .str _, v, d, r, e => dp_of r (by simpa only [pyS] using e)
  | _ + 1, .tup _, v, d, r, e => dp_of r (by simpa only [pyS] using e)
  | _ + 1, .lro _, v, d, r, e => dp_of r (by simpa only [pyS] using e)
/-- two scalars that are compared without looking further -/
def sEq : W → W → Option Bool
  | .int i, .int j => some (decide (i = j))
  | .str a, .str b => some (decide (a = b))
  | .bl a, .bl b => some (decide (a = b))
  | .non, .non => some true
  | .non, .int _ => some false
  | .int _, .non => some false
  | .non, .str _ => some false
  | .str _, .non => some false
  | .non, .bl _ => some false
  | .bl _, .non => some false
  | .int _, .str _ => some false
  | .str _, .int _ => some false
  | .bl _, .str _ => some false
  | .str _, .bl _ => some false
  | _, _ => none
def datEq (s : Sto) (x y : W) : Option Bool := match pyS s 3 x, pyS s 3 y with
  | some d, some e => if SeqAt.shaped d = true ∧ SeqAt.shaped e = true then some (PyData.eqv d e) else none
  | _, _ => none
def eqW (s : Sto) (x y : W) : Option Bool := match sEq x y with
  | some b => some b
  | none => datEq s x y
def gEq : W → W → Sto → Rz W := fun x y s => match eqW s x y with
  | some b => some (.bl b, s)
  | none => none
def gNe : W → W → Sto → Rz W := fun x y s => match eqW s x y with
  | some b => some (.bl (!b), s)
  | none => none
def rEqA (K : PySem.W.Frag) : R2 := fun x y H Q => rEq x y H Q ∨ rEqD K x y H Q
def rNeA (K : PySem.W.Frag) : R2 := fun x y H Q => rNe x y H Q ∨ rNeD K x y H Q
theorem op_eqA {X : Cx} (hu : X.A.units + 64 < cLine) : OpR X (compareOp .Eq) (rEqA X.K) := op_eq.or (op_eqD hu)
theorem op_neA {X : Cx} (hu : X.A.units + 64 < cLine) : OpR X (compareOp .NotEq) (rNeA X.K) := op_ne.or (op_neD hu)
theorem eq_cases {m : List Addr} {H : Hp} {s : Sto} {x y : W} {v u : V} {b : Bool} (S : SR K m H s) (rx : R K m H x v) (ry : R K m H y u) (e : eqW s x y = some b) :
    (scal v u = true ∧ decide (v = u) = b) ∨ ∃ d d', Dp K H v d ∧ Dp K H u d' ∧ SeqAt.shaped d = true ∧ SeqAt.shaped d' = true ∧ PyData.eqv d d' = b := by
  unfold eqW at e
  cases es : sEq x y with
  | some b' =>
    simp only [es] at e
    cases e
    left
    cases rx <;> cases ry <;> simp only [sEq, Option.some.injEq, reduceCtorEq] at es <;> subst es <;> refine ⟨rfl, ?_⟩ <;> simp
  | none =>
    simp only [es] at e
    right
    unfold datEq at e
    cases e1 : pyS s 3 x with
    | none => simp only [e1] at e; cases e
    | some d =>
      cases e2 : pyS s 3 y with
      | none => simp only [e1, e2] at e; cases e
      | some d' =>
        simp only [e1, e2] at e
        split at e
        · rename_i hh
          cases e
          exact ⟨d, d', dpS_of S rx e1, dpS_of S ry e2, hh.1, hh.2, rfl⟩
        · cases e
theorem f_eq : OpF K (rEqA K) gEq := by
  intro m H s x y v u Q S rx ry h
  cases e : eqW s x y with
  | none => simp only [gEq, e] at h; obtain ⟨_, _, e, _⟩ := h; cases e
  | some b =>
    simp only [gEq, e] at h
    have q := h.val S _ (.bl b)
    rcases eq_cases S rx ry e with ⟨h1, h2⟩ | ⟨d, d', h1, h2, h3, h4, h5⟩
    · exact .inl ⟨h1, by rw [h2]; exact q⟩
    · exact .inr ⟨d, d', h1, h2, h3, h4, by rw [h5]; exact q⟩
theorem f_ne : OpF K (rNeA K) gNe := by
  intro m H s x y v u Q S rx ry h
  cases e : eqW s x y with
  | none => simp only [gNe, e] at h; obtain ⟨_, _, e, _⟩ := h; cases e
  | some b =>
    simp only [gNe, e] at h
    have q := h.val S _ (.bl (!b))
    rcases eq_cases S rx ry e with ⟨h1, h2⟩ | ⟨d, d', h1, h2, h3, h4, h5⟩
    · exact .inl ⟨h1, by rw [h2]; exact q⟩
    · exact .inr ⟨d, d', h1, h2, h3, h4, by rw [h5]; exact q⟩
/-! ### is -/
def isNon : W → Bool
  | .non => true
  | _ => false
def gIs : W → W → Sto → Rz W := fun x y s => match x, y with
  | .bl a, .bl b => some (.bl (decide (a = b)), s)
  | x, .non => some (.bl (isNon x), s)
  | .non, .bl _ => some (.bl false, s)
  | _, _ => none
def gIsNot : W → W → Sto → Rz W := fun x y s => match x, y with
  | .bl a, .bl b => some (.bl (!decide (a = b)), s)
  | x, .non => some (.bl (!isNon x), s)
  | .non, .bl _ => some (.bl true, s)
  | _, _ => none

def rIsA : R2 := fun x y H Q => (y = .non ∧ Q (.bl (decide (x = .non))) H) ∨ rIsB x y H Q ∨ (∃ b, x = .non ∧ y = .bl b ∧ Q (.bl false) H)
def rNotA : R2 := fun x y H Q => (y = .non ∧ Q (.bl (!decide (x = .non))) H) ∨ rNotB x y H Q ∨ (∃ b, x = .non ∧ y = .bl b ∧ Q (.bl true) H)
theorem op_isA {X : Cx} : OpR X (compareOp .Is) rIsA := op_isN.or (op_isBl.or (by
  intro pins s σ H x y v u Q I rx ry h
  obtain ⟨b, rfl, rfl, q⟩ := h
  cases (show v = Value.none from rx)
  cases (show u = Value.bool b from ry)
  exact wpAny_is_other rfl (fun z => by cases z) ⟨.bl false, H, I, rfl, q⟩))
theorem op_notA {X : Cx} : OpR X (compareOp .IsNot) rNotA := op_notN.or (op_notBl.or (by
  intro pins s σ H x y v u Q I rx ry h
  obtain ⟨b, rfl, rfl, q⟩ := h
  cases (show v = Value.none from rx)
  cases (show u = Value.bool b from ry)
  exact wpAny_isNot_other rfl (fun z => by cases z) ⟨.bl true, H, I, rfl, q⟩))
theorem non_of {m : List Addr} {H : Hp} {x : W} {v : V} (r : R K m H x v) : decide (v = .non) = isNon x := by
  cases r <;> simp [isNon]
theorem f_is : OpF K rIsA gIs := by
  intro m H s x y v u Q S rx ry h
  have nope : ∀ {P : Prop}, wE K m H (none : Rz W) Q → P := fun h => by obtain ⟨_, _, e, _⟩ := h; cases e
  cases ry with
  | non =>
    refine .inl ⟨rfl, ?_⟩
    rw [non_of rx]
    cases rx <;> exact h.val S _ (.bl _)
  | bl b =>
    cases rx with
    | bl a => exact .inr (.inl ⟨a, b, rfl, rfl, h.val S _ (.bl _)⟩)
    | non => exact .inr (.inr ⟨b, rfl, rfl, h.val S _ (.bl _)⟩)
    | _ => exact nope h
  | _ => cases rx <;> exact nope h
theorem f_isNot : OpF K rNotA gIsNot := by
  intro m H s x y v u Q S rx ry h
  have nope : ∀ {P : Prop}, wE K m H (none : Rz W) Q → P := fun h => by obtain ⟨_, _, e, _⟩ := h; cases e
  cases ry with
  | non =>
    refine .inl ⟨rfl, ?_⟩
    rw [non_of rx]
    cases rx <;> exact h.val S _ (.bl _)
  | bl b =>
    cases rx with
    | bl a => exact .inr (.inl ⟨a, b, rfl, rfl, h.val S _ (.bl _)⟩)
    | non => exact .inr (.inr ⟨b, rfl, rfl, h.val S _ (.bl _)⟩)
    | _ => exact nope h
  | _ => cases rx <;> exact nope h
/-! ### in -/
def flatW : W → Bool
  | .non => true
  | .bl _ => true
  | .int _ => true
  | .str _ => true
  | _ => false
def eqF : W → W → Bool
  | .non, .non => true
  | .bl a, .bl b => a == b
  | .bl a, .int b => (if a then 1 else 0) == b
  | .int a, .bl b => a == (if b then 1 else 0)
  | .int a, .int b => a == b
  | .str a, .str b => a == b
  | _, _ => false
def inW (x : W) (ws : List W) : Bool := ws.any fun y => eqF y x
theorem flat_of {m : List Addr} {H : Hp} {x : W} {v : V} (r : R K m H x v) (h : flatW x = true) : flatV v = true := by
  cases r <;> first | rfl | cases h
theorem eqF_of {m : List Addr} {H : Hp} {x y : W} {v u : V} (rx : R K m H x v) (ry : R K m H y u) (hx : flatW x = true) : eqV v u = eqF x y := by
  cases rx with
  | tup => cases hx
  | lro => cases hx
  | ref => cases hx
  | _ => cases ry <;> rfl
theorem in_of {m : List Addr} {H : Hp} {x : W} {v : V} (rx : R K m H x v) : ∀ {ws : List W} {vs : List V}, RL K m H ws vs → ws.all flatW = true → vs.all flatV = true ∧ inV v vs = inW x ws
  | [], vs, r, _ => by cases r; exact ⟨rfl, rfl⟩
  | w :: ws, vs, r, h => by
    cases r with
    | cons h1 h2 =>
      rw [List.all_cons, Bool.and_eq_true] at h
      obtain ⟨q1, q2⟩ := in_of rx h2 h.2
      refine ⟨by rw [List.all_cons, flat_of h1 h.1, q1]; rfl, ?_⟩
      unfold inV inW at q2 ⊢
      rw [List.any_cons, List.any_cons, q2, eqF_of h1 rx h.1]
def datIn (s : Sto) (x y : W) : Option Bool := match pyS s 3 x, pyS s 3 y with
  | some d, some (.list ds) => if SeqAt.shaped d = true ∧ SeqAt.shaped (.list ds) = true then some (ds.any fun z => PyData.eqv z d) else none
  | _, _ => none
def insW (s : Sto) (x y : W) : Option Bool := match x, y with
  | .str a, .str z => some (!(Builtin.Str.occurrences z a 0 z.length 1).isEmpty)
  | x, y => match seqOf y s with
    | some ws => if flatW x = true ∧ ws.all flatW = true then some (inW x ws) else datIn s x y
    | none => none
def gIn : W → W → Sto → Rz W := fun x y s => match insW s x y with
  | some b => some (.bl b, s)
  | none => none
def gNotIn : W → W → Sto → Rz W := fun x y s => match insW s x y with
  | some b => some (.bl (!b), s)
  | none => none
def rInA (K : PySem.W.Frag) : R2 := fun x y H Q => rIn K false x y H Q ∨ (∃ i j, x = .str i ∧ y = .str j ∧ Q (.bl (!(Builtin.Str.occurrences j i 0 j.length 1).isEmpty)) H) ∨ rInD K x y H Q
def rNotInA (K : PySem.W.Frag) : R2 := fun x y H Q => rIn K true x y H Q ∨ (∃ i j, x = .str i ∧ y = .str j ∧ Q (.bl (!(!(Builtin.Str.occurrences j i 0 j.length 1).isEmpty))) H) ∨ rNotInD K x y H Q
theorem op_inA {X : Cx} (hu : X.A.units + 65 < cLine) : OpR X (compareOp .In) (rInA X.K) := op_in_seq.or (op_in_str.or (op_inD hu))
theorem op_notInA {X : Cx} (hu : X.A.units + 65 < cLine) : OpR X (compareOp .NotIn) (rNotInA X.K) := op_notIn_seq.or (op_notin_str.or (op_notInD hu))
theorem ins_cases {m : List Addr} {H : Hp} {s : Sto} {x y : W} {v u : V} {b : Bool} (S : SR K m H s) (rx : R K m H x v) (ry : R K m H y u) (e : insW s x y = some b) :
    (∃ p xs, u = .ref p ∧ (SqL K H p xs ∨ SqT K H p xs) ∧ flatV v = true ∧ xs.all flatV = true ∧ inV v xs = b) ∨
    (∃ i j, v = .str i ∧ u = .str j ∧ (!(Builtin.Str.occurrences j i 0 j.length 1).isEmpty) = b) ∨
    ∃ d ds, Dp K H v d ∧ Dp K H u (.list ds) ∧ SeqAt.shaped d = true ∧ SeqAt.shaped (.list ds) = true ∧ (ds.any fun z => PyData.eqv z d) = b := by
  have main : (match seqOf y s with
    | some ws => if flatW x = true ∧ ws.all flatW = true then some (inW x ws) else datIn s x y
    | none => none) = some b → (∃ p xs, u = .ref p ∧ (SqL K H p xs ∨ SqT K H p xs) ∧ flatV v = true ∧ xs.all flatV = true ∧ inV v xs = b) ∨
    ∃ d ds, Dp K H v d ∧ Dp K H u (.list ds) ∧ SeqAt.shaped d = true ∧ SeqAt.shaped (.list ds) = true ∧ (ds.any fun z => PyData.eqv z d) = b := fun e => by
    cases es : seqOf y s with
    | none => simp only [es] at e; cases e
    | some ws =>
      simp only [es] at e
      split at e
      · rename_i hf
        cases e
        obtain ⟨p, vs, hu, hs, r⟩ := seq_of S ry es
        obtain ⟨q1, q2⟩ := in_of rx r hf.2
        exact .inl ⟨p, vs, hu, hs.symm, flat_of rx hf.1, q1, q2⟩
      · unfold datIn at e
        cases e1 : pyS s 3 x with
        | none => simp only [e1] at e; cases e
        | some d =>
          cases e2 : pyS s 3 y with
          | none => simp only [e1, e2] at e; cases e
          | some d' =>
            cases d' with
            | list ds =>
              simp only [e1, e2] at e
              split at e
              · rename_i hh
                cases e
                exact .inr ⟨d, ds, dpS_of S rx e1, dpS_of S ry e2, hh.1, hh.2, rfl⟩
              · cases e
            | _ => simp only [e1, e2] at e; cases e
  cases rx with
  | str a =>
    cases ry with
    | str z =>
      simp only [insW] at e
      exact .inr (.inl ⟨a, z, rfl, rfl, Option.some.inj e⟩)
    | _ => simp only [insW] at e; exact (main e).elim Or.inl fun h => Or.inr (Or.inr h)
  | _ => simp only [insW] at e; exact (main e).elim Or.inl fun h => Or.inr (Or.inr h)
theorem f_in : OpF K (rInA K) gIn := by
  intro m H s x y v u Q S rx ry h
  cases e : insW s x y with
  | none => simp only [gIn, e] at h; obtain ⟨_, _, e, _⟩ := h; cases e
  | some b =>
    simp only [gIn, e] at h
    have q := h.val S _ (.bl b)
    rcases ins_cases S rx ry e with ⟨p, xs, hu, h1, h2, h3, h4⟩ | ⟨i, j, h1, h2, h3⟩ | ⟨d, ds, h1, h2, h3, h4, h5⟩
    · exact .inl ⟨p, xs, hu, h1, h2, h3, by rw [h4]; exact q⟩
    · exact .inr (.inl ⟨i, j, h1, h2, by rw [h3]; exact q⟩)
    · exact .inr (.inr ⟨d, ds, h1, h2, h3, h4, by rw [h5]; exact q⟩)
theorem f_notIn : OpF K (rNotInA K) gNotIn := by
  intro m H s x y v u Q S rx ry h
  cases e : insW s x y with
  | none => simp only [gNotIn, e] at h; obtain ⟨_, _, e, _⟩ := h; cases e
  | some b =>
    simp only [gNotIn, e] at h
    have q := h.val S _ (.bl (!b))
    rcases ins_cases S rx ry e with ⟨p, xs, hu, h1, h2, h3, h4⟩ | ⟨i, j, h1, h2, h3⟩ | ⟨d, ds, h1, h2, h3, h4, h5⟩
    · exact .inl ⟨p, xs, hu, h1, h2, h3, by rw [h4]; exact q⟩
    · exact .inr (.inl ⟨i, j, h1, h2, by rw [h3]; exact q⟩)
    · exact .inr (.inr ⟨d, ds, h1, h2, h3, h4, by rw [h5]; exact q⟩)
/-! ### built-ins by name -/
def lenW (x : W) (s : Sto) : Option Nat := match x with
  | .str z => if z.length ≤ sizeLine then some z.length else none
  | .ref n => match s[n]? with
    | some (.lst ws) => some ws.length
    | some (.dct kvs) => some kvs.length
    | none => none
  | x => (seqOf x s).map List.length
def gLen : List W → Sto → Rz W := fun ws s => match ws with
  | [x] => match lenW x s with
    | some n => some (.int n, s)
    | none => none
  | _ => none
def rLenA (K : PySem.W.Frag) : List V → Hp → VK → Prop := fun xs H Q => (∃ p ys, xs = [.ref p] ∧ (SqL K H p ys ∨ SqT K H p ys) ∧ Q (.int ys.length) H) ∨ (∃ z, xs = [.str z] ∧ z.length ≤ sizeLine ∧ Q (.int z.length) H) ∨ (∃ d kvs, xs = [V.ref d] ∧ H d = some (.dK kvs) ∧ Q (.int kvs.length) H)
theorem RK.len {m : List Addr} {H : Hp} : ∀ {ws : List (Key × W)} {vs : List (Key × V)}, RK K m H ws vs → vs.length = ws.length
  | [], _, h => by cases h; rfl
  | w :: ws, _, h => by
    cases h with
    | cons h1 h2 => rw [List.length_cons, List.length_cons, RK.len h2]
end
end Mir

set_option Elab.async false
set_option linter.all false
set_option maxRecDepth 100000
namespace Mir
open PySem PySem.Spec PyProof.Rows L2
section
variable {K : PySem.W.Frag}
theorem nopeE {m : List Addr} {H : Hp} {Q : VK} {P : Prop} (h : wE K m H (none : Rz W) Q) : P := by obtain ⟨_, _, e, _⟩ := h; cases e
theorem nopeE' {m : List Addr} {H : Hp} {Q : VK} {P : Prop} {x : Rz W} (h : wE K m H x Q) (e : x = none) : P := by rw [e] at h; exact nopeE h
/-! ### len -/
theorem call_lenA {X : Cx} : CallR X (.builtin "len") (rLenA X.K) := call_len_seq.or (call_len_str.or call_lenD)
theorem f_len : CallF K (rLenA K) gLen := by
  intro m H s ws vs Q S r h
  cases r with
  | nil => exact nopeE h
  | @cons x v ws vs r1 r2 =>
    cases r2 with
    | cons _ _ => exact nopeE h
    | nil =>
      have seq : ∀ {xs}, seqOf x s = some xs → Q (.int xs.length) H → rLenA K [v] H Q := fun {xs} e q => by
        obtain ⟨p, vs, rfl, hs, r⟩ := seq_of S r1 e
        rw [← r.len] at q
        exact .inl ⟨p, vs, rfl, hs.symm, q⟩
      cases r1 with
      | str z =>
        by_cases q : z.length ≤ sizeLine
        · simp only [gLen, lenW, q, if_true] at h
          exact .inr (.inl ⟨z, rfl, q, h.val S _ (.int _)⟩)
        · simp only [gLen, lenW, q, if_false] at h; exact nopeE h
      | tup h1 h2 => exact seq rfl (h.val S _ (.int _))
      | lro h1 h2 => exact seq rfl (h.val S _ (.int _))
      | @ref n a h1 =>
        cases en : s[n]? with
        | none => simp only [gLen, lenW, en] at h; exact nopeE h
        | some o =>
          cases o with
          | lst xs =>
            simp only [gLen, lenW, en] at h
            exact seq (by simp only [seqOf, en]) (h.val S _ (.int _))
          | dct kvs =>
            simp only [gLen, lenW, en] at h
            obtain ⟨a', h2, vs, h3, h4⟩ := S.at en
            rw [h1] at h2; cases h2
            have q := h.val S _ (.int _)
            rw [← h4.len] at q
            exact .inr (.inr ⟨a, vs, rfl, h3, q⟩)
      | _ => exact nopeE h
/-! ### abs, max, min, int, str -/
def g1I (f : Int → W) : List W → Sto → Rz W := fun ws s => match ws with
  | [.int i] => some (f i, s)
  | _ => none
def g2I (f : Int → Int → W) : List W → Sto → Rz W := fun ws s => match ws with
  | [.int i, .int j] => some (f i j, s)
  | _ => none
theorem f_1I {g : Int → V} {f : Int → W} (hf : ∀ m H i, R K m H (f i) (g i)) : CallF K (fun xs H Q => ∃ i, xs = [.int i] ∧ Q (g i) H) (g1I f) := by
  intro m H s ws vs Q S r h
  cases r with
  | nil => exact nopeE h
  | cons r1 r2 =>
    cases r2 with
    | cons _ _ => cases r1 <;> exact nopeE h
    | nil =>
      cases r1 with
      | int i => exact ⟨i, rfl, h.val S _ (hf m H i)⟩
      | _ => exact nopeE h
theorem f_2I {g : Int → Int → V} {f : Int → Int → W} (hf : ∀ m H i j, R K m H (f i j) (g i j)) : CallF K (fun xs H Q => ∃ i j, xs = [.int i, .int j] ∧ Q (g i j) H) (g2I f) := by
  intro m H s ws vs Q S r h
  cases r with
  | nil => exact nopeE h
  | cons r1 r2 =>
    cases r2 with
    | nil => cases r1 <;> exact nopeE h
    | cons r3 r4 =>
      cases r4 with
      | cons _ _ => cases r1 <;> first | exact nopeE h | (cases r3 <;> exact nopeE h)
      | nil =>
        cases r1 with
        | int i =>
          cases r3 with
          | int j => exact ⟨i, j, rfl, h.val S _ (hf m H i j)⟩
          | _ => exact nopeE h
        | _ => exact nopeE h
abbrev gAbs := g1I fun i => .int (if i < 0 then -i else i)
abbrev gMax2 := g2I fun i j => .int (if j > i then j else i)
abbrev gMin2 := g2I fun i j => .int (if j < i then j else i)
theorem f_abs : CallF K (fun xs H Q => ∃ i, xs = [.int i] ∧ Q (.int (if i < 0 then -i else i)) H) gAbs := f_1I fun _ _ _ => .int _
theorem f_max2 : CallF K (fun xs H Q => ∃ i j, xs = [.int i, .int j] ∧ Q (.int (if j > i then j else i)) H) gMax2 := f_2I fun _ _ _ _ => .int _
theorem f_min2 : CallF K (fun xs H Q => ∃ i j, xs = [.int i, .int j] ∧ Q (.int (if j < i then j else i)) H) gMin2 := f_2I fun _ _ _ _ => .int _
def gInt1 : List W → Sto → Rz W := fun ws s => match ws with
  | [.int i] => some (.int i, s)
  | [.bl k] => some (.int (if k then 1 else 0), s)
  | _ => none
theorem f_int1 : CallF K (fun xs H Q => (∃ i, xs = [.int i] ∧ Q (.int i) H) ∨ ∃ k, xs = [.bl k] ∧ Q (.int (if k then 1 else 0)) H) gInt1 := by
  intro m H s ws vs Q S r h
  cases r with
  | nil => exact nopeE h
  | cons r1 r2 =>
    cases r2 with
    | cons _ _ => cases r1 <;> exact nopeE h
    | nil =>
      cases r1 with
      | int i => exact .inl ⟨i, rfl, h.val S _ (.int _)⟩
      | bl i => exact .inr ⟨i, rfl, h.val S _ (.int _)⟩
      | _ => exact nopeE h
def gStr1 : List W → Sto → Rz W := fun ws s => match ws with
  | [.int i] => if i.natAbs.log2 < 1920 then some (.str (toString i), s) else none
  | _ => none
theorem f_str1 : CallF K (fun xs H Q => ∃ i, xs = [.int i] ∧ i.natAbs.log2 < 1920 ∧ Q (.str (toString i)) H) gStr1 := by
  intro m H s ws vs Q S r h
  cases r with
  | nil => exact nopeE h
  | cons r1 r2 =>
    cases r2 with
    | cons _ _ => cases r1 <;> exact nopeE h
    | nil =>
      cases r1 with
      | int i =>
        by_cases q : i.natAbs.log2 < 1920
        · simp only [gStr1, q, if_true] at h
          exact ⟨i, rfl, q, h.val S _ (.str _)⟩
        · simp only [gStr1, q, if_false] at h; exact nopeE h
      | _ => exact nopeE h
/-! ### tuple(..), list(..) -/
def gTuple : List W → Sto → Rz W := fun ws s => match ws with
  | [.tup xs] => some (.tup xs, s)
  | [x] => match seqOf x s with
    | some xs => some (.tup xs, s)
    | none => none
  | _ => none
def gList : List W → Sto → Rz W := fun ws s => match ws with
  | [x] => match seqOf x s with
    | some xs => some (.ref s.length, s ++ [.lst xs])
    | none => none
  | _ => none
theorem f_tuple : CallF K (fun xs H Q => ∃ p ys, xs = [.ref p] ∧ ((SqL K H p ys ∧ ∀ l, H l = none → Q (.ref l) (upd H l (.tup ys))) ∨ (SqT K H p ys ∧ Q (.ref p) H))) gTuple := by
  intro m H s ws vs Q S r h
  cases r with
  | nil => exact nopeE h
  | @cons x v ws vs r1 r2 =>
    cases r2 with
    | cons _ _ => cases r1 <;> exact nopeE h
    | nil =>
      have lst : ∀ {p xs ys}, v = .ref p → SqL K H p ys → RL K m H xs ys → wE K m H (some (.tup xs, s)) Q → ∃ p ys, [v] = [.ref p] ∧ ((SqL K H p ys ∧ ∀ l, H l = none → Q (.ref l) (upd H l (.tup ys))) ∨ (SqT K H p ys ∧ Q (.ref p) H)) := fun {p xs ys} e hs r ⟨w, s', e2, q⟩ => by
        subst e
        cases e2
        exact ⟨p, ys, rfl, .inl ⟨hs, fun l hl => new_tup S r hl q⟩⟩
      cases r1 with
      | tup h1 h2 => exact ⟨_, _, rfl, .inr ⟨h1.sq, h.val S _ (.tup h1 h2)⟩⟩
      | lro h1 h2 => exact lst rfl h1.sq h2 h
      | @ref n a h1 =>
        cases en : s[n]? with
        | none => exact nopeE' h (by simp only [gTuple, seqOf, en])
        | some o =>
          cases o with
          | dct _ => exact nopeE' h (by simp only [gTuple, seqOf, en])
          | lst xs =>
            obtain ⟨a', h2, vs, h3, h4⟩ := S.at en
            rw [h1] at h2; cases h2
            refine lst rfl (SqL.of h3) h4 ?_
            have e : gTuple [.ref n] s = some (.tup xs, s) := by simp only [gTuple, seqOf, en]
            rw [e] at h
            exact h
      | _ => exact nopeE h
theorem f_list : CallF K (fun xs H Q => ∃ p ys, xs = [.ref p] ∧ (SqL K H p ys ∨ SqT K H p ys) ∧ ∀ l, H l = none → Q (.ref l) (upd H l (.lst ys))) gList := by
  intro m H s ws vs Q S r h
  cases r with
  | nil => exact nopeE h
  | @cons x v ws vs r1 r2 =>
    cases r2 with
    | cons _ _ => exact nopeE h
    | nil =>
      cases es : seqOf x s with
      | none => exact nopeE' h (by simp only [gList, es])
      | some xs =>
        simp only [gList, es] at h
        obtain ⟨p, ys, rfl, hs, r⟩ := seq_of S r1 es
        obtain ⟨w, s', e2, q⟩ := h
        cases e2
        exact ⟨p, ys, rfl, hs.symm, fun l hl => new_lst S r hl q⟩
/-! ### lists of scalars: sum, max, min, all, any -/
def intsOf : List W → Option (List Int)
  | [] => some []
  | .int i :: r => match intsOf r with
    | some is => some (i :: is)
    | none => none
  | _ => none
def blsOf : List W → Option (List Bool)
  | [] => some []
  | .bl i :: r => match blsOf r with
    | some is => some (i :: is)
    | none => none
  | _ => none
def strsOf : List W → Option (List Str)
  | [] => some []
  | .str i :: r => match strsOf r with
    | some is => some (i :: is)
    | none => none
  | _ => none
theorem ints_of {m : List Addr} {H : Hp} : ∀ {ws : List W} {vs : List V} {is : List Int}, RL K m H ws vs → intsOf ws = some is → vs = is.map V.int
  | [], vs, is, r, e => by cases r; cases e; rfl
  | w :: ws, vs, is, r, e => by
    cases r with
    | cons h1 h2 =>
      cases h1 with
      | int i =>
        simp only [intsOf] at e
        cases e2 : intsOf ws with
        | none => rw [e2] at e; cases e
        | some js => rw [e2] at e; cases e; rw [ints_of h2 e2]; rfl
      | _ => cases e
theorem bls_of {m : List Addr} {H : Hp} : ∀ {ws : List W} {vs : List V} {is : List Bool}, RL K m H ws vs → blsOf ws = some is → vs = is.map V.bl
  | [], vs, is, r, e => by cases r; cases e; rfl
  | w :: ws, vs, is, r, e => by
    cases r with
    | cons h1 h2 =>
      cases h1 with
      | bl i =>
        simp only [blsOf] at e
        cases e2 : blsOf ws with
        | none => rw [e2] at e; cases e
        | some js => rw [e2] at e; cases e; rw [bls_of h2 e2]; rfl
      | _ => cases e
theorem strs_of {m : List Addr} {H : Hp} : ∀ {ws : List W} {vs : List V} {is : List Str}, RL K m H ws vs → strsOf ws = some is → vs = is.map V.str
  | [], vs, is, r, e => by cases r; cases e; rfl
  | w :: ws, vs, is, r, e => by
    cases r with
    | cons h1 h2 =>
      cases h1 with
      | str i =>
        simp only [strsOf] at e
        cases e2 : strsOf ws with
        | none => rw [e2] at e; cases e
        | some js => rw [e2] at e; cases e; rw [strs_of h2 e2]; rfl
      | _ => cases e
/-- the items of a list (no tuple) -/
def lstOf (x : W) (s : Sto) : Option (List W) := match x with
  | .lro ws => some ws
  | .ref n => match s[n]? with
    | some (.lst ws) => some ws
    | _ => none
  | _ => none
theorem lst_of {m : List Addr} {H : Hp} {s : Sto} {x : W} {v : V} {ws : List W} (S : SR K m H s) (r : R K m H x v) (h : lstOf x s = some ws) : ∃ p vs, v = .ref p ∧ SqL K H p vs ∧ RL K m H ws vs := by
  cases r with
  | lro h1 h2 => cases h; exact ⟨_, _, rfl, h1.sq, h2⟩
  | @ref n a h1 =>
    cases e : s[n]? with
    | none => simp only [lstOf, e] at h; cases h
    | some o =>
      cases o with
      | dct _ => simp only [lstOf, e] at h; cases h
      | lst ws' =>
        simp only [lstOf, e] at h
        cases h
        obtain ⟨a', h2, vs, h3, h4⟩ := S.at e
        rw [h1] at h2
        cases h2
        exact ⟨_, _, rfl, SqL.of h3, h4⟩
  | _ => cases h
def gLB (f : List Bool → Bool) : List W → Sto → Rz W := fun ws s => match ws with
  | [x] => match lstOf x s with
    | some xs => match blsOf xs with
      | some bs => some (.bl (f bs), s)
      | none => none
    | none => none
  | _ => none
theorem f_LB {f : List Bool → Bool} : CallF K (fun vs H Q => ∃ (a : Addr) (bs : List Bool), vs = [V.ref a] ∧ SqL K H a (bs.map V.bl) ∧ Q (.bl (f bs)) H) (gLB f) := by
  intro m H s ws vs Q S r h
  cases r with
  | nil => exact nopeE h
  | @cons x v ws vs r1 r2 =>
    cases r2 with
    | cons _ _ => exact nopeE h
    | nil =>
      cases es : lstOf x s with
      | none => exact nopeE' h (by simp only [gLB, es])
      | some xs =>
        cases eb : blsOf xs with
        | none => exact nopeE' h (by simp only [gLB, es, eb])
        | some bs =>
          simp only [gLB, es, eb] at h
          obtain ⟨p, ys, rfl, hs, r⟩ := lst_of S r1 es
          rw [bls_of r eb] at hs
          exact ⟨p, bs, rfl, hs, h.val S _ (.bl _)⟩
abbrev gAll := gLB fun bs => bs.all id
abbrev gAny := gLB fun bs => bs.any id
theorem f_all : CallF K (rAll K) gAll := f_LB
theorem f_any : CallF K (rAny K) gAny := f_LB
def gSum : List W → Sto → Rz W := fun ws s => match ws with
  | [x] => match lstOf x s with
    | some xs => match intsOf xs with
      | some is => some (.int is.sum, s)
      | none => none
    | none => none
  | _ => none
theorem f_sum : CallF K (rSum K) gSum := by
  intro m H s ws vs Q S r h
  cases r with
  | nil => exact nopeE h
  | @cons x v ws vs r1 r2 =>
    cases r2 with
    | cons _ _ => exact nopeE h
    | nil =>
      cases es : lstOf x s with
      | none => exact nopeE' h (by simp only [gSum, es])
      | some xs =>
        cases eb : intsOf xs with
        | none => exact nopeE' h (by simp only [gSum, es, eb])
        | some bs =>
          simp only [gSum, es, eb] at h
          obtain ⟨p, ys, rfl, hs, r⟩ := lst_of S r1 es
          rw [ints_of r eb] at hs
          exact ⟨p, bs, rfl, hs, h.val S _ (.int _)⟩
def maxI : List Int → Int
  | [] => 0
  | x :: r => r.foldl (fun a b => if b > a then b else a) x
theorem foldl_max : ∀ (r : List Int) (x : Int), x ≤ r.foldl (fun a b => if b > a then b else a) x ∧ (r.foldl (fun a b => if b > a then b else a) x = x ∨ r.foldl (fun a b => if b > a then b else a) x ∈ r) ∧ ∀ y ∈ r, y ≤ r.foldl (fun a b => if b > a then b else a) x
  | [], x => ⟨Int.le_refl _, .inl rfl, fun _ h => by cases h⟩
  | z :: r, x => by
    obtain ⟨h1, h2, h3⟩ := foldl_max r (if z > x then z else x)
    rw [List.foldl_cons]
    have e : x ≤ (if z > x then z else x) ∧ z ≤ (if z > x then z else x) ∧ ((if z > x then z else x) = x ∨ (if z > x then z else x) = z) := by
      split <;> omega
    refine ⟨Int.le_trans e.1 h1, ?_, fun y hy => ?_⟩
    · rcases h2 with h2 | h2
      · rcases e.2.2 with q | q
        · left; rw [h2, q]
        · right; rw [h2, q]; exact List.mem_cons_self
      · exact .inr (List.mem_cons_of_mem _ h2)
    · rcases List.mem_cons.mp hy with rfl | hy
      · exact Int.le_trans e.2.1 h1
      · exact h3 y hy
theorem max_is {ns : List Int} (h : 0 < ns.length) : maxI ns ∈ ns ∧ ∀ y ∈ ns, y ≤ maxI ns := by
  cases ns with
  | nil => cases h
  | cons x r =>
    obtain ⟨h1, h2, h3⟩ := foldl_max r x
    refine ⟨?_, fun y hy => ?_⟩
    · show r.foldl _ x ∈ _
      rcases h2 with h2 | h2
      · rw [h2]; exact List.mem_cons_self
      · exact List.mem_cons_of_mem _ h2
    · rcases List.mem_cons.mp hy with rfl | hy
      · exact h1
      · exact h3 y hy
def gMaxL : List W → Sto → Rz W := fun ws s => match ws with
  | [x] => match lstOf x s with
    | some xs => match intsOf xs with
      | some is => if 0 < is.length then some (.int (maxI is), s) else none
      | none => none
    | none => none
  | _ => none
theorem f_maxL : CallF K (rMax K) gMaxL := by
  intro m H s ws vs Q S r h
  cases r with
  | nil => exact nopeE h
  | @cons x v ws vs r1 r2 =>
    cases r2 with
    | cons _ _ => exact nopeE h
    | nil =>
      cases es : lstOf x s with
      | none => exact nopeE' h (by simp only [gMaxL, es])
      | some xs =>
        cases eb : intsOf xs with
        | none => exact nopeE' h (by simp only [gMaxL, es, eb])
        | some bs =>
          by_cases hl : 0 < bs.length
          · simp only [gMaxL, es, eb, hl, if_true] at h
            obtain ⟨p, ys, rfl, hs, r⟩ := lst_of S r1 es
            rw [ints_of r eb] at hs
            refine ⟨p, bs, rfl, hs, hl, fun k h1 h2 => ?_⟩
            obtain ⟨q1, q2⟩ := max_is hl
            have e : k = maxI bs := Int.le_antisymm (q2 k h1) (h2 _ q1)
            rw [e]
            exact h.val S _ (.int _)
          · exact nopeE' h (by simp only [gMaxL, es, eb, hl, if_false])
/-! ### methods of lists -/
/-- the receiver is a list of the store -/
def isL (x : W) (s : Sto) : Bool := match x with
  | .ref n => match s[n]? with
    | some (.lst _) => true
    | _ => false
  | _ => false
theorem isL_ty {m : List Addr} {H : Hp} {s : Sto} {x : W} {v : V} (S : SR K m H s) (r : R K m H x v) (h : isL x s = true) : tyV K "list" v H := by
  cases r with
  | @ref n a h1 =>
    cases e : s[n]? with
    | none => simp only [isL, e] at h; cases h
    | some o =>
      cases o with
      | dct _ => simp only [isL, e] at h; cases h
      | lst ws =>
        obtain ⟨a', h2, vs, h3, h4⟩ := S.at e
        rw [h1] at h2; cases h2
        exact .inl ⟨rfl, vs, SqL.of h3⟩
  | _ => cases h
/-- what a method does to its list -/
def gLm (f : List W → List W → Sto → Option (W × List W)) : W → List W → Sto → Rz W := fun x as s => match x with
  | .ref n => match s[n]? with
    | some (.lst ws) => match f ws as s with
      | some (w, ws') => some (w, s.set n (.lst ws'))
      | none => none
    | _ => none
  | _ => none
theorem f_Lm {r : V → List V → Hp → VK → Prop} {f : List W → List W → Sto → Option (W × List W)}
    (h : ∀ m H s l (ws : List W) (vs : List V) as bs w ws' Q, SR K m H s → H l = some (.lst vs) → RL K m H ws vs → RL K m H as bs → f ws as s = some (w, ws') → (∀ z zs, (∀ m' H', Ext m H m' H' → R K m' H' w z) → (∀ m' H', Ext m H m' H' → RL K m' H' ws' zs) → Q z (upd H l (.lst zs))) → r (.ref l) bs H Q) : MtF K r (gLm f) := by
  intro m H s x v ws vs Q S rx rs hw
  cases rx with
  | @ref n a h1 =>
    cases e : s[n]? with
    | none => exact nopeE' hw (by simp only [gLm, e])
    | some o =>
      cases o with
      | dct _ => exact nopeE' hw (by simp only [gLm, e])
      | lst xs =>
        obtain ⟨a', h2, ys, h3, h4⟩ := S.at e
        rw [h1] at h2; cases h2
        cases ef : f xs ws s with
        | none => exact nopeE' hw (by simp only [gLm, e, ef])
        | some p =>
          obtain ⟨w, ws'⟩ := p
          simp only [gLm, e, ef] at hw
          obtain ⟨w2, s2, e2, q⟩ := hw
          cases e2
          refine h m H s a xs ys ws vs w ws' Q S h3 h4 rs ef fun z zs hz hzs => ?_
          have A := Adv.write S h1 (o := .lst zs)
          exact q m _ z A (S.write h1 ⟨zs, upd_same, hzs m _ A.ext⟩) (hz m _ A.ext)
  | _ => exact nopeE hw
def fAppend : List W → List W → Sto → Option (W × List W) := fun ws as _ => match as with
  | [x] => if ws.length ≤ 100000 then some (.non, ws ++ [x]) else none
  | _ => none
abbrev gAppend := gLm fAppend
theorem f_append : MtF K rAppend gAppend := f_Lm fun m H s l ws vs as bs w ws' Q S hl r ra e q => by
  cases ra with
  | nil => cases e
  | cons a1 a2 =>
    cases a2 with
    | cons _ _ => cases e
    | nil =>
      by_cases hz : ws.length ≤ 100000
      · simp only [fAppend, hz, if_true] at e
        cases e
        exact ⟨l, vs, _, rfl, rfl, hl, szt (by rw [r.len]; exact hz), q .non _ (fun _ _ _ => .non) fun _ _ E => (r.ext E).app (RL.one (a1.ext E))⟩
      · simp only [fAppend, hz, if_false] at e
        cases e
def fPop : List W → List W → Sto → Option (W × List W) := fun ws as _ => match as with
  | [] => match ws[ws.length - 1]? with
    | some x => some (x, ws.dropLast)
    | none => none
  | _ => none
abbrev gPop := gLm fPop
theorem f_pop : MtF K rPop gPop := f_Lm fun m H s l ws vs as bs w ws' Q S hl r ra e q => by
  cases ra with
  | cons a1 a2 => cases e
  | nil =>
    cases ex : ws[ws.length - 1]? with
    | none => simp only [fPop, ex] at e; cases e
    | some x =>
      simp only [fPop, ex] at e
      cases e
      obtain ⟨v, hv, rv⟩ := r.at ex
      exact ⟨l, vs, v, rfl, rfl, hl, by rw [r.len]; exact hv, q v _ (fun _ _ E => rv.ext E) fun _ _ E => (r.ext E).dropLast⟩
def fPopAt : List W → List W → Sto → Option (W × List W) := fun ws as _ => match as with
  | [.int i] => if -(2 ^ 63) ≤ i ∧ i < 2 ^ 63 then match seqIndex? i ws.length with
    | some k => match ws[k]? with
      | some x => some (x, ws.eraseIdx k)
      | none => none
    | none => none
    else none
  | _ => none
abbrev gPopAt := gLm fPopAt
theorem f_popAt : MtF K rPopAt gPopAt := f_Lm fun m H s l ws vs as bs w ws' Q S hl r ra e q => by
  cases ra with
  | nil => cases e
  | cons a1 a2 =>
    cases a2 with
    | cons _ _ => cases a1 <;> cases e
    | nil =>
      cases a1 with
      | int i =>
        by_cases hz : -(2 ^ 63) ≤ i ∧ i < 2 ^ 63
        · simp only [fPopAt, hz, and_self, if_true] at e
          cases ek : seqIndex? i ws.length with
          | none => simp only [ek] at e; cases e
          | some k =>
            simp only [ek] at e
            cases ex : ws[k]? with
            | none => simp only [ex] at e; cases e
            | some x =>
              simp only [ex] at e
              cases e
              obtain ⟨v, hv, rv⟩ := r.at ex
              exact ⟨l, vs, i, k, v, rfl, rfl, hl, hz.1, hz.2, by rw [r.len]; exact ek, hv, q v _ (fun _ _ E => rv.ext E) fun _ _ E => (r.ext E).erase k⟩
        · simp only [fPopAt, hz, if_false] at e
          cases e
      | _ => cases e
/-- extend by a list of the store or a tuple -/
def fExtend : List W → List W → Sto → Option (W × List W) := fun ws as s => match as with
  | [.tup xs] => if ws.length + xs.length ≤ 100000 then some (.non, ws ++ xs) else none
  | [.ref k] => match s[k]? with
    | some (.lst xs) => if ws.length + xs.length ≤ 100000 then some (.non, ws ++ xs) else none
    | _ => none
  | _ => none
abbrev gExtend := gLm fExtend
def rExtA (K : PySem.W.Frag) : V → List V → Hp → VK → Prop := fun x vs H Q => rExtend x vs H Q ∨ Vr.rExtT K x vs H Q
theorem f_extend : MtF K (rExtA K) gExtend := f_Lm fun m H s l ws vs as bs w ws' Q S hl r ra e q => by
  cases ra with
  | nil => cases e
  | cons a1 a2 =>
    cases a2 with
    | cons _ _ => cases a1 <;> cases e
    | nil =>
      cases a1 with
      | @tup p ys xs h1 h2 =>
        by_cases hz : ws.length + xs.length ≤ 100000
        · simp only [fExtend, hz, if_true] at e
          cases e
          exact .inr ⟨l, p, vs, ys, rfl, rfl, hl, h1.sq, szl (by rw [r.len, h2.len]; exact hz), q .non _ (fun _ _ _ => .non) fun _ _ E => (r.ext E).app (h2.ext E)⟩
        · simp only [fExtend, hz, if_false] at e
          cases e
      | @ref k b h1 =>
        cases ek : s[k]? with
        | none => simp only [fExtend, ek] at e; cases e
        | some o =>
          cases o with
          | dct _ => simp only [fExtend, ek] at e; cases e
          | lst xs =>
            simp only [fExtend, ek] at e
            by_cases hz : ws.length + xs.length ≤ 100000
            · simp only [hz, if_true] at e
              cases e
              obtain ⟨b', h2, ys, h3, h4⟩ := S.at ek
              rw [h1] at h2; cases h2
              exact .inl ⟨l, b, vs, ys, rfl, rfl, hl, h3, szl (by rw [r.len, h4.len]; exact hz), q .non _ (fun _ _ _ => .non) fun _ _ E => (r.ext E).app (h4.ext E)⟩
            · simp only [hz, if_false] at e
              cases e
      | _ => cases e
end
section
variable {X : Cx} {e o : Expr} {es : List Expr}
theorem m_bm {T id : String} {name : Str} {apos cpos : Pos} {r : V → List V → Hp → VK → Prop} {c : W → Sto → Bool} {g : W → List W → Sto → Rz W} {f : FE} {fa : FA} (pa : PlainAttrs T) (slot : Slot T name id) (hty : typeOf (.builtin id) = pure (.type "method_descriptor")) (hm : MtR X id r)
    (hc : ∀ m H s x v, SR X.K m H s → R X.K m H x v → c x s = true → tyV X.K T v H) (hg : MtF X.K r g) (ho : PE X o (tF X.K f)) (ha : PA X (e :: es) (tA X.K fa))
    (hbase : attributeBase o name X.env (eval o X.env) = eval o X.env := by rfl)
    (hfew : ((backTo cpos (starEach (e :: es) X.env)).all (fun x => !x.1) && (backToKw cpos (keywordEach [] X.env)).all (fun x => x.1.isSome)
      && decide ((e :: es).length + ([] : List Keyword).length + (if ([] : List Keyword).isEmpty then 0 else 1) < 30)) = true := by rfl)
    (hline : (apos.endLine == cpos.line) = true := by rfl) (hs : starEach (e :: es) X.env = (false, eval e X.env) :: starEach es X.env := by rfl) (hplain : (backTo cpos (starEach es X.env)).any (·.1) = false := by rfl) :
    PE X (.Call (.Attribute o name apos) (e :: es) [] cpos) (tF X.K (eMt c g f fa)) :=
  (pe_bm pa slot hty hm ho ha hbase hfew hline hs hplain).imp fun σ H Q ⟨m, ρ, s, er, sr, w, s', e, q⟩ => by
    obtain ⟨x, s1, e1, e⟩ := bd_inv e
    split at e
    · rename_i hcx
      obtain ⟨xs, s2, e2, e⟩ := bd_inv e
      exact ⟨m, ρ, s, er, sr, x, s1, e1, fun m1 H1 v A1 S1 r1 => ⟨hc m1 H1 s1 x v S1 r1 hcx, m1, ρ, s1, er.adv A1, S1, xs, s2, e2, fun m2 H2 vs A2 S2 r2 => hg m2 H2 s2 x v xs vs Q S2 (r1.adv A2) r2 ⟨w, s', e, fun m3 H3 z A3 => q m3 H3 z ((A1.trans A2).trans A3)⟩⟩⟩
    · cases e
theorem m_bm0 {T id : String} {name : Str} {apos cpos : Pos} {r : V → List V → Hp → VK → Prop} {c : W → Sto → Bool} {g : W → List W → Sto → Rz W} {f : FE} (pa : PlainAttrs T) (slot : Slot T name id) (hty : typeOf (.builtin id) = pure (.type "method_descriptor")) (hm : MtR X id r)
    (hc : ∀ m H s x v, SR X.K m H s → R X.K m H x v → c x s = true → tyV X.K T v H) (hg : MtF X.K r g) (ho : PE X o (tF X.K f))
    (hbase : attributeBase o name X.env (eval o X.env) = eval o X.env := by rfl) (hline : (apos.endLine == cpos.line) = true := by rfl) : PE X (.Call (.Attribute o name apos) [] [] cpos) (tF X.K (eMt c g f aNil)) :=
  (pe_bm0 pa slot hty hm ho hbase hline).imp fun σ H Q ⟨m, ρ, s, er, sr, w, s', e, q⟩ => by
    obtain ⟨x, s1, e1, e⟩ := bd_inv e
    split at e
    · rename_i hcx
      exact ⟨m, ρ, s, er, sr, x, s1, e1, fun m1 H1 v A1 S1 r1 => ⟨hc m1 H1 s1 x v S1 r1 hcx, hg m1 H1 s1 x v [] [] Q S1 r1 .nil ⟨w, s', e, fun m3 H3 z A3 => q m3 H3 z (A1.trans A3)⟩⟩⟩
    · cases e
theorem m_append {f : FE} {fa : FA} {apos cpos : Pos} (ho : PE X o (tF X.K f)) (ha : PA X [e] (tA X.K fa)) (hbase : attributeBase o "append" X.env (eval o X.env) = eval o X.env := by rfl)
    (hfew : ((backTo cpos (starEach [e] X.env)).all (fun x => !x.1) && (backToKw cpos (keywordEach [] X.env)).all (fun x => x.1.isSome)
      && decide ([e].length + ([] : List Keyword).length + (if ([] : List Keyword).isEmpty then 0 else 1) < 30)) = true := by rfl)
    (hline : (apos.endLine == cpos.line) = true := by rfl) (hs : starEach [e] X.env = (false, eval e X.env) :: starEach [] X.env := by rfl) (hplain : (backTo cpos (starEach [] X.env)).any (·.1) = false := by rfl) :
    PE X (.Call (.Attribute o "append" apos) [e] [] cpos) (tF X.K (eMt isL gAppend f fa)) :=
  m_bm PySem.F.plainAttrs_list PySem.F.slot_list_append PySem.F.type_list_append mt_append (fun _ _ _ _ _ S r h => isL_ty S r h) f_append ho ha hbase hfew hline hs hplain
theorem m_extend {f : FE} {fa : FA} {apos cpos : Pos} (ho : PE X o (tF X.K f)) (ha : PA X [e] (tA X.K fa)) (hbase : attributeBase o "extend" X.env (eval o X.env) = eval o X.env := by rfl)
    (hfew : ((backTo cpos (starEach [e] X.env)).all (fun x => !x.1) && (backToKw cpos (keywordEach [] X.env)).all (fun x => x.1.isSome)
      && decide ([e].length + ([] : List Keyword).length + (if ([] : List Keyword).isEmpty then 0 else 1) < 30)) = true := by rfl)
    (hline : (apos.endLine == cpos.line) = true := by rfl) (hs : starEach [e] X.env = (false, eval e X.env) :: starEach [] X.env := by rfl) (hplain : (backTo cpos (starEach [] X.env)).any (·.1) = false := by rfl) :
    PE X (.Call (.Attribute o "extend" apos) [e] [] cpos) (tF X.K (eMt isL gExtend f fa)) :=
  m_bm PySem.F.plainAttrs_list PySem.F.slot_list_extend PySem.F.type_list_extend (MtR.or (show MtR X "list.extend" rExtend from mt_extend) Vr.mt_extendT) (fun _ _ _ _ _ S r h => isL_ty S r h) f_extend ho ha hbase hfew hline hs hplain
theorem m_pop {f : FE} {apos cpos : Pos} (ho : PE X o (tF X.K f)) (hbase : attributeBase o "pop" X.env (eval o X.env) = eval o X.env := by rfl) (hline : (apos.endLine == cpos.line) = true := by rfl) :
    PE X (.Call (.Attribute o "pop" apos) [] [] cpos) (tF X.K (eMt isL gPop f aNil)) :=
  m_bm0 PySem.F.plainAttrs_list PySem.F.slot_list_pop PySem.F.type_list_pop mt_pop (fun _ _ _ _ _ S r h => isL_ty S r h) f_pop ho hbase hline
theorem m_popAt {f : FE} {fa : FA} {apos cpos : Pos} (ho : PE X o (tF X.K f)) (ha : PA X [e] (tA X.K fa)) (hbase : attributeBase o "pop" X.env (eval o X.env) = eval o X.env := by rfl)
    (hfew : ((backTo cpos (starEach [e] X.env)).all (fun x => !x.1) && (backToKw cpos (keywordEach [] X.env)).all (fun x => x.1.isSome)
      && decide ([e].length + ([] : List Keyword).length + (if ([] : List Keyword).isEmpty then 0 else 1) < 30)) = true := by rfl)
    (hline : (apos.endLine == cpos.line) = true := by rfl) (hs : starEach [e] X.env = (false, eval e X.env) :: starEach [] X.env := by rfl) (hplain : (backTo cpos (starEach [] X.env)).any (·.1) = false := by rfl) :
    PE X (.Call (.Attribute o "pop" apos) [e] [] cpos) (tF X.K (eMt isL gPopAt f fa)) :=
  m_bm PySem.F.plainAttrs_list PySem.F.slot_list_pop PySem.F.type_list_pop mt_popAt (fun _ _ _ _ _ S r h => isL_ty S r h) f_popAt ho ha hbase hfew hline hs hplain
end
end Mir

set_option Elab.async false
set_option linter.all false
set_option maxRecDepth 100000
namespace Mir
open PySem PySem.Spec PyProof.Rows L2
theorem _root_.L2.PI.or {X : Cx} {tg iter : Expr} {t u : TI} (h1 : PI X tg iter t) (h2 : PI X tg iter u) : PI X tg iter (fun σ H R => t σ H R ∨ u σ H R) := ⟨fun pins s σ H R I h => h.elim (h1.run pins s σ H R I) (h2.run pins s σ H R I)⟩
section
variable {K : PySem.W.Frag} {m : List Addr} {H : Hp}
/-- what has to stay while x is walked -/
def chkOf (x : W) (ws : List W) : Option (Nat × List W) := match x with
  | .ref n => some (n, ws)
  | _ => none
theorem list_stay {s s' : Sto} {m' : List Addr} {H' : Hp} {x : W} {a : Addr} {ws : List W} (r : R K m H x (.ref a)) (h : lstOf x s = some ws) (A : Adv m H m' H') (S : SR K m' H' s') (c : okc (chkOf x ws) s') : ∃ vs, SqL K H' a vs ∧ RL K m' H' ws vs := by
  cases r with
  | tup => cases h
  | lro h1 h2 => cases h; exact ⟨_, (h1.ext A.ext).sq, h2.adv A⟩
  | @ref n a h1 =>
    obtain ⟨a', h2, vs, h3, h4⟩ := S.at (show s'[n]? = some (.lst ws) from c)
    rw [A.get h1] at h2; cases h2
    exact ⟨vs, SqL.of h3, h4⟩
theorem tup_stay {m' : List Addr} {H' : Hp} {a : Addr} {ws : List W} (r : R K m H (.tup ws) (.ref a)) (A : Adv m H m' H') : ∃ vs, SqT K H' a vs ∧ RL K m' H' ws vs := by
  cases r with
  | tup h1 h2 => exact ⟨_, (h1.ext A.ext).sq, h2.adv A⟩
theorem it_list {s : Sto} {x : W} {a : Addr} {ws : List W} (r : R K m H x (.ref a)) (h : lstOf x s = some ws) : ItOk K (Itl K a) m H ws (chkOf x ws) where
  go := fun m' H' s' i w A S c hi => by
    obtain ⟨vs, q, rl⟩ := list_stay r h A S c
    obtain ⟨v, hv, rv⟩ := rl.at hi
    refine ⟨⟨vs, v, q, hv⟩, fun v' H2 y => ?_⟩
    obtain ⟨rfl, y⟩ := y
    have e := y vs q
    rw [hv] at e; cases e
    exact ⟨m', Adv.refl _ _, S, rv⟩
  stop := fun m' H' s' A S c => by
    obtain ⟨vs, q, rl⟩ := list_stay r h A S c
    exact ⟨vs, q, by rw [rl.len]; exact Nat.le_refl _⟩
theorem it_tup {a : Addr} {ws : List W} (r : R K m H (.tup ws) (.ref a)) : ItOk K (Itt K a) m H ws none where
  go := fun m' H' s' i w A S c hi => by
    obtain ⟨vs, q, rl⟩ := tup_stay r A
    obtain ⟨v, hv, rv⟩ := rl.at hi
    refine ⟨⟨vs, v, q, hv⟩, fun v' H2 y => ?_⟩
    obtain ⟨rfl, y⟩ := y
    have e := y vs q
    rw [hv] at e; cases e
    exact ⟨m', Adv.refl _ _, S, rv⟩
  stop := fun m' H' s' A S c => by
    obtain ⟨vs, q, rl⟩ := tup_stay r A
    exact ⟨vs, q, by rw [rl.len]; exact Nat.le_refl _⟩
theorem it_rng {lo : Int} {n : Nat} : ItOk K (Itr lo n) m H ((List.range n).map fun (i : Nat) => W.int (lo + (i : Int))) none where
  go := fun m' H' s' i w A S c hi => by
    rw [List.getElem?_map] at hi
    cases e : (List.range n)[i]? with
    | none => rw [e] at hi; cases hi
    | some j =>
      rw [e] at hi
      cases hi
      obtain ⟨h1, h2⟩ := List.getElem?_eq_some_iff.mp e
      rw [List.getElem_range] at h2
      subst h2
      rw [List.length_range] at h1
      refine ⟨h1, fun v' H2 y => ?_⟩
      obtain ⟨rfl, rfl⟩ := y
      exact ⟨m', Adv.refl _ _, S, .int _⟩
  stop := fun m' H' s' A S c => by
    show n ≤ _
    rw [List.length_map, List.length_range]
    exact Nat.le_refl _
/-- pairs with their number -/
def enumW (ws : List W) : List W := ws.zipIdx.map fun p => W.tup [.int (p.2 : Int), p.1]
theorem enum_at {ws : List W} {i : Nat} {w : W} (h : (enumW ws)[i]? = some w) : ∃ x, ws[i]? = some x ∧ w = .tup [.int (i : Int), x] := by
  unfold enumW at h
  rw [List.getElem?_map, List.getElem?_zipIdx] at h
  cases e : ws[i]? with
  | none => rw [e] at h; cases h
  | some x =>
    rw [e] at h
    cases h
    exact ⟨x, rfl, by simp⟩
theorem enum_len (ws : List W) : (enumW ws).length = ws.length := by unfold enumW; rw [List.length_map, List.length_zipIdx]
theorem new_pair {s : Sto} {w1 w2 : W} {v1 v2 : V} {T : Addr} (S : SR K m H s) (r1 : R K m H w1 v1) (r2 : R K m H w2 v2) (hT : H T = none) : ∃ m', Adv m H m' (upd H T (.tup [v1, v2])) ∧ SR K m' (upd H T (.tup [v1, v2])) s ∧ R K m' (upd H T (.tup [v1, v2])) (.tup [w1, w2]) (.ref T) :=
  ⟨m, Adv.fresh hT, S.fresh hT, .tup (.inl upd_same) (.cons (r1.adv (Adv.fresh hT)) (.cons (r2.adv (Adv.fresh hT)) .nil))⟩
theorem it_enumL {s : Sto} {x : W} {a : Addr} {ws : List W} (r : R K m H x (.ref a)) (h : lstOf x s = some ws) : ItOk K (Ite K a) m H (enumW ws) (chkOf x ws) where
  go := fun m' H' s' i w A S c hi => by
    obtain ⟨x, hx, rfl⟩ := enum_at hi
    obtain ⟨vs, q, rl⟩ := list_stay r h A S c
    obtain ⟨v, hv, rv⟩ := rl.at hx
    refine ⟨⟨vs, v, q, hv⟩, fun v' H2 y => ?_⟩
    obtain ⟨T, x', rfl, hT, rfl, y⟩ := y
    have e := y vs q
    rw [hv] at e; cases e
    exact new_pair S (.int _) rv hT
  stop := fun m' H' s' A S c => by
    obtain ⟨vs, q, rl⟩ := list_stay r h A S c
    exact ⟨vs, q, by rw [rl.len, enum_len]; exact Nat.le_refl _⟩
theorem it_enumT {a : Addr} {ws : List W} (r : R K m H (.tup ws) (.ref a)) : ItOk K (Vr.IteT K a) m H (enumW ws) none where
  go := fun m' H' s' i w A S c hi => by
    obtain ⟨x, hx, rfl⟩ := enum_at hi
    obtain ⟨vs, q, rl⟩ := tup_stay r A
    obtain ⟨v, hv, rv⟩ := rl.at hx
    refine ⟨⟨vs, v, q, hv⟩, fun v' H2 y => ?_⟩
    obtain ⟨T, x', rfl, hT, rfl, y⟩ := y
    have e := y vs q
    rw [hv] at e; cases e
    exact new_pair S (.int _) rv hT
  stop := fun m' H' s' A S c => by
    obtain ⟨vs, q, rl⟩ := tup_stay r A
    exact ⟨vs, q, by rw [rl.len, enum_len]; exact Nat.le_refl _⟩
def zipW (ws us : List W) : List W := List.zipWith (fun a b => W.tup [a, b]) ws us
theorem zip_at {ws us : List W} {i : Nat} {w : W} (h : (zipW ws us)[i]? = some w) : ∃ x y, ws[i]? = some x ∧ us[i]? = some y ∧ w = .tup [x, y] := by
  unfold zipW at h
  rw [List.getElem?_zipWith] at h
  cases e1 : ws[i]? with
  | none => rw [e1] at h; cases h
  | some x =>
    cases e2 : us[i]? with
    | none => rw [e1, e2] at h; cases h
    | some y =>
      rw [e1, e2] at h
      cases h
      exact ⟨x, y, rfl, rfl, rfl⟩
theorem zip_len (ws us : List W) : ws.length ≤ (zipW ws us).length ∨ us.length ≤ (zipW ws us).length := by
  unfold zipW
  rw [List.length_zipWith]
  omega
theorem it_zipT {a b : Addr} {ws us : List W} (r : R K m H (.tup ws) (.ref a)) (r' : R K m H (.tup us) (.ref b)) : ItOk K (RZ.ItzT K a b) m H (zipW ws us) none where
  go := fun m' H' s' i w A S c hi => by
    obtain ⟨x, y, hx, hy, rfl⟩ := zip_at hi
    obtain ⟨vs, q, rl⟩ := tup_stay r A
    obtain ⟨vs', q', rl'⟩ := tup_stay r' A
    obtain ⟨v, hv, rv⟩ := rl.at hx
    obtain ⟨v', hv', rv'⟩ := rl'.at hy
    refine ⟨⟨vs, vs', v, v', q, q', hv, hv'⟩, fun v2 H2 z => ?_⟩
    obtain ⟨T, x', y', rfl, hT, rfl, z1, z2⟩ := z
    have e := z1 vs q
    rw [hv] at e; cases e
    have e := z2 vs' q'
    rw [hv'] at e; cases e
    exact new_pair S rv rv' hT
  stop := fun m' H' s' A S c => by
    obtain ⟨vs, q, rl⟩ := tup_stay r A
    obtain ⟨vs', q', rl'⟩ := tup_stay r' A
    exact ⟨vs, vs', q, q', by rw [rl.len, rl'.len]; exact zip_len ws us⟩
theorem it_zipL {s : Sto} {x y : W} {a b : Addr} {ws us : List W} (r : R K m H x (.ref a)) (r' : R K m H y (.ref b)) (h : lstOf x s = some ws) (h' : lstOf y s = some us) (hn : chkOf x ws = none ∨ chkOf y us = none ∨ chkOf x ws = chkOf y us) : ItOk K (Itz K a b) m H (zipW ws us) (if (chkOf x ws).isSome then chkOf x ws else chkOf y us) := by
  have cc : ∀ s', okc (if (chkOf x ws).isSome then chkOf x ws else chkOf y us) s' → okc (chkOf x ws) s' ∧ okc (chkOf y us) s' := fun s' c => by
    rcases hn with e | e | e
    · rw [e] at c ⊢; exact ⟨trivial, c⟩
    · rw [e] at c ⊢
      cases q : chkOf x ws with
      | none => exact ⟨trivial, trivial⟩
      | some p => rw [q] at c; exact ⟨c, trivial⟩
    · rw [e] at c ⊢
      have c : okc (chkOf y us) s' := by split at c <;> exact c
      exact ⟨c, c⟩
  refine ⟨fun m' H' s' i w A S c hi => ?_, fun m' H' s' A S c => ?_⟩
  · obtain ⟨c1, c2⟩ := cc s' c
    obtain ⟨x, y, hx, hy, rfl⟩ := zip_at hi
    obtain ⟨vs, q, rl⟩ := list_stay r h A S c1
    obtain ⟨vs', q', rl'⟩ := list_stay r' h' A S c2
    obtain ⟨v, hv, rv⟩ := rl.at hx
    obtain ⟨v', hv', rv'⟩ := rl'.at hy
    refine ⟨⟨vs, vs', v, v', q, q', hv, hv'⟩, fun v2 H2 z => ?_⟩
    obtain ⟨T, x', y', rfl, hT, rfl, z1, z2⟩ := z
    have e := z1 vs q
    rw [hv] at e; cases e
    have e := z2 vs' q'
    rw [hv'] at e; cases e
    exact new_pair S rv rv' hT
  · obtain ⟨c1, c2⟩ := cc s' c
    obtain ⟨vs, q, rl⟩ := list_stay r h A S c1
    obtain ⟨vs', q', rl'⟩ := list_stay r' h' A S c2
    exact ⟨vs, vs', q, q', by rw [rl.len, rl'.len]; exact zip_len ws us⟩
theorem rev_at {ws : List W} {i : Nat} {w : W} (h : ws.reverse[i]? = some w) : i < ws.length ∧ ws[ws.length - 1 - i]? = some w := by
  have hi := (List.getElem?_eq_some_iff.mp h).1
  rw [List.length_reverse] at hi
  rw [List.getElem?_reverse hi] at h
  exact ⟨hi, h⟩
theorem it_revT {a : Addr} {ws : List W} (r : R K m H (.tup ws) (.ref a)) : ItOk K (RT.ItvT K a ws.length) m H ws.reverse none where
  go := fun m' H' s' i w A S c hi => by
    obtain ⟨hl, hx⟩ := rev_at hi
    obtain ⟨vs, q, rl⟩ := tup_stay r A
    obtain ⟨v, hv, rv⟩ := rl.at hx
    refine ⟨⟨hl, vs, v, q, hv⟩, fun v' H2 y => ?_⟩
    obtain ⟨rfl, y⟩ := y
    have e := y vs q
    rw [hv] at e; cases e
    exact ⟨m', Adv.refl _ _, S, rv⟩
  stop := fun m' H' s' A S c => by
    show _ ≤ _
    rw [List.length_reverse]
    exact Nat.le_refl _
theorem it_revL {s : Sto} {x : W} {a : Addr} {ws : List W} (r : R K m H x (.ref a)) (h : lstOf x s = some ws) : ItOk K (Itv K a ws.length) m H ws.reverse (chkOf x ws) where
  go := fun m' H' s' i w A S c hi => by
    obtain ⟨hl, hx⟩ := rev_at hi
    obtain ⟨vs, q, rl⟩ := list_stay r h A S c
    obtain ⟨v, hv, rv⟩ := rl.at hx
    refine ⟨⟨hl, vs, v, q, hv⟩, fun v' H2 y => ?_⟩
    obtain ⟨rfl, y⟩ := y
    have e := y vs q
    rw [hv] at e; cases e
    exact ⟨m', Adv.refl _ _, S, rv⟩
  stop := fun m' H' s' A S c => by
    show _ ≤ _
    rw [List.length_reverse]
    exact Nat.le_refl _
/-- the signs of a text -/
def signsW (z : Str) : List W := z.cps.toList.map fun c => W.str ⟨#[c]⟩
theorem it_str {z : Str} : ItOk K (Its z) m H (signsW z) none where
  go := fun m' H' s' i w A S c hi => by
    unfold signsW at hi
    rw [List.getElem?_map] at hi
    cases e : z.cps.toList[i]? with
    | none => rw [e] at hi; cases hi
    | some cc =>
      rw [e] at hi
      cases hi
      have hl : i < z.cps.size := by simpa using (List.getElem?_eq_some_iff.mp e).1
      refine ⟨hl, fun v' H2 y => ?_⟩
      obtain ⟨rfl, c2, hc2, rfl⟩ := y
      have e2 : z.cps[i]? = some cc := by simpa using e
      rw [e2] at hc2; cases hc2
      exact ⟨m', Adv.refl _ _, S, .str _⟩
  stop := fun m' H' s' A S c => by
    show _ ≤ _
    unfold signsW
    rw [List.length_map]
    simp
end
/-! ### what stands behind «in» of a for -/
def iSeq (f : FE) : FI := fun ρ s => bd (f ρ s) fun x s1 => match x with
  | .tup ws => some ((ws, none), s1)
  | .str z => some ((signsW z, none), s1)
  | x => match lstOf x s1 with
    | some ws => some ((ws, chkOf x ws), s1)
    | none => none
def iEnu (f : FE) : FI := fun ρ s => bd (f ρ s) fun x s1 => match x with
  | .tup ws => some ((enumW ws, none), s1)
  | x => match lstOf x s1 with
    | some ws => some ((enumW ws, chkOf x ws), s1)
    | none => none
def iRev (f : FE) : FI := fun ρ s => bd (f ρ s) fun x s1 => match x with
  | .tup ws => some ((ws.reverse, none), s1)
  | x => match lstOf x s1 with
    | some ws => some ((ws.reverse, chkOf x ws), s1)
    | none => none
open Classical in
noncomputable def iZip (f g : FE) : FI := fun ρ s => bd (f ρ s) fun x s1 => bd (g ρ s1) fun y s2 => match x, y with
  | .tup ws, .tup us => some ((zipW ws us, none), s2)
  | x, y => match lstOf x s2, lstOf y s2 with
    | some ws, some us => if chkOf x ws = none ∨ chkOf y us = none ∨ chkOf x ws = chkOf y us then some ((zipW ws us, if (chkOf x ws).isSome then chkOf x ws else chkOf y us), s2) else none
    | _, _ => none
def iRng1 (f : FE) : FI := fun ρ s => bd (f ρ s) fun x s1 => match x with
  | .int j => if -(2 ^ 62) ≤ j ∧ j < 2 ^ 62 then some (((List.range j.toNat).map fun (i : Nat) => W.int (0 + (i : Int)), none), s1) else none
  | _ => none
def iRng2 (f g : FE) : FI := fun ρ s => bd (f ρ s) fun x s1 => bd (g ρ s1) fun y s2 => match x, y with
  | .int i, .int j => if -(2 ^ 62) ≤ i ∧ i < 2 ^ 62 ∧ -(2 ^ 62) ≤ j ∧ j < 2 ^ 62 then some (((List.range (j - i).toNat).map fun (k : Nat) => W.int (i + (k : Int)), none), s2) else none
  | _, _ => none
section
variable {X : Cx} {tg e e2 : Expr} {pos : Pos}
theorem seq_tI {f : FE} : ∀ σ H R, tI X.K (iSeq f) σ H R → (iList X.K (tF X.K f) σ H R ∨ iTup X.K (tF X.K f) σ H R) ∨ iStr (tF X.K f) σ H R := by
  rintro σ H R' ⟨m, ρ, s, er, sr, xs, c, s', e, q⟩
  obtain ⟨x, s1, e1, e⟩ := bd_inv e
  have lst : ∀ {ws}, lstOf x s1 = some ws → some ((ws, chkOf x ws), s1) = some ((xs, c), s') → iList X.K (tF X.K f) σ H R' := fun {ws} hl e => by
    cases e
    refine ⟨m, ρ, s, er, sr, x, _, e1, fun m1 H1 v A1 S1 r1 => ?_⟩
    obtain ⟨p, vs, rfl, h1, h2⟩ := lst_of S1 r1 hl
    exact ⟨p, rfl, ⟨vs, h1⟩, q m1 H1 _ A1 S1 (it_list r1 hl)⟩
  cases x with
  | tup ws =>
    cases e
    refine .inl (.inr ⟨m, ρ, s, er, sr, _, _, e1, fun m1 H1 v A1 S1 r1 => ?_⟩)
    have r1' := r1
    cases r1 with
    | tup h1 h2 => exact ⟨_, rfl, ⟨_, h1.sq⟩, q m1 H1 _ A1 S1 (it_tup r1')⟩
  | str z =>
    cases e
    refine .inr ⟨m, ρ, s, er, sr, _, _, e1, fun m1 H1 v A1 S1 r1 => ?_⟩
    cases r1
    exact ⟨z, rfl, q m1 H1 _ A1 S1 it_str⟩
  | ref n =>
    cases hl : lstOf (.ref n) s1 with
    | none => simp only [hl] at e; cases e
    | some ws => simp only [hl] at e; exact .inl (.inl (lst hl e))
  | lro ws' =>
    cases hl : lstOf (.lro ws') s1 with
    | none => simp only [hl] at e; cases e
    | some ws => simp only [hl] at e; exact .inl (.inl (lst hl e))
  | _ => cases e
theorem mi_seq {f : FE} (h : PE X e (tF X.K f)) : PI X tg e (tI X.K (iSeq f)) := (((pi_list h).or (pi_tup h)).or (pi_str h)).imp seq_tI
theorem mi_enum {p tpos : Pos} {elts : List Expr} {kk : Nat} {f : FE} (hg : Gl X "enumerate") (hm : X.mg "enumerate" = none) (h : PE X e (tF X.K f)) (hs1 : starEach [e] X.env = (false, eval e X.env) :: starEach [] X.env := by rfl) (hs : starEach [e] X.env = [(false, eval e X.env)] := by rfl) :
    PI X (.Tuple elts kk tpos) (.Call (.Name "enumerate" p) [e] [] pos) (tI X.K (iEnu f)) :=
  ((pi_enum hg hm (ma_cons h ma_nil hs1) hs).or (Vr.pi_enumT hg hm (ma_cons h ma_nil hs1) hs)).imp fun σ H R' ⟨m, ρ, s, er, sr, xs, c, s', e, q⟩ => by
    obtain ⟨x, s1, e1, e⟩ := bd_inv e
    have ea : aCons f aNil ρ s = some ([x], s1) := by unfold aCons; rw [e1]; rfl
    have lst : ∀ {ws}, lstOf x s1 = some ws → some ((enumW ws, chkOf x ws), s1) = some ((xs, c), s') → iEnum X.K (tA X.K (aCons f aNil)) σ H R' := fun {ws} hl e => by
      cases e
      refine ⟨m, ρ, s, er, sr, [x], _, ea, fun m1 H1 v A1 S1 r1 => ?_⟩
      cases r1 with
      | cons r1 r2 =>
        cases r2
        obtain ⟨p, vs, rfl, h1, h2⟩ := lst_of S1 r1 hl
        exact ⟨p, vs, rfl, h1, q m1 H1 _ A1 S1 (it_enumL r1 hl)⟩
    cases x with
    | tup ws =>
      cases e
      refine .inr ⟨m, ρ, s, er, sr, _, _, ea, fun m1 H1 v A1 S1 r1 => ?_⟩
      cases r1 with
      | cons r1 r2 =>
        cases r2
        have r1' := r1
        cases r1 with
        | tup h1 h2 => exact ⟨_, _, rfl, h1.sq, q m1 H1 _ A1 S1 (it_enumT r1')⟩
    | ref n =>
      cases hl : lstOf (.ref n) s1 with
      | none => simp only [hl] at e; cases e
      | some ws => simp only [hl] at e; exact .inl (lst hl e)
    | lro ws' =>
      cases hl : lstOf (.lro ws') s1 with
      | none => simp only [hl] at e; cases e
      | some ws => simp only [hl] at e; exact .inl (lst hl e)
    | _ => cases e
theorem mi_rev {p : Pos} {f : FE} (hg : Gl X "reversed") (hm : X.mg "reversed" = none) (h : PE X e (tF X.K f)) (hs1 : starEach [e] X.env = (false, eval e X.env) :: starEach [] X.env := by rfl) :
    PI X tg (.Call (.Name "reversed" p) [e] [] pos) (tI X.K (iRev f)) :=
  (RT.pi_revA hg hm h hs1).imp fun σ H R' ⟨m, ρ, s, er, sr, xs, c, s', e, q⟩ => by
    obtain ⟨x, s1, e1, e⟩ := bd_inv e
    refine ⟨m, ρ, s, er, sr, x, s1, e1, fun m1 H1 v A1 S1 r1 => ?_⟩
    have lst : ∀ {ws}, lstOf x s1 = some ws → some ((ws.reverse, chkOf x ws), s1) = some ((xs, c), s') → ∃ (a : Addr) (xs : List V), v = .ref a ∧ ((SqL X.K H1 a xs ∧ R' (Itv X.K a xs.length) H1) ∨ (SqT X.K H1 a xs ∧ R' (RT.ItvT X.K a xs.length) H1)) := fun {ws} hl e => by
      cases e
      obtain ⟨p, vs, rfl, h1, h2⟩ := lst_of S1 r1 hl
      refine ⟨p, vs, rfl, .inl ⟨h1, ?_⟩⟩
      rw [h2.len]
      exact q m1 H1 _ A1 S1 (it_revL r1 hl)
    cases x with
    | tup ws =>
      cases e
      have r1' := r1
      cases r1 with
      | tup h1 h2 =>
        refine ⟨_, _, rfl, .inr ⟨h1.sq, ?_⟩⟩
        rw [h2.len]
        exact q m1 H1 _ A1 S1 (it_revT r1')
    | ref n =>
      cases hl : lstOf (.ref n) s1 with
      | none => simp only [hl] at e; cases e
      | some ws => simp only [hl] at e; exact lst hl e
    | lro ws' =>
      cases hl : lstOf (.lro ws') s1 with
      | none => simp only [hl] at e; cases e
      | some ws => simp only [hl] at e; exact lst hl e
    | _ => cases e
theorem mi_rng1 {p : Pos} {f : FE} (hg : Gl X "range") (hm : X.mg "range" = none) (h : PE X e (tF X.K f)) (hs1 : starEach [e] X.env = (false, eval e X.env) :: starEach [] X.env := by rfl) (hs : starEach [e] X.env = [(false, eval e X.env)] := by rfl) :
    PI X tg (.Call (.Name "range" p) [e] [] pos) (tI X.K (iRng1 f)) :=
  (pi_range1 hg hm (ma_cons h ma_nil hs1) hs).imp fun σ H R' ⟨m, ρ, s, er, sr, xs, c, s', e, q⟩ => by
    obtain ⟨x, s1, e1, e⟩ := bd_inv e
    have ea : aCons f aNil ρ s = some ([x], s1) := by unfold aCons; rw [e1]; rfl
    refine ⟨m, ρ, s, er, sr, [x], s1, ea, fun m1 H1 v A1 S1 r1 => ?_⟩
    cases r1 with
    | cons r1 r2 =>
      cases r2
      cases r1 with
      | int j =>
        by_cases hj : -(2 ^ 62) ≤ j ∧ j < 2 ^ 62
        · simp only [hj, and_self, if_true] at e
          cases e
          exact ⟨j, rfl, hj.1, hj.2, q m1 H1 _ A1 S1 it_rng⟩
        · simp only [hj, if_false] at e
          cases e
      | _ => cases e
theorem mi_rng2 {p : Pos} {f g : FE} (hg : Gl X "range") (hm : X.mg "range" = none) (h : PE X e (tF X.K f)) (h2 : PE X e2 (tF X.K g)) (hs1 : starEach [e, e2] X.env = (false, eval e X.env) :: starEach [e2] X.env := by rfl) (hs2 : starEach [e2] X.env = (false, eval e2 X.env) :: starEach [] X.env := by rfl) (hs : starEach [e, e2] X.env = [(false, eval e X.env), (false, eval e2 X.env)] := by rfl) (hs3 : starEach [e2] X.env = [(false, eval e2 X.env)] := by rfl) :
    PI X tg (.Call (.Name "range" p) [e, e2] [] pos) (tI X.K (iRng2 f g)) :=
  (pi_range2 hg hm (ma_cons h (ma_cons h2 ma_nil hs2) hs1) hs hs3).imp fun σ H R' ⟨m, ρ, s, er, sr, xs, c, s', e, q⟩ => by
    obtain ⟨x, s1, e1, e⟩ := bd_inv e
    obtain ⟨y, s2, e2, e⟩ := bd_inv e
    have ea : aCons f (aCons g aNil) ρ s = some ([x, y], s2) := by simp only [aCons, e1, bd, e2, aNil]
    refine ⟨m, ρ, s, er, sr, [x, y], s2, ea, fun m1 H1 v A1 S1 r1 => ?_⟩
    cases r1 with
    | cons r1 r2 =>
      cases r2 with
      | cons r2 r3 =>
        cases r3
        cases r1 with
        | int i =>
          cases r2 with
          | int j =>
            by_cases hj : -(2 ^ 62) ≤ i ∧ i < 2 ^ 62 ∧ -(2 ^ 62) ≤ j ∧ j < 2 ^ 62
            · simp only [hj, and_self, if_true] at e
              cases e
              exact ⟨i, j, rfl, hj, q m1 H1 _ A1 S1 it_rng⟩
            · simp only [hj, if_false] at e
              cases e
          | _ => cases e
        | _ => cases e
open Classical in
theorem mi_zip {p tpos : Pos} {elts : List Expr} {kk : Nat} {f g : FE} (hg : Gl X "zip") (hm : X.mg "zip" = none) (h : PE X e (tF X.K f)) (h2 : PE X e2 (tF X.K g)) (hs1 : starEach [e, e2] X.env = (false, eval e X.env) :: starEach [e2] X.env := by rfl) (hs2 : starEach [e2] X.env = (false, eval e2 X.env) :: starEach [] X.env := by rfl)
    (hpl : (backTo pos (starEach [e2] X.env)).any (·.1) = false := by rfl) : PI X (.Tuple elts kk tpos) (.Call (.Name "zip" p) [e, e2] [] pos) (tI X.K (iZip f g)) :=
  (RZ.pi_zipA hg hm (ma_cons h (ma_cons h2 ma_nil hs2) hs1) hs1 hpl).imp fun σ H R' ⟨m, ρ, s, er, sr, xs, c, s', e, q⟩ => by
    obtain ⟨x, s1, e1, e⟩ := bd_inv e
    obtain ⟨y, s2, e2, e⟩ := bd_inv e
    have ea : aCons f (aCons g aNil) ρ s = some ([x, y], s2) := by simp only [aCons, e1, bd, e2, aNil]
    refine ⟨m, ρ, s, er, sr, [x, y], s2, ea, fun m1 H1 v A1 S1 r1 => ?_⟩
    cases r1 with
    | @cons _ v1 _ _ r1 r2 =>
      cases r2 with
      | @cons _ v2 _ _ r2 r3 =>
        cases r3
        have lst : ∀ {ws us}, lstOf x s2 = some ws → lstOf y s2 = some us → (if chkOf x ws = none ∨ chkOf y us = none ∨ chkOf x ws = chkOf y us then some ((zipW ws us, if (chkOf x ws).isSome then chkOf x ws else chkOf y us), s2) else none) = some ((xs, c), s') → _ := fun {ws us} hl hl2 e =>
          show ∃ a b xs ys, [v1, v2] = [.ref a, .ref b] ∧ ((SqL X.K H1 a xs ∧ SqL X.K H1 b ys ∧ R' (Itz X.K a b) H1) ∨ (SqT X.K H1 a xs ∧ SqT X.K H1 b ys ∧ R' (RZ.ItzT X.K a b) H1)) from by
            split at e
            · rename_i hc
              cases e
              obtain ⟨p, vs, rfl, h1, h2⟩ := lst_of S1 r1 hl
              obtain ⟨p2, vs2, rfl, h3, h4⟩ := lst_of S1 r2 hl2
              exact ⟨p, p2, vs, vs2, rfl, .inl ⟨h1, h3, q m1 H1 _ A1 S1 (it_zipL r1 r2 hl hl2 hc)⟩⟩
            · cases e
        have oth : (match lstOf x s2, lstOf y s2 with
            | some ws, some us => if chkOf x ws = none ∨ chkOf y us = none ∨ chkOf x ws = chkOf y us then some ((zipW ws us, if (chkOf x ws).isSome then chkOf x ws else chkOf y us), s2) else none
            | _, _ => none) = some ((xs, c), s') → _ := fun e => by
          cases hl : lstOf x s2 with
          | none => simp only [hl] at e; cases e
          | some ws =>
            cases hl2 : lstOf y s2 with
            | none => simp only [hl, hl2] at e; cases e
            | some us => simp only [hl, hl2] at e; exact lst hl hl2 e
        cases x with
        | tup ws =>
          cases y with
          | tup us =>
            cases e
            have r1' := r1
            have r2' := r2
            cases r1 with
            | tup h1 h2 =>
              cases r2 with
              | tup h3 h4 => exact ⟨_, _, _, _, rfl, .inr ⟨h1.sq, h3.sq, q m1 H1 _ A1 S1 (it_zipT r1' r2')⟩⟩
          | _ => exact oth e
        | _ => exact oth e
end
end Mir

set_option Elab.async false
set_option linter.all false
set_option maxRecDepth 100000
namespace Mir
open PySem PySem.Spec PyProof.Rows L2
section
variable {K : PySem.W.Frag}
/-! ### dicts with int and text keys -/
def keyW : W → Option Key
  | .int i => some (.inl i)
  | .str x => some (.inr x)
  | _ => none
theorem key_of {m : List Addr} {H : Hp} {w : W} {v : V} {k : Key} (r : R K m H w v) (h : keyW w = some k) : v = kV k := by
  cases r <;> first | (cases h; rfl) | cases h
def dcOf (x : W) (s : Sto) : Option (Nat × List (Key × W)) := match x with
  | .ref n => match s[n]? with
    | some (.dct kvs) => some (n, kvs)
    | _ => none
  | _ => none
theorem dc_of {m : List Addr} {H : Hp} {s : Sto} {x : W} {v : V} {n : Nat} {kvs : List (Key × W)} (S : SR K m H s) (r : R K m H x v) (h : dcOf x s = some (n, kvs)) : ∃ a vs, v = .ref a ∧ m[n]? = some a ∧ s[n]? = some (.dct kvs) ∧ H a = some (.dK vs) ∧ RK K m H kvs vs := by
  cases r with
  | @ref n' a h1 =>
    cases e : s[n']? with
    | none => simp only [dcOf, e] at h; cases h
    | some o =>
      cases o with
      | lst _ => simp only [dcOf, e] at h; cases h
      | dct kv' =>
        simp only [dcOf, e] at h
        cases h
        obtain ⟨a', h2, vs, h3, h4⟩ := S.at e
        rw [h1] at h2
        cases h2
        exact ⟨_, _, rfl, h1, e, h3, h4⟩
  | _ => cases h
def look (kvs : List (Key × W)) (k : Key) : Option W := (kvs.find? fun kv => decide (kv.1 = k)).map (·.2)
def put (kvs : List (Key × W)) (k : Key) (w : W) : List (Key × W) := if kvs.any (fun kv => decide (kv.1 = k)) then kvs.map fun kv => if kv.1 = k then (kv.1, w) else kv else kvs ++ [(k, w)]
theorem RK.look {m : List Addr} {H : Hp} {k : Key} : ∀ {kvs : List (Key × W)} {vs : List (Key × V)}, RK K m H kvs vs → (∀ w, look kvs k = some w → ∃ v, valV vs k = some v ∧ R K m H w v) ∧ (look kvs k = none → valV vs k = none)
  | [], vs, r => by cases r; exact ⟨fun w h => (by cases h), fun _ => rfl⟩
  | (k', w') :: kvs, vs, r => by
    cases r with
    | @cons _ _ v' _ vs h1 h2 =>
      obtain ⟨q1, q2⟩ := RK.look (k := k) h2
      by_cases e : k' = k
      · subst e
        refine ⟨fun w h => ?_, fun h => ?_⟩
        · have h : some w' = some w := by simpa [Mir.look, List.find?_cons] using h
          cases h
          exact ⟨v', valV_pos rfl, h1⟩
        · exfalso
          simp [Mir.look, List.find?_cons] at h
      · have e1 : Mir.look ((k', w') :: kvs) k = Mir.look kvs k := by simp [Mir.look, List.find?_cons, e]
        have e2 : valV ((k', v') :: vs) k = valV vs k := valV_neg e
        rw [e1, e2]
        exact ⟨q1, q2⟩
theorem RK.any {m : List Addr} {H : Hp} {k : Key} : ∀ {kvs : List (Key × W)} {vs : List (Key × V)}, RK K m H kvs vs → (vs.any fun kv => decide (kv.1 = k)) = kvs.any fun kv => decide (kv.1 = k)
  | [], vs, r => by cases r; rfl
  | (k', w') :: kvs, vs, r => by
    cases r with
    | cons h1 h2 => rw [List.any_cons, List.any_cons, RK.any h2]
theorem RK.map {m : List Addr} {H : Hp} {k : Key} {w : W} {v : V} (rw_ : R K m H w v) : ∀ {kvs : List (Key × W)} {vs : List (Key × V)}, RK K m H kvs vs → RK K m H (kvs.map fun kv => if kv.1 = k then (kv.1, w) else kv) (vs.map fun kv => if kv.1 = k then (kv.1, v) else kv)
  | [], vs, r => by cases r; exact .nil
  | (k', w') :: kvs, vs, r => by
    cases r with
    | cons h1 h2 =>
      rw [List.map_cons, List.map_cons]
      by_cases e : k' = k
      · simp only [e, if_true]
        exact .cons rw_ (RK.map rw_ h2)
      · simp only [e, if_false]
        exact .cons h1 (RK.map rw_ h2)
theorem RK.app {m : List Addr} {H : Hp} : ∀ {a b : List (Key × W)} {c d : List (Key × V)}, RK K m H a c → RK K m H b d → RK K m H (a ++ b) (c ++ d)
  | [], _, _, _, r, g => by cases r; exact g
  | _ :: _, _, _, _, r, g => by
    cases r with
    | cons h1 h2 => exact .cons h1 (RK.app h2 g)
theorem RK.put {m : List Addr} {H : Hp} {k : Key} {w : W} {v : V} {kvs : List (Key × W)} {vs : List (Key × V)} (r : RK K m H kvs vs) (rw_ : R K m H w v) : RK K m H (put kvs k w) (putK vs k v) := by
  unfold Mir.put putK
  rw [r.any]
  split
  · exact r.map rw_
  · exact r.app (.cons rw_ .nil)
end
section
variable {X : Cx} {o i e f : Expr} {pos : Pos}
def eDget (d y : FE) : FE := fun ρ s => bd (d ρ s) fun x s1 => bd (y ρ s1) fun z s2 => match dcOf x s2, keyW z with
  | some (_, kvs), some k => match look kvs k with
    | some w => some (w, s2)
    | none => none
  | _, _ => none
theorem m_dget {fd fy : FE} (hu : X.A.units + 1 < cLine) (ho : PE X o (tF X.K fd)) (hi : PE X i (tF X.K fy)) (hs : NoSl i) : PE X (.Subscript o i pos) (tF X.K (eDget fd fy)) :=
  (pe_dget hu ho hi hs).imp fun σ H Q ⟨m, ρ, s, er, sr, w, s', e, q⟩ => by
    obtain ⟨x, s1, e1, e⟩ := bd_inv e
    obtain ⟨z, s2, e2, e⟩ := bd_inv e
    refine ⟨m, ρ, s, er, sr, x, s1, e1, fun m1 H1 v A1 S1 r1 => ⟨m1, ρ, s1, er.adv A1, S1, z, s2, e2, fun m2 H2 u A2 S2 r2 => ?_⟩⟩
    cases ed : dcOf x s2 with
    | none => simp only [ed] at e; cases e
    | some p =>
      obtain ⟨n, kvs⟩ := p
      cases ek : keyW z with
      | none => simp only [ed, ek] at e; cases e
      | some k =>
        simp only [ed, ek] at e
        cases el : look kvs k with
        | none => simp only [el] at e; cases e
        | some w' =>
          simp only [el] at e
          cases e
          obtain ⟨a, vs, rfl, hm, hs2, hd, rk⟩ := dc_of S2 (r1.adv A2) ed
          obtain ⟨v', hv, rv⟩ := (rk.look (k := k)).1 _ el
          have hy := key_of r2 ek
          subst hy
          refine ⟨a, v', rfl, ?_, q m2 H2 v' (A1.trans A2) S2 rv⟩
          have g := DGet.k (k := k) hd
          rw [hv] at g
          exact g
def eDin (neg : Bool) (y d : FE) : FE := fun ρ s => bd (y ρ s) fun z s1 => bd (d ρ s1) fun x s2 => match dcOf x s2, keyW z with
  | some (_, kvs), some k => some (.bl (if neg then !(look kvs k).isSome else (look kvs k).isSome), s2)
  | _, _ => none
theorem din_of {fd fy : FE} {neg : Bool} : ∀ σ H Q, tF X.K (eDin neg fy fd) σ H Q → (fun σ H Q => tF X.K fy σ H fun y H1 => tF X.K fd σ H1 fun x H2 => ∃ a o, x = .ref a ∧ DGet H2 a y o ∧ Q (.bl (if neg then !o.isSome else o.isSome)) H2 : TE) σ H Q := fun σ H Q ⟨m, ρ, s, er, sr, w, s', e, q⟩ => by
    obtain ⟨z, s1, e1, e⟩ := bd_inv e
    obtain ⟨x, s2, e2, e⟩ := bd_inv e
    refine ⟨m, ρ, s, er, sr, z, s1, e1, fun m1 H1 v A1 S1 r1 => ⟨m1, ρ, s1, er.adv A1, S1, x, s2, e2, fun m2 H2 u A2 S2 r2 => ?_⟩⟩
    cases ed : dcOf x s2 with
    | none => simp only [ed] at e; cases e
    | some p =>
      obtain ⟨n, kvs⟩ := p
      cases ek : keyW z with
      | none => simp only [ed, ek] at e; cases e
      | some k =>
        simp only [ed, ek] at e
        cases e
        obtain ⟨a, vs, rfl, hm, hs2, hd, rk⟩ := dc_of S2 r2 ed
        have hy := key_of r1 ek
        subst hy
        refine ⟨a, _, rfl, DGet.k (k := k) hd, ?_⟩
        have es : (valV vs k).isSome = (look kvs k).isSome := by
          obtain ⟨q1, q2⟩ := rk.look (k := k)
          cases el : look kvs k with
          | none => rw [q2 el]; rfl
          | some w => obtain ⟨v, hv, _⟩ := q1 w el; rw [hv]; rfl
        rw [es]
        exact q m2 H2 _ (A1.trans A2) S2 (.bl _)
theorem m_din {fd fy : FE} (hu : X.A.units + 1 < cLine) (hi : PE X i (tF X.K fy)) (ho : PE X o (tF X.K fd)) (h1 : behindInMarks .In o = false := by first | exact nobehind _ (by decide) (by decide) | rfl) : PE X (.Compare i [.In] [o] pos) (tF X.K (eDin false fy fd)) :=
  (pe_cmp (pc_din hu hi ho) h1).imp fun σ H Q h => din_of σ H Q h
theorem m_dnotin {fd fy : FE} (hu : X.A.units + 1 < cLine) (hi : PE X i (tF X.K fy)) (ho : PE X o (tF X.K fd)) (h1 : behindInMarks .NotIn o = false := by first | exact nobehind _ (by decide) (by decide) | rfl) : PE X (.Compare i [.NotIn] [o] pos) (tF X.K (eDin true fy fd)) :=
  (pe_cmp (pc_dnotin hu hi ho) h1).imp fun σ H Q h => din_of σ H Q h
theorem mt_din {fd fy : FE} (hu : X.A.units + 1 < cLine) (hi : PE X i (tF X.K fy)) (ho : PE X o (tF X.K fd)) (h1 : behindInMarks .In o = false := by first | exact nobehind _ (by decide) (by decide) | rfl) : PT X (.Compare i [.In] [o] pos) (tT X.K (bTest (eDin false fy fd))) :=
  (pt_cmp (pc_din hu hi ho) h1).imp fun σ H Q h => din_of σ H _ (tT_test σ H Q h)
theorem mt_dnotin {fd fy : FE} (hu : X.A.units + 1 < cLine) (hi : PE X i (tF X.K fy)) (ho : PE X o (tF X.K fd)) (h1 : behindInMarks .NotIn o = false := by first | exact nobehind _ (by decide) (by decide) | rfl) : PT X (.Compare i [.NotIn] [o] pos) (tT X.K (bTest (eDin true fy fd))) :=
  (pt_cmp (pc_dnotin hu hi ho) h1).imp fun σ H Q h => din_of σ H _ (tT_test σ H Q h)
def sDput (d y f : FE) : FS := fun ρ s => bd (f ρ s) fun w s1 => bd (d ρ s1) fun x s2 => bd (y ρ s2) fun z s3 => match dcOf x s3, keyW z with
  | some (n, kvs), some k => if kvs.length ≤ 100000 then some (.nx ρ, s3.set n (.dct (put kvs k w))) else none
  | _, _ => none
theorem ms_dput {fd fy fv : FE} {v : Expr} {pos' : Pos} (hu : X.A.units + 1 < cLine) (ho : PE X o (tF X.K fd)) (hi : PE X i (tF X.K fy)) (hv : PE X v (tF X.K fv)) (hs : swapsWith v (some (.Subscript o i pos')) pos.line X.env = pure false := by rfl) :
    PS X (.Assign [.Subscript o i pos'] v pos) (tS X.K (sDput fd fy fv)) :=
  (ps_dput hu ho hi hv hs).imp fun D σ H ⟨m, ρ, s, er, sr, oo, s', e, q⟩ => by
    obtain ⟨w, s1, e1, e⟩ := bd_inv e
    obtain ⟨x, s2, e2, e⟩ := bd_inv e
    obtain ⟨z, s3, e3, e⟩ := bd_inv e
    refine ⟨m, ρ, s, er, sr, w, s1, e1, fun m1 H1 v A1 S1 r1 => ⟨m1, ρ, s1, er.adv A1, S1, x, s2, e2, fun m2 H2 u A2 S2 r2 => ⟨m2, ρ, s2, (er.adv A1).adv A2, S2, z, s3, e3, fun m3 H3 y A3 S3 r3 => ?_⟩⟩⟩
    cases ed : dcOf x s3 with
    | none => simp only [ed] at e; cases e
    | some p =>
      obtain ⟨n, kvs⟩ := p
      cases ek : keyW z with
      | none => simp only [ed, ek] at e; cases e
      | some k =>
        simp only [ed, ek] at e
        split at e
        · rename_i hl
          cases e
          obtain ⟨a, vs, rfl, hm, hs2, hd, rk⟩ := dc_of S3 (r2.adv A3) ed
          have hy := key_of r3 ek
          subst hy
          refine ⟨a, _, rfl, DPut.k (k := k) hd (szt (by rw [rk.len]; exact hl)), ?_⟩
          have A4 : Adv m3 H3 m3 (upd H3 a (.dK (putK vs k v))) := Adv.write S3 hm
          exact q m3 _ σ (((A1.trans A2).trans A3).trans A4) (S3.write hm ⟨_, upd_same, (rk.adv A4).put (((r1.adv A2).adv A3).adv A4)⟩) ((((er.adv A1).adv A2).adv A3).adv A4)
        · cases e
def eDget2 (d y f : FE) : FE := fun ρ s => bd (d ρ s) fun x s1 => if (dcOf x s1).isSome = true then bd (y ρ s1) fun z s2 => bd (f ρ s2) fun w s3 => match dcOf x s3, keyW z with
  | some (_, kvs), some k => some ((look kvs k).getD w, s3)
  | _, _ => none
  else none
theorem m_dget2 {fd fy fv : FE} {cpos apos : Pos} (hu : X.A.units + 1 < cLine) (ho : PE X o (tF X.K fd)) (he : PE X e (tF X.K fy)) (hf : PE X f (tF X.K fv)) (M : M2 X o "get" apos e f cpos) : PE X (.Call (.Attribute o "get" apos) [e, f] [] cpos) (tF X.K (eDget2 fd fy fv)) :=
  (pe_dget2 hu ho he hf M).imp fun σ H Q ⟨m, ρ, s, er, sr, w, s', e, q⟩ => by
    obtain ⟨x, s1, e1, e⟩ := bd_inv e
    split at e
    · rename_i hd1
      obtain ⟨z, s2, e2, e⟩ := bd_inv e
      obtain ⟨d, s3, e3, e⟩ := bd_inv e
      refine ⟨m, ρ, s, er, sr, x, s1, e1, fun m1 H1 v A1 S1 r1 => ?_⟩
      cases ed1 : dcOf x s1 with
      | none => rw [ed1] at hd1; cases hd1
      | some p1 =>
        obtain ⟨n1, kvs1⟩ := p1
        obtain ⟨a, vs1, rfl, hm1, _, hh1, _⟩ := dc_of S1 r1 ed1
        refine ⟨a, rfl, .inl ⟨vs1, .inl hh1⟩, m1, ρ, s1, er.adv A1, S1, z, s2, e2, fun m2 H2 u A2 S2 r2 => ⟨m2, ρ, s2, (er.adv A1).adv A2, S2, d, s3, e3, fun m3 H3 y A3 S3 r3 => ?_⟩⟩
        cases ed : dcOf x s3 with
        | none => simp only [ed] at e; cases e
        | some p =>
          obtain ⟨n, kvs⟩ := p
          cases ek : keyW z with
          | none => simp only [ed, ek] at e; cases e
          | some k =>
            simp only [ed, ek] at e
            cases e
            obtain ⟨a', vs, ea, hm, hs2, hd, rk⟩ := dc_of S3 ((r1.adv A2).adv A3) ed
            cases ea
            have hy := key_of r2 ek
            subst hy
            refine ⟨_, DGet.k (k := k) hd, ?_⟩
            obtain ⟨q1, q2⟩ := rk.look (k := k)
            cases el : look kvs k with
            | none =>
              rw [q2 el]
              rw [el] at q
              exact q m3 H3 y ((A1.trans A2).trans A3) S3 r3
            | some w =>
              obtain ⟨v, hv, rv⟩ := q1 w el
              rw [hv]
              rw [el] at q
              exact q m3 H3 v ((A1.trans A2).trans A3) S3 rv
    · cases e
/-! ### constants of the module -/
def Cst (K : PySem.W.Frag) (mg : Str → Option Value) (x : Str) (w : W) : Prop := ∃ v u, mg x = some u ∧ RelV v u ∧ ∀ m H, R K m H w v
theorem m_glob {x : Str} {w : W} {p : Pos} (h : Cst X.K X.mg x w) (hg : Gl X x) (hd : (x == ("__debug__" : Str)) = false := by decide) : PE X (.Name x p) (tF X.K (eC w)) := by
  obtain ⟨v, u, h1, h2, h3⟩ := h
  exact m_c (pe_glob hg h1 h2 hd) h3
/-! ### texts -/
def gStr (f : Str → List W → Sto → Rz W) : W → List W → Sto → Rz W := fun x ws s => match x with
  | .str z => f z ws s
  | _ => none
def isS (x : W) (_ : Sto) : Bool := match x with
  | .str _ => true
  | _ => false
theorem isS_ty {K : PySem.W.Frag} {m : List Addr} {H : Hp} {s : Sto} {x : W} {v : V} (S : SR K m H s) (r : R K m H x v) (h : isS x s = true) : tyV K "str" v H := by
  cases r with
  | str z => rfl
  | _ => cases h
def gUpper := gStr fun z ws s => match ws with
  | [] => if z.length ≤ 5592405 then some (.str (Txt.upper z), s) else none
  | _ => none
theorem f_upper {K : PySem.W.Frag} : MtF K (fun x xs H Q => ∃ a, x = .str a ∧ xs = [] ∧ a.length ≤ 5592405 ∧ Q (.str (Txt.upper a)) H) gUpper := by
  intro m H s x v ws vs Q S rx r h
  cases rx with
  | str z =>
    cases r with
    | cons _ _ => exact nopeE h
    | nil =>
      by_cases hz : z.length ≤ 5592405
      · simp only [gUpper, gStr, hz, if_true] at h
        exact ⟨z, rfl, rfl, hz, h.val S _ (.str _)⟩
      · exact nopeE' h (by simp only [gUpper, gStr, hz, if_false])
  | _ => exact nopeE h
def gJoin := gStr fun z ws s => match ws with
  | [x] => match seqOf x s with
    | some xs => match strsOf xs with
      | some ys => if (ys.map (·.length)).sum + ys.length * z.length ≤ 16777216 then some (.str (Txt.join z ys), s) else none
      | none => none
    | none => none
  | _ => none
theorem f_join {K : PySem.W.Frag} : MtF K (fun x xs H Q => ∃ a p, ∃ ys : List Str, x = .str a ∧ xs = [.ref p] ∧ (SqL K H p (ys.map V.str) ∨ SqT K H p (ys.map V.str)) ∧ (ys.map (·.length)).sum + ys.length * a.length ≤ 16777216 ∧ Q (.str (Txt.join a ys)) H) gJoin := by
  intro m H s x v ws vs Q S rx r h
  cases rx with
  | str z =>
    cases r with
    | nil => exact nopeE h
    | @cons y _ _ _ r1 r2 =>
      cases r2 with
      | cons _ _ => exact nopeE h
      | nil =>
        cases es : seqOf y s with
        | none => exact nopeE' h (by simp only [gJoin, gStr, es])
        | some xs =>
          cases ey : strsOf xs with
          | none => exact nopeE' h (by simp only [gJoin, gStr, es, ey])
          | some ys =>
            by_cases hz : (ys.map (·.length)).sum + ys.length * z.length ≤ 16777216
            · simp only [gJoin, gStr, es, ey, hz, if_true] at h
              obtain ⟨p, us, rfl, hs, rl⟩ := seq_of S r1 es
              rw [strs_of rl ey] at hs
              exact ⟨z, p, ys, rfl, rfl, hs.symm, hz, h.val S _ (.str _)⟩
            · exact nopeE' h (by simp only [gJoin, gStr, es, ey, hz, if_false])
  | _ => exact nopeE h
theorem rl_strs {K : PySem.W.Frag} {m : List Addr} {H : Hp} : ∀ ys : List Str, RL K m H (ys.map W.str) (ys.map V.str)
  | [] => .nil
  | y :: ys => .cons (.str y) (rl_strs ys)
def gSplit := gStr fun z ws s => match ws with
  | [.str b] => if (b.length == 0) = false ∧ z.length + 2 ≤ sizeLine then some (.ref s.length, s ++ [.lst ((Txt.split z b).map W.str)]) else none
  | [] => if z.length + 2 ≤ sizeLine then some (.ref s.length, s ++ [.lst ((Txt.words z).map W.str)]) else none
  | _ => none
theorem f_split {K : PySem.W.Frag} : MtF K (fun x xs H Q => (∃ a b, x = .str a ∧ xs = [.str b] ∧ (b.length == 0) = false ∧ a.length + 2 ≤ sizeLine ∧ rNewStrs (Txt.split a b) H Q) ∨ (∃ a, x = .str a ∧ xs = [] ∧ a.length + 2 ≤ sizeLine ∧ rNewStrs (Txt.words a) H Q)) gSplit := by
  intro m H s x v ws vs Q S rx r h
  cases rx with
  | str z =>
    cases r with
    | nil =>
      by_cases hz : z.length + 2 ≤ sizeLine
      · simp only [gSplit, gStr, hz, if_true] at h
        obtain ⟨w, s', e, q⟩ := h
        cases e
        exact .inr ⟨z, rfl, rfl, hz, fun p hp => new_lst S (rl_strs _) hp q⟩
      · exact nopeE' h (by simp only [gSplit, gStr, hz, if_false])
    | @cons y _ _ _ r1 r2 =>
      cases r2 with
      | cons _ _ => cases r1 <;> exact nopeE h
      | nil =>
        cases r1 with
        | str b =>
          by_cases hz : (b.length == 0) = false ∧ z.length + 2 ≤ sizeLine
          · simp only [gSplit, gStr, hz, and_self, if_true] at h
            obtain ⟨w, s', e, q⟩ := h
            cases e
            exact .inl ⟨z, b, rfl, rfl, hz.1, hz.2, fun p hp => new_lst S (rl_strs _) hp q⟩
          · exact nopeE' h (by simp only [gSplit, gStr, hz, if_false])
        | _ => exact nopeE h
  | _ => exact nopeE h
/-! ### t[::-1], slices by values -/
def gSlA : W → Option Int → Option Int → Sto → Rz W := fun x lo hi s => match x with
  | .str z => if z.length ≤ sizeLine then some (.str (cutS z lo hi), s) else none
  | .tup ws => some (.tup ((ws.drop (HT.sIx ws.length 0 lo)).take (HT.sIx ws.length ws.length hi - HT.sIx ws.length 0 lo)), s)
  | x => match lstOf x s with
    | some ws => some (.ref s.length, s ++ [.lst ((ws.drop (HT.sIx ws.length 0 lo)).take (HT.sIx ws.length ws.length hi - HT.sIx ws.length 0 lo))])
    | none => none
def rSlAny (K : PySem.W.Frag) : V → Option Int → Option Int → Hp → VK → Prop := fun x lo hi H Q => rSlS x lo hi H Q ∨ rSlA K x lo hi H Q ∨ rSlL K x lo hi H Q
theorem sl_any : SlR X (rSlAny X.K) := sl_str.or (sl_tupA.or sl_list)
theorem f_sl {K : PySem.W.Frag} : SlF K (rSlAny K) gSlA := by
  intro m H s x v lo hi Q S rx h
  have lst : ∀ {ws}, lstOf x s = some ws → wE K m H (some (.ref s.length, s ++ [.lst ((ws.drop (HT.sIx ws.length 0 lo)).take (HT.sIx ws.length ws.length hi - HT.sIx ws.length 0 lo))])) Q → rSlAny K v lo hi H Q := fun {ws} hl h => by
    obtain ⟨p, vs, rfl, h1, h2⟩ := lst_of S rx hl
    obtain ⟨w, s', e, q⟩ := h
    cases e
    exact .inr (.inr ⟨p, vs, rfl, h1, fun l hl => new_lst S (h2.cut lo hi) hl q⟩)
  cases rx with
  | str z =>
    by_cases hz : z.length ≤ sizeLine
    · simp only [gSlA, hz, if_true] at h
      exact .inl ⟨z, rfl, hz, h.val S _ (.str _)⟩
    · exact nopeE' h (by simp only [gSlA, hz, if_false])
  | @tup p vs ws h1 h2 =>
    have rc := h2.cut lo hi
    refine .inr (.inl ⟨p, vs, rfl, h1.sq, fun hw => ?_, fun hw q hq => ?_⟩)
    · refine h.val S _ (.tup h1 ?_)
      unfold cutV at rc
      rw [hw.1, hw.2, List.drop_zero, Nat.sub_zero, List.take_length] at rc
      exact rc
    · obtain ⟨w, s', e, q⟩ := h
      cases e
      exact new_tup S rc hq q
  | @ref n a h1 =>
    cases hl : lstOf (.ref n) s with
    | none => exact nopeE' h (by simp only [gSlA, hl])
    | some ws =>
      have e : gSlA (.ref n) lo hi s = some (.ref s.length, s ++ [.lst ((ws.drop (HT.sIx ws.length 0 lo)).take (HT.sIx ws.length ws.length hi - HT.sIx ws.length 0 lo))]) := by simp only [gSlA, hl]
      rw [e] at h
      exact lst hl h
  | @lro p vs ws h1 h2 =>
    have e : gSlA (.lro ws) lo hi s = some (.ref s.length, s ++ [.lst ((ws.drop (HT.sIx ws.length 0 lo)).take (HT.sIx ws.length ws.length hi - HT.sIx ws.length 0 lo))]) := by simp only [gSlA, lstOf]
    rw [e] at h
    exact lst rfl h
  | _ => exact nopeE h
def gRevL : W → Sto → Rz W := fun x s => match lstOf x s with
  | some ws => some (.ref s.length, s ++ [.lst ws.reverse])
  | none => none
def gRevT : W → Sto → Rz W := fun x s => match x with
  | .tup ws => some (.tup ws.reverse, s)
  | _ => none
theorem m_revL {fe : FE} {k : Nat} {p1 p2 p3 : Pos} (he : PE X e (tF X.K fe)) : PE X (.Subscript e (.Slice none none (some (.UnaryOp .USub (.Constant (.int 1) k p1) p2)) p3) pos) (tF X.K (eUn gRevL fe)) :=
  (pe_revL he).imp fun σ H Q ⟨m, ρ, s, er, sr, w, s', e, q⟩ => by
    obtain ⟨x, s1, e1, e⟩ := bd_inv e
    refine ⟨m, ρ, s, er, sr, x, s1, e1, fun m1 H1 v A1 S1 r1 => ?_⟩
    cases hl : lstOf x s1 with
    | none => simp only [gRevL, hl] at e; cases e
    | some ws =>
      simp only [gRevL, hl] at e
      cases e
      obtain ⟨p, vs, rfl, h1, h2⟩ := lst_of S1 r1 hl
      exact ⟨p, vs, rfl, h1, fun l hl => new_lst S1 h2.rev hl fun m2 H2 v A2 => q m2 H2 v (A1.trans A2)⟩
theorem m_revT {fe : FE} {k : Nat} {p1 p2 p3 : Pos} (he : PE X e (tF X.K fe)) : PE X (.Subscript e (.Slice none none (some (.UnaryOp .USub (.Constant (.int 1) k p1) p2)) p3) pos) (tF X.K (eUn gRevT fe)) :=
  (Vr.pe_revT he).imp fun σ H Q ⟨m, ρ, s, er, sr, w, s', e, q⟩ => by
    obtain ⟨x, s1, e1, e⟩ := bd_inv e
    refine ⟨m, ρ, s, er, sr, x, s1, e1, fun m1 H1 v A1 S1 r1 => ?_⟩
    cases r1 with
    | tup h1 h2 =>
      cases e
      exact ⟨_, _, rfl, h1.sq, fun l hl => new_tup S1 h2.rev hl fun m2 H2 v A2 => q m2 H2 v (A1.trans A2)⟩
    | _ => cases e
/-! ### f'..' -/
def eFmt (f : FE) : FE := fun ρ s => bd (f ρ s) fun x s1 => match x with
  | .str y => if y.length ≤ sizeLine then some (.str y, s1) else none
  | .int i => if i.natAbs.log2 < 1920 then some (.str (toString i), s1) else none
  | _ => none
theorem m_fmt {fe : FE} (he : PE X e (tF X.K fe)) : PE X (.FormattedValue e (-1) none pos) (tF X.K (eFmt fe)) :=
  (pe_fmt he).imp fun σ H Q ⟨m, ρ, s, er, sr, w, s', e, q⟩ => by
    obtain ⟨x, s1, e1, e⟩ := bd_inv e
    refine ⟨m, ρ, s, er, sr, x, s1, e1, fun m1 H1 v A1 S1 r1 => ?_⟩
    cases r1 with
    | str y =>
      by_cases hy : y.length ≤ sizeLine
      · simp only [hy, if_true] at e
        cases e
        exact .inl ⟨y, rfl, hy, q m1 H1 _ A1 S1 (.str _)⟩
      · simp only [hy, if_false] at e; cases e
    | int y =>
      by_cases hy : y.natAbs.log2 < 1920
      · simp only [hy, if_true] at e
        cases e
        exact .inr ⟨y, rfl, hy, q m1 H1 _ A1 S1 (.str _)⟩
      · simp only [hy, if_false] at e; cases e
    | _ => cases e
def joinF : List FE → Str → EnvM → Sto → Rz Str
  | [], acc, _, s => some (acc, s)
  | f :: fs, acc, ρ, s => bd (f ρ s) fun x s1 => match x with
    | .str y => if (acc ++ y).length ≤ sizeLine then joinF fs (acc ++ y) ρ s1 else none
    | _ => none
def eJoin (fs : List FE) : FE := fun ρ s => bd (joinF fs Str.empty ρ s) fun y s1 => some (.str y, s1)
theorem tJs_of {σ : L2.St} : ∀ (fs : List FE) {acc : Str} {m : List Addr} {ρ : EnvM} {s : Sto} {H : Hp} {y : Str} {s' : Sto} {Q : Str → Hp → Prop}, ER X.K m H ρ σ → SR X.K m H s → joinF fs acc ρ s = some (y, s') → (∀ m' H', Adv m H m' H' → SR X.K m' H' s' → Q y H') → tJs (fs.map (tF X.K)) acc σ H Q
  | [], acc, m, ρ, s, H, y, s', Q, er, sr, e, q => by
    cases e
    exact q m H (Adv.refl m H) sr
  | f :: fs, acc, m, ρ, s, H, y, s', Q, er, sr, e, q => by
    obtain ⟨x, s1, e1, e⟩ := bd_inv e
    refine ⟨m, ρ, s, er, sr, x, s1, e1, fun m1 H1 v A1 S1 r1 => ?_⟩
    cases r1 with
    | str z =>
      by_cases hz : (acc ++ z).length ≤ sizeLine
      · simp only [hz, if_true] at e
        exact ⟨z, rfl, hz, tJs_of fs (er.adv A1) S1 e fun m2 H2 A2 => q m2 H2 (A1.trans A2)⟩
      · simp only [hz, if_false] at e; cases e
    | _ => cases e
theorem m_joined {v1 v2 : Expr} {rest : List Expr} {fs : List FE} (h : PJ X (v1 :: v2 :: rest) (fs.map (tF X.K))) : PE X (.JoinedStr (v1 :: v2 :: rest) pos) (tF X.K (eJoin fs)) :=
  (pe_joined h).imp fun σ H Q ⟨m, ρ, s, er, sr, w, s', e, q⟩ => by
    obtain ⟨y, s1, e1, e⟩ := bd_inv e
    cases e
    exact tJs_of fs er sr e1 fun m1 H1 A1 S1 => q m1 H1 _ A1 S1 (.str _)
theorem m_joined1 {fe : FE} (he : PE X e (tF X.K fe)) : PE X (.JoinedStr [e] pos) (tF X.K fe) := pe_joined1 he
end
end Mir

set_option Elab.async false
set_option linter.all false
set_option maxRecDepth 100000
namespace Mir
open PySem PySem.Spec PyProof.Rows L2
section
variable {K : PySem.W.Frag}
/-! ### isinstance(x, T), T a built-in type -/
def tyW (x : W) (s : Sto) : Option String := match x with
  | .non => some "NoneType"
  | .bl _ => some "bool"
  | .int _ => some "int"
  | .str _ => some "str"
  | .tup _ => some "tuple"
  | .lro _ => some "list"
  | .ref n => match s[n]? with
    | some (.lst _) => some "list"
    | some (.dct _) => some "dict"
    | none => none
theorem tyW_of {m : List Addr} {H : Hp} {s : Sto} {x : W} {v : V} {t : String} (S : SR K m H s) (r : R K m H x v) (h : tyW x s = some t) : TyX K H v (.type t) := by
  cases r with
  | non => cases h; exact .base .non
  | bl b => cases h; exact .base (.bl b)
  | int i => cases h; exact .base (.int i)
  | str y => cases h; exact .base (.str y)
  | tup h1 h2 =>
    cases h
    rcases h1 with h1 | ⟨o, its, n, l, c, _⟩
    · exact .base (.tup h1)
    · exact .kTuple l c
  | lro h1 h2 =>
    cases h
    rcases h1 with ⟨o, h1⟩ | ⟨o, its, n, l, c, _⟩
    · exact .base (.frz h1)
    · exact .kList l c
  | @ref n a h1 =>
    cases e : s[n]? with
    | none => simp only [tyW, e] at h; cases h
    | some o =>
      obtain ⟨a', h2, h3⟩ := S.at e
      rw [h1] at h2; cases h2
      cases o with
      | lst ws =>
        simp only [tyW, e] at h
        cases h
        obtain ⟨vs, h3, _⟩ := h3
        exact .base (.lst h3)
      | dct ws =>
        simp only [tyW, e] at h
        cases h
        obtain ⟨vs, h3, _⟩ := h3
        exact .base (.dK h3)
/-- the answer, by the names of the types -/
def isiT (a b : String) : Bool := (a == b) || (a == "bool" && b == "int")
def eIsi (T : String) (f : FE) : FE := fun ρ s => bd (f ρ s) fun x s1 => match tyW x s1 with
  | some t => some (.bl (isiT t T), s1)
  | none => none

def tyNames : List String := ["NoneType", "bool", "int", "str", "tuple", "list", "dict"]
theorem tyW_in {x : W} {s : Sto} {t : String} (h : tyW x s = some t) : t ∈ tyNames := by
  cases x with
  | ref n =>
    simp only [tyW] at h
    split at h <;> (cases h <;> decide)
  | _ => cases h; decide
theorem kit_int : ∀ t ∈ tyNames, kitB t "int" = some (isiT t "int") := by decide +kernel
theorem kit_str : ∀ t ∈ tyNames, kitB t "str" = some (isiT t "str") := by decide +kernel
theorem kit_bool : ∀ t ∈ tyNames, kitB t "bool" = some (isiT t "bool") := by decide +kernel
theorem kit_tuple : ∀ t ∈ tyNames, kitB t "tuple" = some (isiT t "tuple") := by decide +kernel
theorem kit_list : ∀ t ∈ tyNames, kitB t "list" = some (isiT t "list") := by decide +kernel
theorem kit_dict : ∀ t ∈ tyNames, kitB t "dict" = some (isiT t "dict") := by decide +kernel
end
section
variable {X : Cx} {a b c e e2 : Expr} {pos : Pos}
theorem m_isi {f : FE} {T : String} {p p2 : Pos} {x : Str} (hk : ∀ t ∈ tyNames, kitB t T = some (isiT t T)) (hg : Gl X "isinstance") (hm : X.mg "isinstance" = none) (hg2 : Gl X x) (hm2 : X.mg x = none) (hb : bootBuiltins x = some (.type T)) (he : PE X e (tF X.K f)) (hn : x ≠ "__name__" := by decide) (hd : (x == ("__debug__" : Str)) = false := by decide)
    (hs1 : starEach [e, .Name x p2] X.env = (false, eval e X.env) :: starEach [.Name x p2] X.env := by rfl) (hs2 : starEach [.Name x p2] X.env = (false, eval (.Name x p2) X.env) :: starEach [] X.env := by rfl) (hpl : (backTo pos (starEach [.Name x p2] X.env)).any (·.1) = false := by rfl) :
    PE X (.Call (.Name "isinstance" p) [e, .Name x p2] [] pos) (tF X.K (eIsi T f)) :=
  (pe_callB call_isi hg hm PyProof.Rows.boot_isinstance (pa_cons he (pa_cons (pe_bltn (v := .ty T) hg2 hm2 hb rfl hn hd) pa_nil hs2) hs1) (by decide) (by decide) hs1 hpl).imp fun σ H Q ⟨m, ρ, s, er, sr, w, s', e, q⟩ => by
    obtain ⟨x, s1, e1, e⟩ := bd_inv e
    cases ht : tyW x s1 with
    | none => simp only [ht] at e; cases e
    | some t =>
      simp only [ht] at e
      cases e
      exact ⟨m, ρ, s, er, sr, x, _, e1, fun m1 H1 v A1 S1 r1 => ⟨v, .ty T, .type t, .type T, _, rfl, .ty T, tyW_of S1 r1 ht, kit_ty (hk t (tyW_in ht)), q m1 H1 _ A1 S1 (.bl _)⟩⟩
/-! ### a < b < c -/
def eChain (g g' : W → W → Sto → Rz W) (fa fb fc : FE) : FE := fun ρ s => bd (fa ρ s) fun x s1 => bd (fb ρ s1) fun y s2 => bd (g x y s2) fun z s3 => match z with
  | .bl k => if k = true then bd (fc ρ s3) fun w s4 => g' y w s4 else some (.bl false, s3)
  | _ => none
theorem chain_of {r r' : R2} {g g' : W → W → Sto → Rz W} {fa fb fc : FE} (hg : OpF X.K r g) (hg' : OpF X.K r' g') : ∀ σ H Q, tF X.K (eChain g g' fa fb fc) σ H Q → tChain r r' (tF X.K fa) (tF X.K fb) (tF X.K fc) σ H Q := fun σ H Q ⟨m, ρ, s, er, sr, w, s', e, q⟩ => by
  obtain ⟨x, s1, e1, e⟩ := bd_inv e
  obtain ⟨y, s2, e2, e⟩ := bd_inv e
  obtain ⟨z, s3, e3, e⟩ := bd_inv e
  refine ⟨m, ρ, s, er, sr, x, s1, e1, fun m1 H1 v A1 S1 r1 => ⟨m1, ρ, s1, er.adv A1, S1, y, s2, e2, fun m2 H2 u A2 S2 r2 => hg m2 H2 s2 x y v u _ S2 (r1.adv A2) r2 ⟨z, s3, e3, fun m3 H3 zv A3 S3 r3 => ?_⟩⟩⟩
  cases r3 with
  | bl k =>
    refine ⟨k, rfl, ?_⟩
    cases k with
    | true =>
      simp only [if_true] at e
      rw [if_pos rfl]
      obtain ⟨w4, s4, e4, e⟩ := bd_inv e
      exact ⟨m3, ρ, s3, ((er.adv A1).adv A2).adv A3, S3, w4, s4, e4, fun m4 H4 v4 A4 S4 r4 => hg' m4 H4 s4 y w4 u v4 Q S4 ((r2.adv A3).adv A4) r4 ⟨w, s', e, fun m5 H5 v5 A5 => q m5 H5 v5 ((((A1.trans A2).trans A3).trans A4).trans A5)⟩⟩
    | false =>
      simp only [if_neg Bool.false_ne_true] at e
      rw [if_neg Bool.false_ne_true]
      cases e
      exact q m3 H3 _ ((A1.trans A2).trans A3) S3 (.bl false)
  | _ => cases e
theorem m_chain {op op' : CmpOp} {r r' : R2} {g g' : W → W → Sto → Rz W} {fa fb fc : FE} (ho : OpR X (compareOp op) r) (ho' : OpR X (compareOp op') r') (hg : OpF X.K r g) (hg' : OpF X.K r' g') (ha : PE X a (tF X.K fa)) (hb : PE X b (tF X.K fb)) (hc : PE X c (tF X.K fc))
    (hm : lastMarks [op, op'] [b, c] = false := by with_unfolding_all rfl) : PE X (.Compare a [op, op'] [b, c] pos) (tF X.K (eChain g g' fa fb fc)) := (pe_chain ho ho' ha hb hc hm).imp (chain_of hg hg')
theorem mt_chain {op op' : CmpOp} {r r' : R2} {g g' : W → W → Sto → Rz W} {fa fb fc : FE} (ho : OpR X (compareOp op) r) (ho' : OpR X (compareOp op') r') (hg : OpF X.K r g) (hg' : OpF X.K r' g') (ha : PE X a (tF X.K fa)) (hb : PE X b (tF X.K fb)) (hc : PE X c (tF X.K fc))
    (hm : lastMarks [op, op'] [b, c] = false := by with_unfolding_all rfl) : PT X (.Compare a [op, op'] [b, c] pos) (tT X.K (bTest (eChain g g' fa fb fc))) := (pt_chain ho ho' ha hb hc hm).imp fun σ H Q h => chain_of hg hg' σ H _ (tT_test σ H Q h)
/-! ### tuple(a dict), t * k -/
def gTupleD : List W → Sto → Rz W := fun ws s => match ws with
  | [x] => match dcOf x s with
    | some (_, kvs) => some (.tup (kvs.map fun kv => match kv.1 with | .inl i => W.int i | .inr z => W.str z), s)
    | none => none
  | _ => none
theorem keys_rl {K : PySem.W.Frag} {m : List Addr} {H : Hp} : ∀ {kvs : List (Key × W)} {vs : List (Key × V)}, RK K m H kvs vs → RL K m H (kvs.map fun kv => match kv.1 with | .inl i => W.int i | .inr z => W.str z) (vs.map fun kv => kV kv.1)
  | [], _, r => by cases r; exact .nil
  | (k, w) :: kvs, _, r => by
    cases r with
    | cons h1 h2 =>
      refine .cons ?_ (keys_rl h2)
      cases k with
      | inl i => exact .int i
      | inr z => exact .str z
theorem f_tupleD {K : PySem.W.Frag} : CallF K (fun xs H Q => ∃ (a : Addr) (kvs : List (Key × V)), xs = [.ref a] ∧ Rd H a (.dK kvs) ∧ ∀ p, H p = none → Q (.ref p) (upd H p (.tup (kvs.map fun kv => kV kv.1)))) gTupleD := by
  intro m H s ws vs Q S r h
  cases r with
  | nil => exact nopeE h
  | @cons x v _ _ r1 r2 =>
    cases r2 with
    | cons _ _ => exact nopeE h
    | nil =>
      cases ed : dcOf x s with
      | none => exact nopeE' h (by simp only [gTupleD, ed])
      | some p =>
        obtain ⟨n, kvs⟩ := p
        simp only [gTupleD, ed] at h
        obtain ⟨a, us, rfl, _, _, hd, rk⟩ := dc_of S r1 ed
        obtain ⟨w, s', e, q⟩ := h
        cases e
        exact ⟨a, us, rfl, .inl hd, fun p hp => new_tup S (keys_rl rk) hp q⟩
def gMul : W → W → Sto → Rz W := fun x y s => match x, y with
  | .int i, .int j => if (-(2 ^ 64) < i ∧ i < 2 ^ 64) ∨ (-(2 ^ 64) < j ∧ j < 2 ^ 64) then some (.int (i * j), s) else none
  | .tup ws, .int k => if ws ≠ [] ∧ 2 ≤ k ∧ k ≤ 1000 ∧ ws.length ≤ 1000 then some (.tup (List.replicate k.toNat ws).flatten, s) else none
  | _, _ => none
def rMulA (K : PySem.W.Frag) : R2 := fun x y H Q => rI CMul (fun i j => .int (i * j)) x y H Q ∨ rRepT K x y H Q
theorem op_mulA : OpR X (binaryOp .Mult) (rMulA X.K) := op_mul.or op_repT
theorem f_mul {K : PySem.W.Frag} : OpF K (rMulA K) gMul := by
  intro m H s x y v u Q S rx ry h
  cases rx with
  | int i =>
    cases ry with
    | int j =>
      by_cases q : (-(2 ^ 64) < i ∧ i < 2 ^ 64) ∨ (-(2 ^ 64) < j ∧ j < 2 ^ 64)
      · simp only [gMul, q, if_true] at h
        exact .inl ⟨i, j, rfl, rfl, q, h.val S _ (.int _)⟩
      · exact nopeE' h (by simp only [gMul, q, if_false])
    | _ => exact nopeE h
  | @tup p vs ws h1 h2 =>
    cases ry with
    | int k =>
      by_cases q : ws ≠ [] ∧ 2 ≤ k ∧ k ≤ 1000 ∧ ws.length ≤ 1000
      · obtain ⟨w, s', e, qq⟩ := h
        simp only [gMul] at e
        rw [if_pos q] at e
        cases e
        refine .inr ⟨p, k, vs, rfl, rfl, h1.sq, fun e => q.1 ?_, q.2.1, q.2.2.1, by rw [h2.len]; exact q.2.2.2, fun z hz => new_tup S (h2.rep k.toNat) hz qq⟩
        subst e
        cases h2
        rfl
      · exact nopeE' h (by simp only [gMul]; rw [if_neg q])
    | _ => exact nopeE h
  | _ => cases ry <;> exact nopeE h
/-! ### a, b = x, y -/
def sPar (i j : Nat) (f : FA) : FS := fun ρ s => bd (f ρ s) fun ws s1 => match ws with
  | [v, w] => some (.nx ((ρ.set i (some v)).set j (some w)), s1)
  | _ => none
theorem ms_par {i j : Nat} {x y : Str} {fa : FA} {px py pt : Pos} {kt k2 pt2} (hc : X.calm = true) (hN : X.N.Nodup) (hi : X.N[i]? = some x) (hj : X.N[j]? = some y) (hij : i ≠ j)
    (hx : X.env.scope.names.lookup x = some .local) (hy : X.env.scope.names.lookup y = some .local) (ha : PA X [a, b] (tA X.K fa))
    (hw : swappedStores [.Tuple [.Name x px, .Name y py] kt pt] (.Tuple [a, b] k2 pt2) X.env = pure (some [x, y]))
    (hs : swapsWithSole [.Tuple [.Name x px, .Name y py] kt pt] (.Tuple [a, b] k2 pt2) pos.line X.env = pure false := by rfl) :
    PS X (.Assign [.Tuple [.Name x px, .Name y py] kt pt] (.Tuple [a, b] k2 pt2) pos) (tS X.K (sPar i j fa)) :=
  (ps_par hc hN hi hj hij hx hy ha hw hs).imp fun D σ H ⟨m, ρ, s, er, sr, o, s', e, q⟩ => by
    obtain ⟨ws, s1, e1, e⟩ := bd_inv e
    refine ⟨m, ρ, s, er, sr, ws, s1, e1, fun m1 H1 vs A1 S1 r1 => ?_⟩
    cases r1 with
    | nil => cases e
    | cons h1 h2 =>
      cases h2 with
      | nil => cases e
      | cons h2 h3 =>
        cases h3 with
        | cons _ _ => cases e
        | nil =>
          cases e
          exact ⟨_, _, rfl, q m1 H1 _ A1 S1 (((er.adv A1).set i h1).set j h2)⟩
/-! ### x += e -/
theorem ip_addA : PIp X .Add (fun x y H Q => rI0 (fun i j => .int (i + j)) x y H Q ∨ ∃ i j, x = .str i ∧ y = .str j ∧ i.length + j.length ≤ sizeLine ∧ Q (.str (i ++ j)) H) := OpR.or iop_add iop_add_str
def gIAdd : W → W → Sto → Rz W := fun x y s => match x, y with
  | .int i, .int j => some (.int (i + j), s)
  | .str a, .str b => if a.length + b.length ≤ 100000 then some (.str (a ++ b), s) else none
  | _, _ => none
theorem f_iadd {K : PySem.W.Frag} : OpF K (fun x y H Q => rI0 (fun i j => .int (i + j)) x y H Q ∨ ∃ i j, x = .str i ∧ y = .str j ∧ i.length + j.length ≤ sizeLine ∧ Q (.str (i ++ j)) H) gIAdd := by
  intro m H s x y v u Q S rx ry h
  cases rx with
  | int i =>
    cases ry with
    | int j => exact .inl ⟨i, j, rfl, rfl, h.val S _ (.int _)⟩
    | _ => exact nopeE h
  | str a =>
    cases ry with
    | str b =>
      by_cases q : a.length + b.length ≤ 100000
      · simp only [gIAdd, q, if_pos] at h
        exact .inr ⟨a, b, rfl, rfl, szl q, h.val S _ (.str _)⟩
      · exact nopeE' h (by simp only [gIAdd, q, if_false])
    | _ => exact nopeE h
  | _ => cases ry <;> exact nopeE h
/-! ### the script -/
theorem ints_rl {K : PySem.W.Frag} {m : List Addr} {H : Hp} : ∀ ns : List Int, RL K m H (ns.map W.int) (ns.map V.int)
  | [] => .nil
  | n :: ns => .cons (.int n) (ints_rl ns)
theorem law_sp {K : PySem.W.Frag} {F : List W → Sto → Rz W} {H : Hp} {a : Addr} {ns : List Int} (hO : Only H) (hS : SqL K H a (ns.map V.int)) (h : ∃ s, F [.lro (ns.map W.int)] [] = some (.bl true, s)) : spF K 1 F [.ref a] H (fun v _ => v = .bl true) (fun _ _ _ => False) := by
  obtain ⟨s, e⟩ := h
  refine ⟨rfl, [], [], [.lro (ns.map W.int)], .cons (.lro ?_ (ints_rl ns)) .nil, ⟨rfl, List.nodup_nil, fun n a o h _ => by cases h⟩, .bl true, s, e, fun m' H' v _ _ r => by cases r; rfl⟩
  rcases hS with (h | h) | h
  · exfalso
    rcases hO a with q | ⟨o, xs, q⟩
    · rw [q] at h; cases h
    · rw [q] at h; cases h
  · exact .inl h
  · exact .inr h
end
end Mir
namespace Mir
open PySem L2
theorem ofString_inj {a b : String} : (Str.ofString a = Str.ofString b) ↔ a = b := by
  refine ⟨fun h => ?_, fun h => by rw [h]⟩
  have h1 : Str.ofStringByList a = Str.ofStringByList b := by rw [← Str.ofString_eq_byList]; exact h
  unfold Str.ofStringByList at h1
  injection h1 with h1
  have h2 : a.toList.map Char.toNat = b.toList.map Char.toNat := by simpa using congrArg Array.toList h1
  have inj : ∀ l m : List Char, l.map Char.toNat = m.map Char.toNat → l = m := by
    intro l
    induction l with
    | nil => intro m e; cases m with | nil => rfl | cons _ _ => cases e
    | cons x l ih =>
      intro m e
      cases m with
      | nil => cases e
      | cons y m =>
        injection e with e1 e2
        rw [ih m e2, Char.toNat_inj.mp e1]
  have h3 : a.toList = b.toList := inj _ _ h2
  exact String.toList_inj.mp h3
theorem hu65 {A : Around} {k : Nat} (hr : Room k A) : A.units + 65 < cLine := by
  have := hr.un
  omega
end Mir
namespace Mir
open PySem PySem.Spec PyProof.Rows L2
theorem cst_int {K : PySem.W.Frag} {mg : Str → Option Value} {x : Str} {i : Int} {t : Tok} (h : mg x = some (.int i t)) : Cst K mg x (.int i) := ⟨.int i, _, h, ⟨t, rfl⟩, fun _ _ => .int i⟩
theorem cst_str {K : PySem.W.Frag} {mg : Str → Option Value} {x : Str} {i : Str} {t : Tok} (h : mg x = some (.str i t)) : Cst K mg x (.str i) := ⟨.str i, _, h, ⟨t, rfl⟩, fun _ _ => .str i⟩
theorem cst_tup {K : PySem.W.Frag} {m : List Addr} {H : Hp} {a : Addr} {od : Option Addr} {its : Array Value} {n : Nat} {sl : Array (Option Value)} {vs : List V} {ws : List W} (h : K.lookup a = some ⟨.type "tuple", od, .seq its n, sl⟩) (hz : its.size ≤ 100000) (hv : Vals vs its.toList) (r : RL K m H ws vs) : R K m H (.tup ws) (.ref a) :=
  .tup (.inr ⟨_, its, n, h, rfl, rfl, szl hz, hv⟩) r
end Mir
namespace Mir
theorem bd_ite {α β : Type} {c : Prop} [Decidable c] {x y : Rz α} {f : α → Sto → Rz β} : bd (if c then x else y) f = if c then bd x f else bd y f := by split <;> rfl
theorem getapp {α : Type} (s : List α) (a : α) : (s ++ [a])[s.length]? = some a := by simp
theorem setapp {α : Type} (s : List α) (a b : α) : (s ++ [a]).set s.length b = s ++ [b] := by simp
end Mir
namespace Mir
theorem bd_congr {α β : Type} {x x' : Rz α} {f : α → Sto → Rz β} (h : x = x') : bd x f = bd x' f := by rw [h]
end Mir
namespace Mir
theorem tgM_name {i : Nat} {w : W} {ρ : EnvM} : tgM (.name i) w ρ = some (ρ.set i (some w)) := by rw [tgM]
theorem tgM_tup {ts : List Tg} {ws : List W} {ρ : EnvM} : tgM (.tup ts) (.tup ws) ρ = tgMs ts ws ρ := by rw [tgM]
theorem tgMs_nil {ρ : EnvM} : tgMs [] [] ρ = some ρ := by rw [tgMs]
theorem tgMs_name {i : Nat} {ts : List Tg} {w : W} {ws : List W} {ρ : EnvM} : tgMs (.name i :: ts) (w :: ws) ρ = tgMs ts ws (ρ.set i (some w)) := by rw [tgMs, tgM]
theorem tgMs_tup {us ts : List Tg} {vs ws : List W} {ρ ρ' : EnvM} (h : tgMs us vs ρ = some ρ') : tgMs (.tup us :: ts) (.tup vs :: ws) ρ = tgMs ts ws ρ' := by rw [tgMs, tgM, h]
end Mir

set_option Elab.async false
set_option linter.all false
namespace Mir
open PySem PySem.Spec PyProof.Rows L2
theorem lookup_rel {env : Env} {x : Str} : ∀ {names : List (Str × NameKind)}, names.lookup x = some .cell ∨ names.lookup x = some .free →
    (names.map fun (n, k) => if (k == NameKind.free && env.scope.kind == .function && env.kindOf n == some .cell) then (n, NameKind.cell) else (n, k)).lookup x = some .cell ∨
    (names.map fun (n, k) => if (k == NameKind.free && env.scope.kind == .function && env.kindOf n == some .cell) then (n, NameKind.cell) else (n, k)).lookup x = some .free
  | [], h => by simp at h
  | (n, k) :: r, h => by
    have ih := @lookup_rel env x r
    rw [List.map_cons]
    show List.lookup x ((if (k == NameKind.free && env.scope.kind == .function && env.kindOf n == some .cell) = true then (n, NameKind.cell) else (n, k)) :: _) = _ ∨ List.lookup x ((if (k == NameKind.free && env.scope.kind == .function && env.kindOf n == some .cell) = true then (n, NameKind.cell) else (n, k)) :: _) = _
    cases hx : x == n with
    | true =>
      simp only [List.lookup_cons, hx] at h
      by_cases hc : (k == NameKind.free && env.scope.kind == .function && env.kindOf n == some .cell) = true
      · rw [if_pos hc]; simp only [List.lookup_cons, hx]; exact .inl trivial
      · rw [if_neg hc]; simp only [List.lookup_cons, hx]; exact h
    | false =>
      simp only [List.lookup_cons, hx] at h
      by_cases hc : (k == NameKind.free && env.scope.kind == .function && env.kindOf n == some .cell) = true
      · rw [if_pos hc]; simp only [List.lookup_cons, hx]; exact ih h
      · rw [if_neg hc]; simp only [List.lookup_cons, hx]; exact ih h
theorem blk_in {X : Cx} {s : Shared} {H : Hp} {scope scope2 : Scope} {E : Env} {fp : List Addr} {cl : List (Str × Addr)} {C : Addr} {N : List Str} {own : List (Str × Nat)} (h : BlkOk N scope scope2 own) : BlkOk N (X.blk s H scope (compEnvC scope cl C E) fp).env.scope scope2 own :=
  ⟨h.kind, h.uniq, h.ix, fun y hy e => lookup_rel (h.free y hy e), h.own⟩
end Mir

set_option Elab.async false
set_option linter.all false
set_option maxRecDepth 100000
namespace Mir
open PySem PySem.Spec PyProof.Rows L2
section
variable {K : PySem.W.Frag}
/-! ### sorted(a list of ints) -/
def insI (x : Int) : List Int → List Int
  | [] => [x]
  | y :: r => if x ≤ y then x :: y :: r else y :: insI x r
def sortI : List Int → List Int
  | [] => []
  | x :: r => insI x (sortI r)
theorem insI_perm (x : Int) : ∀ l, (insI x l).Perm (x :: l)
  | [] => .refl _
  | y :: r => by
    rw [insI]
    split
    · exact .refl _
    · exact ((insI_perm x r).cons y).trans (.swap x y r)
theorem sortI_perm : ∀ l, (sortI l).Perm l
  | [] => .refl _
  | x :: r => (insI_perm x _).trans ((sortI_perm r).cons x)
theorem insI_up (x : Int) : ∀ {l : List Int}, l.Pairwise (· ≤ ·) → (insI x l).Pairwise (· ≤ ·)
  | [], _ => by rw [insI]; simp
  | y :: r, h => by
    rw [insI]
    rw [List.pairwise_cons] at h
    split
    · rename_i q
      rw [List.pairwise_cons]
      refine ⟨fun z hz => ?_, List.pairwise_cons.mpr h⟩
      rcases List.mem_cons.mp hz with rfl | hz
      · exact q
      · exact Int.le_trans q (h.1 z hz)
    · rename_i q
      rw [List.pairwise_cons]
      refine ⟨fun z hz => ?_, insI_up x h.2⟩
      rcases List.mem_cons.mp ((insI_perm x r).mem_iff.mp hz) with rfl | hz
      · omega
      · exact h.1 z hz
theorem sortI_up : ∀ l, (sortI l).Pairwise (· ≤ ·)
  | [] => .nil
  | x :: r => insI_up x (sortI_up r)
theorem up_perm : ∀ {a b : List Int}, a.Perm b → a.Pairwise (· ≤ ·) → b.Pairwise (· ≤ ·) → a = b
  | [], b, p, _, _ => (List.nil_perm.mp p).symm
  | x :: a, [], p, _, _ => (by have := p.length_eq; simp at this)
  | x :: a, y :: b, p, ha, hb => by
    rw [List.pairwise_cons] at ha hb
    have h1 : x = y ∨ y ≤ x := by
      rcases List.mem_cons.mp (p.mem_iff.mp (List.mem_cons_self (a := x) (l := a))) with e | e
      · exact .inl e
      · exact .inr (hb.1 x e)
    have h2 : y = x ∨ x ≤ y := by
      rcases List.mem_cons.mp (p.mem_iff.mpr (List.mem_cons_self (a := y) (l := b))) with e | e
      · exact .inl e
      · exact .inr (ha.1 y e)
    have e : x = y := by omega
    subst e
    rw [up_perm ((List.perm_cons x).mp p) ha.2 hb.2]
theorem sortI_uniq {a l : List Int} (p : a.Perm l) (h : a.Pairwise (· ≤ ·)) : a = sortI l := up_perm (p.trans (sortI_perm l).symm) h (sortI_up l)
theorem RL.ints {m : List Addr} {H : Hp} : ∀ l : List Int, RL K m H (l.map W.int) (l.map V.int)
  | [] => .nil
  | x :: r => .cons (.int x) (RL.ints r)
def gSorted : List W → Sto → Rz W := fun ws s => match ws with
  | [x] => match lstOf x s with
    | some xs => match intsOf xs with
      | some is => some (.ref s.length, s ++ [.lst ((sortI is).map W.int)])
      | none => none
    | none => none
  | _ => none
theorem f_sorted : CallF K (rSortedI K) gSorted := by
  intro m H s ws vs Q S r h
  cases r with
  | nil => exact nopeE h
  | @cons x v ws vs r1 r2 =>
    cases r2 with
    | cons _ _ => exact nopeE h
    | nil =>
      cases es : lstOf x s with
      | none => exact nopeE' h (by simp only [gSorted, es])
      | some xs =>
        cases eb : intsOf xs with
        | none => exact nopeE' h (by simp only [gSorted, es, eb])
        | some is =>
          simp only [gSorted, es, eb] at h
          obtain ⟨p, ys, rfl, hs, r⟩ := lst_of S r1 es
          rw [ints_of r eb] at hs
          refine ⟨p, is, rfl, hs, fun ns' q hp hu hq => ?_⟩
          obtain ⟨w, s', e2, q2⟩ := h
          cases e2
          rw [sortI_uniq hp hu]
          exact new_lst S (RL.ints _) hq q2
end
end Mir

set_option Elab.async false
set_option linter.all false
set_option maxRecDepth 100000
namespace Mir
open PySem PySem.Spec PyProof.Rows L2
/-! ### what a run of a mirror promises -/
def Wp {α : Type} (x : Rz α) (Q : α → Sto → Prop) : Prop := ∃ a s, x = some (a, s) ∧ Q a s
theorem Wp.mono {α : Type} {x : Rz α} {Q Q' : α → Sto → Prop} (h : Wp x Q) (q : ∀ a s, Q a s → Q' a s) : Wp x Q' := by
  obtain ⟨a, s, e, h⟩ := h
  exact ⟨a, s, e, q a s h⟩
theorem Wp.of {α : Type} {x : Rz α} {Q : α → Sto → Prop} {a : α} {s : Sto} (e : x = some (a, s)) (h : Q a s) : Wp x Q := ⟨a, s, e, h⟩
theorem wp_some {α : Type} {a : α} {s : Sto} {Q : α → Sto → Prop} : Wp (some (a, s)) Q = Q a s := propext ⟨fun ⟨_, _, e, h⟩ => by cases e; exact h, fun h => ⟨_, _, rfl, h⟩⟩
theorem wp_none {α : Type} {Q : α → Sto → Prop} : Wp (none : Rz α) Q = False := propext ⟨fun ⟨_, _, e, _⟩ => (by cases e), fun h => h.elim⟩
theorem wp_bd {α β : Type} {x : Rz α} {f : α → Sto → Rz β} {Q : β → Sto → Prop} : Wp (bd x f) Q = Wp x (fun a s => Wp (f a s) Q) := propext ⟨fun ⟨b, s, e, h⟩ => by
    obtain ⟨a, s1, e1, e2⟩ := bd_inv e
    exact ⟨a, s1, e1, b, s, e2, h⟩, fun ⟨a, s1, e1, b, s, e2, h⟩ => ⟨b, s, by rw [e1, bd_some, e2], h⟩⟩
theorem wp_ite {α : Type} {c : Prop} [Decidable c] {x y : Rz α} {Q : α → Sto → Prop} : Wp (if c then x else y) Q = if c then Wp x Q else Wp y Q := by split <;> rfl
/-! ### statements -/
/-- the statements of a list, one after the other -/
def runS : List FS → FS
  | [] => sNil
  | f :: r => sCons f (runS r)
def WpS (fs : List FS) (ρ : EnvM) (s : Sto) (Q : Out → Sto → Prop) : Prop := Wp (runS fs ρ s) Q
section
variable {fs : List FS} {f g : FS} {ρ : EnvM} {s : Sto} {Q : Out → Sto → Prop} {i j : Nat} {e : FE} {t : FT}
theorem wps_nil : WpS [] ρ s Q = Q (.nx ρ) s := wp_some
theorem wps_cut : WpS (f :: fs) ρ s Q = Wp (f ρ s) (fun o s1 => match o with | .nx ρ1 => WpS fs ρ1 s1 Q | o => Q o s1) := by
  unfold WpS
  rw [runS]
  unfold sCons
  rw [wp_bd]
  congr
  funext o s1
  cases o <;> first | rfl | simp only [wp_some]
theorem wps_one : WpS [f] ρ s Q = Wp (f ρ s) Q := by
  rw [wps_cut]
  congr
  funext o s1
  cases o <;> simp only [wps_nil]
theorem wps_cons : WpS (sCons f g :: fs) ρ s Q = WpS (f :: g :: fs) ρ s Q := by
  rw [wps_cut, wps_cut]
  unfold sCons
  rw [wp_bd]
  congr
  funext o s1
  cases o with
  | nx ρ1 => show Wp (g ρ1 s1) _ = WpS (g :: fs) ρ1 s1 Q; rw [wps_cut]
  | _ => simp only [wp_some]
theorem wps_pass : WpS (sNil :: fs) ρ s Q = WpS fs ρ s Q := by rw [wps_cut]; unfold sNil; rw [wp_some]
theorem wps_set : WpS (sSet i e :: fs) ρ s Q = Wp (e ρ s) (fun w s1 => WpS fs (ρ.set i (some w)) s1 Q) := by
  rw [wps_cut]; unfold sSet; rw [wp_bd]; simp only [wp_some]
theorem wps_do : WpS (sDo e :: fs) ρ s Q = Wp (e ρ s) (fun _ s1 => WpS fs ρ s1 Q) := by
  rw [wps_cut]; unfold sDo; rw [wp_bd]; simp only [wp_some]
theorem wps_ret : WpS (sRet e :: fs) ρ s Q = Wp (e ρ s) (fun w s1 => Q (.rt w) s1) := by
  rw [wps_cut]; unfold sRet; rw [wp_bd]; simp only [wp_some]
theorem wps_retN : WpS (sRetN :: fs) ρ s Q = Q (.rt .non) s := by
  rw [wps_cut]; unfold sRetN; rw [wp_some]
theorem wps_brk : WpS (sBrk :: fs) ρ s Q = Q (.bk ρ) s := by
  rw [wps_cut]; unfold sBrk; rw [wp_some]
theorem wps_cnt : WpS (sCnt :: fs) ρ s Q = Q (.ct ρ) s := by
  rw [wps_cut]; unfold sCnt; rw [wp_some]
theorem wps_if : WpS (sIf t f g :: fs) ρ s Q = Wp (t ρ s) (fun k s1 => if k = true then WpS (f :: fs) ρ s1 Q else WpS (g :: fs) ρ s1 Q) := by
  rw [wps_cut]; unfold sIf; rw [wp_bd]
  congr
  funext k s1
  rw [wp_ite, wps_cut, wps_cut]
theorem wps_asg {t : Tg} : WpS (sAsg t e :: fs) ρ s Q = Wp (e ρ s) (fun w s1 => match tgM t w ρ with | some ρ1 => WpS fs ρ1 s1 Q | none => False) := by
  rw [wps_cut]; unfold sAsg; rw [wp_bd]
  congr
  funext w s1
  cases tgM t w ρ with
  | none => simp only [wp_none]
  | some ρ1 => simp only [wp_some]
theorem wps_put {o i v : FE} : WpS (sPut o i v :: fs) ρ s Q = Wp (v ρ s) (fun w s1 => Wp (o ρ s1) (fun x s2 => Wp (i ρ s2) (fun y s3 => match setAt x y w s3 with | some s4 => WpS fs ρ s4 Q | none => False))) := by
  rw [wps_cut]; unfold sPut; simp only [wp_bd]
  congr; funext w s1; congr; funext x s2; congr; funext y s3
  cases setAt x y w s3 with
  | none => simp only [wp_none]
  | some ρ1 => simp only [wp_some]
theorem wps_dput {o i v : FE} : WpS (sDput o i v :: fs) ρ s Q = Wp (v ρ s) (fun w s1 => Wp (o ρ s1) (fun x s2 => Wp (i ρ s2) (fun y s3 => match dcOf x s3, keyW y with | some (n, kvs), some k => kvs.length ≤ 100000 ∧ WpS fs ρ (s3.set n (.dct (put kvs k w))) Q | _, _ => False))) := by
  rw [wps_cut]; unfold sDput; simp only [wp_bd]
  congr; funext w s1; congr; funext x s2; congr; funext y s3
  cases dcOf x s3 with
  | none => simp only [wp_none]
  | some p =>
    cases keyW y with
    | none => simp only [wp_none]
    | some k =>
      simp only [wp_ite, wp_some, wp_none]
      split
      · rename_i h; exact propext ⟨fun q => ⟨h, q⟩, fun q => q.2⟩
      · rename_i h; exact propext ⟨fun q => q.elim, fun q => h q.1⟩
theorem wps_aug {g : W → W → Sto → Rz W} : WpS (sAug i g e :: fs) ρ s Q = (match ρ[i]? with | some (some x) => Wp (e ρ s) (fun y s1 => Wp (g x y s1) (fun z s2 => WpS fs (ρ.set i (some z)) s2 Q)) | _ => False) := by
  rw [wps_cut]; unfold sAug
  cases hx : ρ[i]? with
  | none => simp only [hx, wp_none]
  | some o =>
    cases o with
    | none => simp only [hx, wp_none]
    | some x => simp only [hx, wp_bd, wp_some]
theorem wps_par {a : FA} : WpS (sPar i j a :: fs) ρ s Q = Wp (a ρ s) (fun ws s1 => match ws with | [v, w] => WpS fs ((ρ.set i (some v)).set j (some w)) s1 Q | _ => False) := by
  rw [wps_cut]; unfold sPar; rw [wp_bd]
  congr; funext ws s1
  split <;> simp only [wp_some, wp_none]
theorem wps_mid {M : EnvM → Sto → Prop} (h1 : WpS [f] ρ s (fun o s1 => match o with | .nx ρ1 => M ρ1 s1 | o => Q o s1)) (h2 : ∀ ρ1 s1, M ρ1 s1 → WpS fs ρ1 s1 Q) : WpS (f :: fs) ρ s Q := by
  rw [wps_one] at h1
  rw [wps_cut]
  refine h1.mono fun o s1 q => ?_
  cases o with
  | nx ρ1 => exact h2 ρ1 s1 q
  | _ => exact q
/-- a walk -/
def QL (fs : List FS) (I : EnvM → Sto → Prop) (Q : Out → Sto → Prop) : Out → Sto → Prop := fun o s => match o with
  | .nx ρ => I ρ s
  | .ct ρ => I ρ s
  | .bk ρ => WpS fs ρ s Q
  | .rt w => Q (.rt w) s
theorem ql_nx {I : EnvM → Sto → Prop} : QL fs I Q (.nx ρ) s = I ρ s := rfl
theorem ql_ct {I : EnvM → Sto → Prop} : QL fs I Q (.ct ρ) s = I ρ s := rfl
theorem ql_bk {I : EnvM → Sto → Prop} : QL fs I Q (.bk ρ) s = WpS fs ρ s Q := rfl
theorem ql_rt {I : EnvM → Sto → Prop} {w : W} : QL fs I Q (.rt w) s = Q (.rt w) s := rfl
theorem wps_for {it : FI} {t : Tg} : WpS (sFor it t f :: fs) ρ s Q = Wp (it ρ s) (fun x s1 => Wp (fo t f x.2 x.1 ρ s1) (fun o s2 => match o with | .nx ρ1 => WpS fs ρ1 s2 Q | o => Q o s2)) := by
  rw [wps_cut]; unfold sFor; rw [wp_bd]
theorem wp_fo {t : Tg} {c : Option (Nat × List W)} (I : Nat → EnvM → Sto → Prop) : ∀ (xs : List W) (k : Nat) (ρ : EnvM) (s : Sto), I k ρ s →
    (∀ (i : Nat) (x : W) (ρ : EnvM) (s : Sto), xs[i]? = some x → I (k + i) ρ s → okc c s ∧ ∃ ρ1, tgM t x ρ = some ρ1 ∧ WpS [f] ρ1 s (QL fs (fun ρ2 s2 => I (k + i + 1) ρ2 s2) Q)) →
    (∀ ρ s, I (k + xs.length) ρ s → okc c s ∧ WpS fs ρ s Q) → Wp (fo t f c xs ρ s) (fun o s2 => match o with | .nx ρ1 => WpS fs ρ1 s2 Q | o => Q o s2)
  | [], k, ρ, s, h0, _, he => by
    obtain ⟨h1, h2⟩ := he ρ s h0
    rw [fo, if_pos h1, wp_some]
    exact h2
  | x :: xs, k, ρ, s, h0, hs, he => by
    obtain ⟨h1, ρ1, h2, h3⟩ := hs 0 x ρ s rfl h0
    rw [fo, if_pos h1, h2]
    simp only [wp_bd]
    rw [wps_one] at h3
    refine h3.mono fun o s2 q => ?_
    have go : ∀ ρ2, I (k + 1) ρ2 s2 → Wp (fo t f c xs ρ2 s2) (fun o s2 => match o with | .nx ρ1 => WpS fs ρ1 s2 Q | o => Q o s2) := fun ρ2 q =>
      wp_fo I xs (k + 1) ρ2 s2 q (fun i y ρ s hy hi => by
        have e : k + 1 + i = k + (i + 1) := by omega
        rw [e] at hi ⊢
        exact hs (i + 1) y ρ s hy hi) fun ρ s hi => he ρ s (by rw [List.length_cons]; rw [show k + (xs.length + 1) = k + 1 + xs.length by omega]; exact hi)
    cases o with
    | nx ρ2 => exact go ρ2 q
    | ct ρ2 => exact go ρ2 q
    | bk ρ2 => simp only [wp_some]; exact q
    | rt w => simp only [wp_some]; exact q
theorem wps_wh {n : EnvM → Sto → Nat} : WpS (sWh n t f :: fs) ρ s Q = Wp (wh t f (n ρ s) ρ s) (fun o s2 => match o with | .nx ρ1 => WpS fs ρ1 s2 Q | o => Q o s2) := by
  rw [wps_cut]; unfold sWh; rfl
/-- while, with a number that goes down -/
theorem wp_wh (I : Nat → EnvM → Sto → Prop) (hs : ∀ (m : Nat) (ρ : EnvM) (s : Sto), I m ρ s → Wp (t ρ s) (fun k s1 => if k = true then WpS [f] ρ s1 (QL fs (fun ρ2 s2 => ∃ m', m' < m ∧ I m' ρ2 s2) Q) else WpS fs ρ s1 Q)) :
    ∀ (n m : Nat) (ρ : EnvM) (s : Sto), m < n → I m ρ s → Wp (wh t f n ρ s) (fun o s2 => match o with | .nx ρ1 => WpS fs ρ1 s2 Q | o => Q o s2)
  | 0, m, ρ, s, h, _ => absurd h (Nat.not_lt_zero m)
  | n + 1, m, ρ, s, h, h0 => by
    rw [wh, wp_bd]
    refine (hs m ρ s h0).mono fun k s1 q => ?_
    cases k with
    | false => simp only [Bool.false_eq_true, if_false, wp_some] at q ⊢; exact q
    | true =>
      simp only [if_true, wp_bd] at q ⊢
      rw [wps_one] at q
      refine q.mono fun o s2 q => ?_
      have go : ∀ ρ2, (∃ m', m' < m ∧ I m' ρ2 s2) → Wp (wh t f n ρ2 s2) (fun o s2 => match o with | .nx ρ1 => WpS fs ρ1 s2 Q | o => Q o s2) := fun ρ2 ⟨m', h', q⟩ => wp_wh I hs n m' ρ2 s2 (by omega) q
      cases o with
      | nx ρ2 => exact go ρ2 q
      | ct ρ2 => exact go ρ2 q
      | bk ρ2 => simp only [wp_some]; exact q
      | rt w => simp only [wp_some]; exact q
/-! ### calls -/
theorem wp_mkF {n N : Nat} {ws : List W} {R : W → Sto → Prop} (h : ws.length = n) : Wp (mkF n N f ws s) R = WpS [f] (ws.map some ++ List.replicate (N - ws.length) none) s (fun o s1 => match o with | .rt w => R w s1 | .nx _ => R .non s1 | _ => False) := by
  unfold mkF
  rw [if_pos h, wp_bd, wps_one]
  congr; funext o s1
  cases o <;> simp only [wp_some, wp_none]
/-! ### list comprehensions -/
theorem wp_lcf {t : Tg} {u : FT} {c : Option (Nat × List W)} {R : List W → Sto → Prop} (I : Nat → List W → Sto → Prop) : ∀ (xs : List W) (k : Nat) (acc : List W) (s : Sto), I k acc s →
    (∀ (i : Nat) (x : W) (acc : List W) (s : Sto), xs[i]? = some x → I (k + i) acc s → okc c s ∧ ∃ ρ1, tgM t x ρ = some ρ1 ∧ Wp (u ρ1 s) (fun b s1 => if b = true then Wp (e ρ1 s1) (fun w s2 => I (k + i + 1) (acc ++ [w]) s2) else I (k + i + 1) acc s1)) →
    (∀ acc' s, I (k + xs.length) acc' s → okc c s ∧ ∀ ws, acc' = acc ++ ws → R ws s) → Wp (lcf t u e c ρ xs s) R
  | [], k, acc, s, h0, _, he => by
    obtain ⟨h1, h2⟩ := he acc s h0
    rw [lcf, if_pos h1, wp_some]
    exact h2 [] (List.append_nil _).symm
  | x :: xs, k, acc, s, h0, hs, he => by
    obtain ⟨h1, ρ1, h2, h3⟩ := hs 0 x acc s rfl h0
    rw [lcf, if_pos h1, h2]
    simp only [wp_bd]
    have st : ∀ (i : Nat) (x : W) (acc : List W) (s : Sto), xs[i]? = some x → I (k + 1 + i) acc s → okc c s ∧ ∃ ρ1, tgM t x ρ = some ρ1 ∧ Wp (u ρ1 s) (fun b s1 => if b = true then Wp (e ρ1 s1) (fun w s2 => I (k + 1 + i + 1) (acc ++ [w]) s2) else I (k + 1 + i + 1) acc s1) := fun i y acc s hy hi => by
      have e : k + 1 + i = k + (i + 1) := by omega
      rw [e] at hi ⊢
      exact hs (i + 1) y acc s hy hi
    have hl : ∀ acc' s, I (k + 1 + xs.length) acc' s → okc c s ∧ ∀ ws, acc' = acc ++ ws → R ws s := fun a s hi => he a s (by rw [List.length_cons]; rw [show k + (xs.length + 1) = k + 1 + xs.length by omega]; exact hi)
    refine h3.mono fun b s1 q => ?_
    cases b with
    | false =>
      simp only [Bool.false_eq_true, if_false] at q ⊢
      exact wp_lcf I xs (k + 1) acc s1 q st hl
    | true =>
      simp only [if_true, wp_bd] at q ⊢
      refine q.mono fun w s2 q => ?_
      refine wp_lcf I xs (k + 1) (acc ++ [w]) s2 q st fun a s hi => ?_
      obtain ⟨h1, h2⟩ := hl a s hi
      refine ⟨h1, fun ws e => ?_⟩
      rw [wp_some]
      exact h2 (w :: ws) (by rw [e, List.append_assoc]; rfl)
theorem wp_lc {vs : List Nat} {it : FI} {t : Tg} {u : FT} {R : W → Sto → Prop} : Wp (eLc vs it t u e ρ s) R = Wp (it ρ s) (fun x s1 => x.1.length ≤ 100000 ∧ Wp (lcf t u e x.2 (wipeM ρ vs) x.1 s1) (fun ws s2 => R (.ref s2.length) (s2 ++ [.lst ws]))) := by
  unfold eLc
  rw [wp_bd]
  congr; funext x s1
  rw [wp_ite, wp_none, wp_bd]
  simp only [wp_some]
  split
  · rename_i h; exact propext ⟨fun q => ⟨h, q⟩, fun q => q.2⟩
  · rename_i h; exact propext ⟨fun q => q.elim, fun q => h q.1⟩
end
end Mir

set_option Elab.async false
set_option linter.all false
set_option maxRecDepth 100000
namespace Mir
open PySem PySem.Spec PyProof.Rows L2
/-! ### what a run leaves as it was -/
structure Fr (L : List Nat) (s s' : Sto) : Prop where
  len : s.length ≤ s'.length
  at_ : ∀ i o, i ∉ L → s[i]? = some o → s'[i]? = some o
theorem Fr.refl {L : List Nat} {s : Sto} : Fr L s s := ⟨Nat.le_refl _, fun _ _ _ h => h⟩
theorem Fr.trans {L : List Nat} {s s' s'' : Sto} (h : Fr L s s') (h' : Fr L s' s'') : Fr L s s'' := ⟨Nat.le_trans h.len h'.len, fun i o hi e => h'.at_ i o hi (h.at_ i o hi e)⟩
theorem Fr.mono {L L' : List Nat} {s s' : Sto} (h : Fr L s s') (q : ∀ i ∈ L, i ∈ L') : Fr L' s s' := ⟨h.len, fun i o hi e => h.at_ i o (fun z => hi (q i z)) e⟩
theorem Fr.app {L : List Nat} {s t : Sto} : Fr L s (s ++ t) := ⟨by simp, fun i o _ e => by rw [List.getElem?_append_left (List.getElem?_eq_some_iff.mp e).1]; exact e⟩
theorem Fr.set {L : List Nat} {s : Sto} {n : Nat} {o : O} (h : n ∈ L) : Fr L s (s.set n o) := ⟨by simp, fun i o' hi e => by rw [List.getElem?_set_ne (fun z => hi (by rw [← z]; exact h))]; exact e⟩
/-- what is newer than s may change at will -/
theorem Fr.new {L L' : List Nat} {s s1 s2 : Sto} (h : Fr L s s1) (h' : Fr (L' ++ L) s1 s2) (q : ∀ i ∈ L', s.length ≤ i) : Fr L s s2 :=
  ⟨Nat.le_trans h.len h'.len, fun i o hi e => h'.at_ i o (fun z => by
    rcases List.mem_append.mp z with z | z
    · have := (List.getElem?_eq_some_iff.mp e).1
      have := q i z
      omega
    · exact hi z) (h.at_ i o hi e)⟩
theorem getset {s : Sto} {r : Nat} {o o' : O} (h : s[r]? = some o) : (s.set r o')[r]? = some o' := by
  rw [List.getElem?_set_self (List.getElem?_eq_some_iff.mp h).1]
theorem getne {s : Sto} {r i : Nat} {o' : O} (h : i ≠ r) : (s.set r o')[i]? = s[i]? := List.getElem?_set_ne (fun e => h e.symm)
theorem setset {s : Sto} {r : Nat} {o o' : O} : (s.set r o).set r o' = s.set r o' := List.set_set ..
theorem gapp {s t : Sto} {r : Nat} {o : O} (h : s[r]? = some o) : (s ++ t)[r]? = some o := by
  rw [List.getElem?_append_left (List.getElem?_eq_some_iff.mp h).1]
  exact h
theorem gnew {s t : Sto} {o : O} : (s ++ o :: t)[s.length]? = some o := by simp
theorem gltn {s : Sto} {r : Nat} {o : O} (h : s[r]? = some o) : r < s.length := (List.getElem?_eq_some_iff.mp h).1
theorem gne {s : Sto} {r i : Nat} {o o' : O} (h : s[r]? = some o) (h' : s[i]? = some o') (n : o ≠ o') : r ≠ i := fun e => by subst e; rw [h] at h'; exact n (Option.some.inj h')
/-! ### operators at known values -/
theorem ii {f : Int → Int → W} {i j : Int} {s : Sto} : gII f (.int i) (.int j) s = some (f i j, s) := rfl
theorem mulR {i j : Int} {s : Sto} (h1 : -(2 ^ 64) < j) (h2 : j < 2 ^ 64) : Mir.gMul (.int i) (.int j) s = some (.int (i * j), s) := by
  simp only [Mir.gMul]
  rw [if_pos (.inr ⟨h1, h2⟩)]
theorem mulL {i j : Int} {s : Sto} (h1 : -(2 ^ 64) < i) (h2 : i < 2 ^ 64) : Mir.gMul (.int i) (.int j) s = some (.int (i * j), s) := by
  simp only [Mir.gMul]
  rw [if_pos (.inl ⟨h1, h2⟩)]
theorem modR {i j : Int} {s : Sto} (h1 : 0 < j) : gMod (.int i) (.int j) s = some (.int (i % j), s) := by
  simp only [gIIc, decide_eq_true h1, if_true]
theorem divR {i j : Int} {s : Sto} (h1 : 0 < j) (h2 : j < 1073741824) : gDiv (.int i) (.int j) s = some (.int (i / j), s) := by
  have h : decide (0 < j ∧ j < 1073741824) = true := decide_eq_true ⟨h1, h2⟩
  simp only [gIIc, h, if_true]
theorem addI {i j : Int} {s : Sto} : gAdd (.int i) (.int j) s = some (.int (i + j), s) := rfl
theorem subI {i j : Int} {s : Sto} : Mir.gSub (.int i) (.int j) s = some (.int (i - j), s) := rfl
theorem int1 {i : Int} {s : Sto} : gInt1 [.int i] s = some (.int i, s) := rfl
theorem negI {i : Int} {s : Sto} : gNeg (.int i) s = some (.int (-i), s) := rfl
theorem eqI {i j : Int} {s : Sto} : gEq (.int i) (.int j) s = some (.bl (decide (i = j)), s) := rfl
theorem neI {i j : Int} {s : Sto} : gNe (.int i) (.int j) s = some (.bl (!decide (i = j)), s) := rfl
theorem eqS {a b : Str} {s : Sto} : gEq (.str a) (.str b) s = some (.bl (decide (a = b)), s) := rfl
theorem neS {a b : Str} {s : Sto} : gNe (.str a) (.str b) s = some (.bl (!decide (a = b)), s) := rfl
theorem isN {x : W} {s : Sto} : gIs x .non s = some (.bl (Mir.isNon x), s) := by cases x <;> rfl
theorem isnN {x : W} {s : Sto} : gIsNot x .non s = some (.bl (!Mir.isNon x), s) := by cases x <;> rfl
theorem ix0 {a : W} {r : List W} {s : Sto} : gIx (.tup (a :: r)) (.int 0) s = some (a, s) := by
  have h : atI (a :: r) ((0 : Nat) : Int) = some a := atI_nat rfl
  have h : atI (a :: r) 0 = some a := h
  simp only [gIx, seqOf, h]
theorem ix1 {a b : W} {r : List W} {s : Sto} : gIx (.tup (a :: b :: r)) (.int 1) s = some (b, s) := by
  have h : atI (a :: b :: r) ((1 : Nat) : Int) = some b := atI_nat rfl
  have h : atI (a :: b :: r) 1 = some b := h
  simp only [gIx, seqOf, h]
theorem ix2 {a b c : W} {r : List W} {s : Sto} : gIx (.tup (a :: b :: c :: r)) (.int 2) s = some (c, s) := by
  have h : atI (a :: b :: c :: r) ((2 : Nat) : Int) = some c := atI_nat rfl
  have h : atI (a :: b :: c :: r) 2 = some c := h
  simp only [gIx, seqOf, h]
theorem ix3 {a b c d : W} {r : List W} {s : Sto} : gIx (.tup (a :: b :: c :: d :: r)) (.int 3) s = some (d, s) := by
  have h : atI (a :: b :: c :: d :: r) ((3 : Nat) : Int) = some d := atI_nat rfl
  have h : atI (a :: b :: c :: d :: r) 3 = some d := h
  simp only [gIx, seqOf, h]
theorem ixT {ws : List W} {i : Nat} {w : W} {s : Sto} (h : ws[i]? = some w) : gIx (.tup ws) (.int (i : Int)) s = some (w, s) := by
  simp only [gIx, seqOf, atI_nat h]
theorem ixL {n i : Nat} {ws : List W} {w : W} {s : Sto} (h : s[n]? = some (.lst ws)) (hi : ws[i]? = some w) : gIx (.ref n) (.int (i : Int)) s = some (w, s) := by
  simp only [gIx, seqOf, h, atI_nat hi]
theorem ixR {ws : List W} {i : Nat} {w : W} {s : Sto} (h : ws[i]? = some w) : gIx (.lro ws) (.int (i : Int)) s = some (w, s) := by
  simp only [gIx, seqOf, atI_nat h]
theorem lstR {n : Nat} {ws : List W} {s : Sto} (h : s[n]? = some (.lst ws)) : lstOf (.ref n) s = some ws := by simp only [lstOf, h]
theorem chkR {n : Nat} {ws : List W} : chkOf (.ref n) ws = some (n, ws) := rfl
theorem chkT {us ws : List W} : chkOf (.tup us) ws = none := rfl
theorem chkO {us ws : List W} : chkOf (.lro us) ws = none := rfl
theorem lstO {ws : List W} {s : Sto} : lstOf (.lro ws) s = some ws := rfl
theorem lenL {n : Nat} {ws : List W} {s : Sto} (h : s[n]? = some (.lst ws)) : gLen [.ref n] s = some (.int (ws.length : Int), s) := by
  simp only [gLen, lenW, h]
theorem lenT {ws : List W} {s : Sto} : gLen [.tup ws] s = some (.int (ws.length : Int), s) := rfl
theorem lenR {ws : List W} {s : Sto} : gLen [.lro ws] s = some (.int (ws.length : Int), s) := rfl
theorem listL {n : Nat} {ws : List W} {s : Sto} (h : s[n]? = some (.lst ws)) : gList [.ref n] s = some (.ref s.length, s ++ [.lst ws]) := by
  simp only [gList, seqOf, h]
theorem tupL {n : Nat} {ws : List W} {s : Sto} (h : s[n]? = some (.lst ws)) : gTuple [.ref n] s = some (.tup ws, s) := by
  simp only [gTuple, seqOf, h]
theorem isLR {n : Nat} {s : Sto} {ws : List W} (h : s[n]? = some (.lst ws)) : isL (.ref n) s = true := by simp only [isL, h]
theorem appL {n : Nat} {s : Sto} {ws : List W} {w : W} (h : s[n]? = some (.lst ws)) (hl : ws.length ≤ 100000) : gAppend (.ref n) [w] s = some (.non, s.set n (.lst (ws ++ [w]))) := by
  simp only [gLm, h, fAppend, hl, if_true]
theorem extL {n k : Nat} {s : Sto} {ws us : List W} (h : s[n]? = some (.lst ws)) (hk : s[k]? = some (.lst us)) (hl : ws.length + us.length ≤ 100000) : gExtend (.ref n) [.ref k] s = some (.non, s.set n (.lst (ws ++ us))) := by
  simp only [gLm, h, fExtend, hk, hl, if_true]
theorem popL {n : Nat} {s : Sto} {ws : List W} {w : W} (h : s[n]? = some (.lst (ws ++ [w]))) : gPop (.ref n) [] s = some (w, s.set n (.lst ws)) := by
  have e : (ws ++ [w])[(ws ++ [w]).length - 1]? = some w := by simp
  simp only [gLm, h, fPop, e, List.dropLast_concat]
theorem truL {n : Nat} {s : Sto} {ws : List W} (h : s[n]? = some (.lst ws)) : truW (.ref n) s = some (!ws.isEmpty) := by
  simp only [truW, h]
theorem truB {b : Bool} {s : Sto} : truW (.bl b) s = some b := rfl
theorem truN {s : Sto} : truW .non s = some false := rfl
theorem truT {ws : List W} {s : Sto} : truW (.tup ws) s = some (!ws.isEmpty) := rfl
theorem truI {i : Int} {s : Sto} : truW (.int i) s = some (i != 0) := rfl
theorem ixN_nat {n i : Nat} (h : i < n) : ixN n (i : Int) = some i := by
  unfold ixN
  rw [if_pos (by omega), if_pos (by omega)]
  simp
theorem putL {n i : Nat} {s : Sto} {ws : List W} {w : W} (h : s[n]? = some (.lst ws)) (hi : i < ws.length) : setAt (.ref n) (.int (i : Int)) w s = some (s.set n (.lst (ws.set i w))) := by
  simp only [setAt, h, ixN_nat hi]
theorem rngL {n : Nat} {s : Sto} (h : n ≤ 100000) : (if -(2 ^ 62) ≤ (n : Int) ∧ (n : Int) < 2 ^ 62 then some (((List.range (n : Int).toNat).map fun (i : Nat) => W.int (0 + (i : Int)), (none : Option (Nat × List W))), s) else none) = some (((List.range n).map fun (i : Nat) => W.int (i : Int), none), s) := by
  have key : ∀ j : Int, 0 ≤ j → j ≤ 100000 → (-(2 ^ 62) ≤ j ∧ j < 2 ^ 62) := fun j h0 h1 => by omega
  rw [if_pos (key (n : Int) (by omega) (by omega)), Int.toNat_natCast]
  simp only [Int.zero_add]
theorem rng1 {f : FE} {ρ : EnvM} {s s1 : Sto} {n : Nat} (e : f ρ s = some (.int (n : Int), s1)) (h : n ≤ 100000) : Mir.iRng1 f ρ s = some (((List.range n).map fun (i : Nat) => W.int (i : Int), none), s1) := by
  unfold Mir.iRng1
  rw [e, bd_some]
  exact rngL h
theorem wp_rng1 {f : FE} {ρ : EnvM} {s : Sto} {R : (List W × Option (Nat × List W)) → Sto → Prop} (h : Wp (f ρ s) (fun w s1 => ∃ n : Nat, w = .int (n : Int) ∧ n ≤ 100000 ∧ R ((List.range n).map fun (i : Nat) => W.int (i : Int), none) s1)) : Wp (Mir.iRng1 f ρ s) R := by
  obtain ⟨w, s1, e, n, rfl, hn, h⟩ := h
  exact ⟨_, _, rng1 e hn, h⟩
theorem wp_rng2 {f g : FE} {ρ : EnvM} {s : Sto} {R : (List W × Option (Nat × List W)) → Sto → Prop} (h : Wp (f ρ s) (fun w s1 => Wp (g ρ s1) (fun w' s2 => ∃ a b : Nat, w = .int (a : Int) ∧ w' = .int (b : Int) ∧ a ≤ 100000 ∧ b ≤ 100000 ∧ R ((List.range (b - a)).map fun (i : Nat) => W.int ((a : Int) + (i : Int)), none) s2))) : Wp (Mir.iRng2 f g ρ s) R := by
  obtain ⟨w, s1, e, w', s2, e', a, b, rfl, rfl, ha, hb, h⟩ := h
  have key : ∀ j : Int, 0 ≤ j → j ≤ 100000 → (-(2 ^ 62) ≤ j ∧ j < 2 ^ 62) := fun j h0 h1 => by omega
  refine ⟨_, _, ?_, h⟩
  unfold Mir.iRng2
  rw [e, bd_some, e', bd_some]
  have h1 := key (a : Int) (by omega) (by omega)
  have h2 := key (b : Int) (by omega) (by omega)
  simp only []
  rw [if_pos ⟨h1.1, h1.2, h2.1, h2.2⟩]
  have e3 : ((b : Int) - (a : Int)).toNat = b - a := by omega
  rw [e3]
/-! ### lists of ints, dicts, slices -/
abbrev wi (l : List Int) : List W := l.map W.int
theorem ixI {n i : Nat} {l : List Int} {v : Int} {s : Sto} (h : s[n]? = some (.lst (wi l))) (hi : l[i]? = some v) : gIx (.ref n) (.int (i : Int)) s = some (.int v, s) := ixL h (by rw [List.getElem?_map, hi]; rfl)
theorem look_some_of {kvs : List (Key × W)} {k k' : Key} {w v : W} (h : look kvs k' = some v) : look (kvs ++ [(k, w)]) k' = some v := by
  unfold look at h ⊢
  rw [List.find?_append]
  cases e : kvs.find? (fun kv => decide (kv.1 = k')) with
  | none => rw [e] at h; cases h
  | some x => rw [e] at h; exact h
theorem look_none_of {kvs : List (Key × W)} {k k' : Key} {w : W} (h : look kvs k' = none) : look (kvs ++ [(k, w)]) k' = if k = k' then some w else none := by
  unfold look at h ⊢
  rw [List.find?_append]
  cases e : kvs.find? (fun kv => decide (kv.1 = k')) with
  | some x => rw [e] at h; cases h
  | none =>
    by_cases q : k = k'
    · simp [List.find?, q]
    · simp [List.find?, q]
theorem put_new {kvs : List (Key × W)} {k : Key} {w : W} (h : look kvs k = none) : put kvs k w = kvs ++ [(k, w)] := by
  unfold put
  rw [if_neg]
  intro q
  obtain ⟨x, hx, e⟩ := List.any_eq_true.mp q
  unfold look at h
  cases e2 : kvs.find? (fun kv => decide (kv.1 = k)) with
  | some x => rw [e2] at h; cases h
  | none => exact absurd e (by simpa using List.find?_eq_none.mp e2 x hx)
theorem dcR {n : Nat} {s : Sto} {kvs : List (Key × W)} (h : s[n]? = some (.dct kvs)) : dcOf (.ref n) s = some (n, kvs) := by simp only [dcOf, h]
theorem keyI {i : Int} : keyW (.int i) = some (.inl i) := rfl
theorem keyS {i : Str} : keyW (.str i) = some (.inr i) := rfl
theorem slL {n a b : Nat} {ws : List W} {s : Sto} (h : s[n]? = some (.lst ws)) : gSlA (.ref n) (some (a : Int)) (some (b : Int)) s = some (.ref s.length, s ++ [.lst ((ws.drop a).take (b - a))]) := by
  have e : lstOf (.ref n) s = some ws := by simp only [lstOf, h]
  have key : (ws.drop (min a ws.length)).take (min b ws.length - min a ws.length) = (ws.drop a).take (b - a) := by
    apply List.ext_getElem?
    intro i
    simp only [List.getElem?_take, List.getElem?_drop]
    by_cases h : i < b - a ∧ a + i < ws.length
    · have e1 : min a ws.length = a := by omega
      rw [e1, if_pos (by omega), if_pos h.1]
    · have e2 : (if i < b - a then ws[a + i]? else none) = none := by
        split
        · exact List.getElem?_eq_none (by omega)
        · rfl
      rw [e2]
      split
      · exact List.getElem?_eq_none (by omega)
      · rfl
  simp only [gSlA, e, HT.sIx_nat]
  rw [key]
theorem eqv_ints : ∀ a b : List Int, PyData.eqvAll (a.map PyData.int) (b.map PyData.int) = decide (a = b)
  | [], [] => rfl
  | [], _ :: _ => rfl
  | _ :: _, [] => rfl
  | x :: a, y :: b => by
    simp only [List.map_cons, PyData.eqvAll, PyData.eqv, eqv_ints a b]
    by_cases h : x = y
    · by_cases q : a = b <;> simp [h, q]
    · simp [h]
theorem lay_ints : ∀ ns : List Int, PyData.canLayAll0 (ns.map PyData.int) = true
  | [] => rfl
  | n :: ns => by simp only [List.map_cons, PyData.canLayAll0, PyData.canLay0, lay_ints ns, Bool.and_self]
theorem dep_ints : ∀ ns : List Int, PyData.depthAll (ns.map PyData.int) ≤ 1
  | [] => by simp [PyData.depthAll]
  | n :: ns => by
    have := dep_ints ns
    simp only [List.map_cons, PyData.depthAll, PyData.depth]
    omega
theorem mapM_ints (s : Sto) : ∀ ns : List Int, (wi ns).mapM (pyS s 2) = some (ns.map PyData.int)
  | [] => rfl
  | n :: ns => by
    rw [wi, List.map_cons, List.mapM_cons, mapM_ints s ns]
    simp [pyS, pyW]
theorem shp_ints (ns : List Int) : SeqAt.shaped (.list (ns.map PyData.int)) = true := by
  have := dep_ints ns
  have hd : (PyData.list (ns.map PyData.int)).depth ≤ 64 := by rw [PyData.depth]; omega
  simp only [SeqAt.shaped, PyData.canLay0, lay_ints, Bool.true_and, decide_eq_true hd]
theorem eqw_ints {s : Sto} {a b : Nat} {x y : List Int} (ha : s[a]? = some (.lst (wi x))) (hb : s[b]? = some (.lst (wi y))) : eqW s (.ref a) (.ref b) = some (decide (x = y)) := by
  simp only [eqW, sEq, datEq, pyS, ha, hb, mapM_ints, Option.map_some, shp_ints, and_self, if_true, PyData.eqv, eqv_ints]
theorem ne_ints {s : Sto} {a b : Nat} {x y : List Int} (ha : s[a]? = some (.lst (wi x))) (hb : s[b]? = some (.lst (wi y))) : gNe (.ref a) (.ref b) s = some (.bl (!decide (x = y)), s) := by
  simp only [gNe, eqw_ints ha hb]
theorem eq_ints {s : Sto} {a b : Nat} {x y : List Int} (ha : s[a]? = some (.lst (wi x))) (hb : s[b]? = some (.lst (wi y))) : gEq (.ref a) (.ref b) s = some (.bl (decide (x = y)), s) := by
  simp only [gEq, eqw_ints ha hb]
theorem ints_wi : ∀ l : List Int, intsOf (wi l) = some l
  | [] => rfl
  | x :: r => by
    show intsOf (W.int x :: wi r) = _
    rw [intsOf, ints_wi r]
theorem sumL {n : Nat} {l : List Int} {s : Sto} (h : s[n]? = some (.lst (wi l))) : gSum [.ref n] s = some (.int l.sum, s) := by
  simp only [gSum, lstR h, ints_wi]
/-! ### the tape of the laws -/
noncomputable def BMix : FS := (sCons (sSet 0 (eOp gMod (eFn gInt1 (aCons (eOp gAdd (eOp gMul (eVar 0) (eC (.int 6364136223846793005))) (eC (.int 1442695040888963407))) aNil)) (eC (.int 18446744073709551616))))
    (sRet (eOp gMod (eFn gInt1 (aCons (eOp gAdd (eOp gDivW (eOp gMul (eVar 0) (eVar 0)) (eC (.int 4294967296))) (eOp gMul (eVar 0) (eC (.int 69621)))) aNil)) (eC (.int 18446744073709551557)))))
noncomputable def TMix : List W → Sto → Rz W := mkF 1 1 BMix
noncomputable def BTake : FS := (sCons (sIf (bTest (eOp gLt (eOp gIx (eVar 0) (eC (.int 2))) (eVar 1))) (sIf (bTest (eOp gLt (eOp gIx (eVar 0) (eC (.int 1))) (eFn gLen (aCons (eOp gIx (eVar 0) (eC (.int 0))) aNil)))) (sCons (sSet 2 (eOp gIx (eOp gIx (eVar 0) (eC (.int 0))) (eOp gIx (eVar 0) (eC (.int 1)))))
    (sCons (sSet 2 (eIf (bTest (eOp gGe (eVar 2) (eC (.int 0)))) (eOp gMul (eC (.int 2)) (eVar 2)) (eOp gSub (eOp gMul (eUn gNeg (eC (.int 2))) (eVar 2)) (eC (.int 1)))))
    (sCons (sPut (eVar 0) (eC (.int 1)) (eOp gAdd (eOp gIx (eVar 0) (eC (.int 1))) (eC (.int 1))))
    (sCons (sPut (eVar 0) (eC (.int 3)) (eFn TMix (aCons (eOp gAdd (eOp gIx (eVar 0) (eC (.int 3))) (eVar 2)) aNil)))
    (sPut (eVar 0) (eC (.int 2)) (eIf (bTest (eOp gGe (eVar 2) (eOp gPow (eC (.int 10)) (eC (.int 18))))) (eVar 2) (eFn TMix (aCons (eFn TMix (aCons (eVar 2) aNil)) aNil)))))))) (sCons (sPut (eVar 0) (eC (.int 3)) (eFn TMix (aCons (eOp gAdd (eOp gIx (eVar 0) (eC (.int 3))) (eC (.int 1))) aNil)))
    (sPut (eVar 0) (eC (.int 2)) (eOp gIx (eVar 0) (eC (.int 3)))))) sNil)
    (sCons (sSet 3 (eOp gMod (eFn gInt1 (aCons (eOp gIx (eVar 0) (eC (.int 2))) aNil)) (eVar 1)))
    (sCons (sPut (eVar 0) (eC (.int 2)) (eOp gDiv (eOp gIx (eVar 0) (eC (.int 2))) (eVar 1)))
    (sRet (eVar 3)))))
noncomputable def TTake : List W → Sto → Rz W := mkF 2 4 BTake
def mixM (n : Int) : Int := (n * 6364136223846793005 + 1442695040888963407) % 18446744073709551616
def mixI (n : Int) : Int := (mixM n * mixM n / 4294967296 + mixM n * 69621) % 18446744073709551557
theorem mix_ok {n : Int} {s : Sto} : TMix [.int n] s = some (.int (mixI n), s) := by
  have m1 : Mir.gMul (.int n) (.int 6364136223846793005) s = some (.int (n * 6364136223846793005), s) := mulR (by decide) (by decide)
  have m2 : gMod (.int (n * 6364136223846793005 + 1442695040888963407)) (.int 18446744073709551616) s = some (.int (mixM n), s) := modR (by decide)
  have h0 : 0 ≤ mixM n := Int.emod_nonneg _ (by decide)
  have h1 : mixM n < 18446744073709551616 := Int.emod_lt_of_pos _ (by decide)
  have m3 : Mir.gMul (.int (mixM n)) (.int (mixM n)) s = some (.int (mixM n * mixM n), s) := mulR (Int.lt_of_lt_of_le (by decide) h0) (by rw [show (2 : Int) ^ 64 = 18446744073709551616 by decide +kernel]; exact h1)
  have m4 : gDivW (.int (mixM n * mixM n)) (.int 4294967296) s = some (.int (mixM n * mixM n / 4294967296), s) := by
    have h : decide ((0 : Int) < 4294967296 ∧ (4294967296 : Int).natAbs.log2 < 9000) = true := by decide +kernel
    simp only [gIIc, h, if_true]
  have m5 : Mir.gMul (.int (mixM n)) (.int 69621) s = some (.int (mixM n * 69621), s) := mulR (by decide) (by decide)
  have m6 : gMod (.int (mixM n * mixM n / 4294967296 + mixM n * 69621)) (.int 18446744073709551557) s = some (.int (mixI n), s) := modR (by decide)
  unfold TMix BMix
  simp only [mkF, bd_some, bd_none, sCons, sNil, sSet, sAsg, sPar, sDo, sRet, sRetN, sIf, sPut, sAug, sBrk, sCnt, sFor, iSeq, iEnu, Mir.iRev, Mir.iRng1, Mir.iRng2, eVar, eC, eOp, eUn, eFn, eMt, aNil, aCons, eTup, eLst, eAnd, eOr, eNot, eIf, bTest, bTruth, bAnd, bOr, bNot, bYes, eSl, pNo, pAt, tgM_name, tgM_tup, tgMs_nil, tgMs_name, tgMs_tup, List.getElem?_cons_succ, List.getElem?_cons_zero, List.set_cons_succ, List.set_cons_zero, List.map_cons, List.map_nil, List.length_cons, List.length_nil, List.replicate, List.nil_append, List.cons_append, if_true, if_false, Bool.false_eq_true, Nat.reduceAdd, Nat.reduceSub, Nat.reduceLeDiff, Nat.zero_add, Bool.not_true, Bool.not_false, m1, addI, int1, m2, m3, m4, m5, m6]
/-- the tape in the store -/
structure Tape (s : Sto) (r rc : Nat) (cs : List Int) : Prop where
  tape : ∃ (a : Nat) (b c : Int) (w : W), s[r]? = some (.lst [.ref rc, .int (a : Int), .int b, .int c, w])
  cells : s[rc]? = some (.lst (cs.map W.int))
theorem Tape.ne {s : Sto} {r rc : Nat} {cs : List Int} (T : Tape s r rc cs) : rc ≠ r := fun h => by
  obtain ⟨a, b, c, w, e⟩ := T.tape
  have := T.cells
  rw [h, e] at this
  cases cs <;> simp at this



/-- the store with the tape written down -/
def tp (s : Sto) (r : Nat) (x0 x1 x2 x3 x4 : W) : Sto := s.set r (.lst [x0, x1, x2, x3, x4])
theorem tp_get {s : Sto} {r : Nat} {x0 x1 x2 x3 x4 : W} (h : r < s.length) : (tp s r x0 x1 x2 x3 x4)[r]? = some (.lst [x0, x1, x2, x3, x4]) := List.getElem?_set_self h
theorem tp_ne {s : Sto} {r i : Nat} {x0 x1 x2 x3 x4 : W} (h : i ≠ r) : (tp s r x0 x1 x2 x3 x4)[i]? = s[i]? := getne h
theorem s_tp {s : Sto} {r : Nat} {x0 x1 x2 x3 x4 : W} (e : s[r]? = some (.lst [x0, x1, x2, x3, x4])) : tp s r x0 x1 x2 x3 x4 = s := by
  apply List.ext_getElem?
  intro i
  by_cases h : i = r
  · subst h; rw [tp_get (List.getElem?_eq_some_iff.mp e).1, e]
  · exact tp_ne h
theorem take_core {s : Sto} {r rc : Nat} {cs : List Int} {m : Int} (h : r < s.length) (hne : rc ≠ r) (hrc : s[rc]? = some (.lst (cs.map W.int))) (h0 : 0 < m) (h1 : m < 1073741824) (a : Nat) (b c : Int) (w : W) :
    ∃ (d : Int) (a' : Nat) (b' c' : Int), TTake [.ref r, .int m] (tp s r (.ref rc) (.int (a : Int)) (.int b) (.int c) w) = some (.int d, tp s r (.ref rc) (.int (a' : Int)) (.int b') (.int c') w) ∧ 0 ≤ d ∧ d < m := by
  have gi0 : ∀ x0 x1 x2 x3 x4 : W, gIx (.ref r) (.int 0) (tp s r x0 x1 x2 x3 x4) = some (x0, tp s r x0 x1 x2 x3 x4) := fun x0 x1 x2 x3 x4 => by simp only [gIx, seqOf, tp_get h]; rfl
  have gi1 : ∀ x0 x1 x2 x3 x4 : W, gIx (.ref r) (.int 1) (tp s r x0 x1 x2 x3 x4) = some (x1, tp s r x0 x1 x2 x3 x4) := fun x0 x1 x2 x3 x4 => by simp only [gIx, seqOf, tp_get h]; rfl
  have gi2 : ∀ x0 x1 x2 x3 x4 : W, gIx (.ref r) (.int 2) (tp s r x0 x1 x2 x3 x4) = some (x2, tp s r x0 x1 x2 x3 x4) := fun x0 x1 x2 x3 x4 => by simp only [gIx, seqOf, tp_get h]; rfl
  have gi3 : ∀ x0 x1 x2 x3 x4 : W, gIx (.ref r) (.int 3) (tp s r x0 x1 x2 x3 x4) = some (x3, tp s r x0 x1 x2 x3 x4) := fun x0 x1 x2 x3 x4 => by simp only [gIx, seqOf, tp_get h]; rfl
  have ix1 : ixN 5 1 = some 1 := by decide
  have ix2 : ixN 5 2 = some 2 := by decide
  have ix3 : ixN 5 3 = some 3 := by decide
  have st1 : ∀ x0 x1 x2 x3 x4 y : W, setAt (.ref r) (.int 1) y (tp s r x0 x1 x2 x3 x4) = some (tp s r x0 y x2 x3 x4) := fun x0 x1 x2 x3 x4 y => by
    simp only [setAt, tp_get h, List.length_cons, List.length_nil, Nat.zero_add, Nat.reduceAdd, ix1]
    simp only [tp, setset]
    rfl
  have st2 : ∀ x0 x1 x2 x3 x4 y : W, setAt (.ref r) (.int 2) y (tp s r x0 x1 x2 x3 x4) = some (tp s r x0 x1 y x3 x4) := fun x0 x1 x2 x3 x4 y => by
    simp only [setAt, tp_get h, List.length_cons, List.length_nil, Nat.zero_add, Nat.reduceAdd, ix2]
    simp only [tp, setset]
    rfl
  have st3 : ∀ x0 x1 x2 x3 x4 y : W, setAt (.ref r) (.int 3) y (tp s r x0 x1 x2 x3 x4) = some (tp s r x0 x1 x2 y x4) := fun x0 x1 x2 x3 x4 y => by
    simp only [setAt, tp_get h, List.length_cons, List.length_nil, Nat.zero_add, Nat.reduceAdd, ix3]
    simp only [tp, setset]
    rfl
  have gl : ∀ x0 x1 x2 x3 x4 : W, gLen [.ref rc] (tp s r x0 x1 x2 x3 x4) = some (.int (cs.length : Int), tp s r x0 x1 x2 x3 x4) := fun x0 x1 x2 x3 x4 => by simp [gLen, lenW, seqOf, tp_ne hne, hrc]
  have lo : ∀ x : Int, 0 ≤ x % m := fun x => Int.emod_nonneg _ (by omega)
  have hi : ∀ x : Int, x % m < m := fun x => Int.emod_lt_of_pos _ h0
  have ea : ((a : Int) + 1) = ((a + 1 : Nat) : Int) := by omega
  have e13 : ∀ s : Sto, gPow (.int 10) (.int 18) s = some (.int 1000000000000000000, s) := fun s => by
    have h : decide ((0 : Int) ≤ 18 ∧ (18 : Int) ≤ 1000000 ∧ (10 : Int).natAbs < 2 ^ 64) = true := by decide
    simp only [gIIc, h, if_true]
    rfl
  have neg2 : ∀ s : Sto, gNeg (.int 2) s = some (.int (-2), s) := fun s => rfl
  have mu2 : ∀ (x : Int) (s : Sto), Mir.gMul (.int 2) (.int x) s = some (.int (2 * x), s) := fun x s => by
    simp only [Mir.gMul]
    rw [if_pos (.inl ⟨by decide, by decide⟩)]
  have mun : ∀ (x : Int) (s : Sto), Mir.gMul (.int (-2)) (.int x) s = some (.int (-2 * x), s) := fun x s => by
    simp only [Mir.gMul]
    rw [if_pos (.inl ⟨by decide, by decide⟩)]
  unfold TTake BTake
  by_cases hb : b < m
  · have l1 : ∀ s, gLt (.int b) (.int m) s = some (.bl true, s) := fun s => by simp only [gII, decide_eq_true hb]
    by_cases ha : a < cs.length
    · have l2 : ∀ s, gLt (.int (a : Int)) (.int (cs.length : Int)) s = some (.bl true, s) := fun s => by simp only [gII, decide_eq_true (show (a : Int) < (cs.length : Int) by omega)]
      have gc : ∀ x0 x1 x2 x3 x4 : W, gIx (.ref rc) (.int (a : Int)) (tp s r x0 x1 x2 x3 x4) = some (.int cs[a], tp s r x0 x1 x2 x3 x4) := fun x0 x1 x2 x3 x4 => by
        have : (cs.map W.int)[a]? = some (.int cs[a]) := by simp [ha]
        simp only [gIx, seqOf, tp_ne hne, hrc, atI_nat this]
      have main : ∀ z : Int, (∀ s : Sto, bd (gGe (.int cs[a]) (.int 0) s) (fun x s1 => match x with
            | .bl k => some (k, s1)
            | _ => none) = some (decide (0 ≤ cs[a]), s)) → True := fun _ _ => trivial
      by_cases hz : 0 ≤ cs[a]
      · have g0 : ∀ s, gGe (.int cs[a]) (.int 0) s = some (.bl true, s) := fun s => by simp only [gII, decide_eq_true hz]
        by_cases hg : 1000000000000000000 ≤ 2 * cs[a]
        · have g1 : ∀ s, gGe (.int (2 * cs[a])) (.int 1000000000000000000) s = some (.bl true, s) := fun s => by simp only [gII, decide_eq_true hg]
          refine ⟨(2 * cs[a]) % m, a + 1, (2 * cs[a]) / m, mixI (c + 2 * cs[a]), ?_, lo _, hi _⟩
          simp only [mkF, bd_some, bd_none, sCons, sNil, sSet, sAsg, sPar, sDo, sRet, sRetN, sIf, sPut, sAug, sBrk, sCnt, sFor, iSeq, iEnu, Mir.iRev, Mir.iRng1, Mir.iRng2, eVar, eC, eOp, eUn, eFn, eMt, aNil, aCons, eTup, eLst, eAnd, eOr, eNot, eIf, bTest, bTruth, bAnd, bOr, bNot, bYes, eSl, pNo, pAt, tgM_name, tgM_tup, tgMs_nil, tgMs_name, tgMs_tup, List.getElem?_cons_succ, List.getElem?_cons_zero, List.set_cons_succ, List.set_cons_zero, List.map_cons, List.map_nil, List.length_cons, List.length_nil, List.replicate, List.nil_append, List.cons_append, if_true, if_false, Bool.false_eq_true, Nat.reduceAdd, Nat.reduceSub, Nat.reduceLeDiff, Nat.zero_add, Bool.not_true, Bool.not_false, gi0, gi1, gi2, gi3, l1, gl, l2, gc, g0, mu2, addI, ea, st1, st2, st3, mix_ok, e13, g1, int1, modR h0, divR h0 h1]
        · have g1 : ∀ s, gGe (.int (2 * cs[a])) (.int 1000000000000000000) s = some (.bl false, s) := fun s => by simp only [gII, decide_eq_false hg]
          refine ⟨(mixI (mixI (2 * cs[a]))) % m, a + 1, (mixI (mixI (2 * cs[a]))) / m, mixI (c + 2 * cs[a]), ?_, lo _, hi _⟩
          simp only [mkF, bd_some, bd_none, sCons, sNil, sSet, sAsg, sPar, sDo, sRet, sRetN, sIf, sPut, sAug, sBrk, sCnt, sFor, iSeq, iEnu, Mir.iRev, Mir.iRng1, Mir.iRng2, eVar, eC, eOp, eUn, eFn, eMt, aNil, aCons, eTup, eLst, eAnd, eOr, eNot, eIf, bTest, bTruth, bAnd, bOr, bNot, bYes, eSl, pNo, pAt, tgM_name, tgM_tup, tgMs_nil, tgMs_name, tgMs_tup, List.getElem?_cons_succ, List.getElem?_cons_zero, List.set_cons_succ, List.set_cons_zero, List.map_cons, List.map_nil, List.length_cons, List.length_nil, List.replicate, List.nil_append, List.cons_append, if_true, if_false, Bool.false_eq_true, Nat.reduceAdd, Nat.reduceSub, Nat.reduceLeDiff, Nat.zero_add, Bool.not_true, Bool.not_false, gi0, gi1, gi2, gi3, l1, gl, l2, gc, g0, mu2, addI, ea, st1, st2, st3, mix_ok, e13, g1, int1, modR h0, divR h0 h1]
      · have g0 : ∀ s, gGe (.int cs[a]) (.int 0) s = some (.bl false, s) := fun s => by simp only [gII, decide_eq_false hz]
        by_cases hg : 1000000000000000000 ≤ -2 * cs[a] - 1
        · have g1 : ∀ s, gGe (.int (-2 * cs[a] - 1)) (.int 1000000000000000000) s = some (.bl true, s) := fun s => by simp only [gII, decide_eq_true hg]
          refine ⟨(-2 * cs[a] - 1) % m, a + 1, (-2 * cs[a] - 1) / m, mixI (c + (-2 * cs[a] - 1)), ?_, lo _, hi _⟩
          simp only [mkF, bd_some, bd_none, sCons, sNil, sSet, sAsg, sPar, sDo, sRet, sRetN, sIf, sPut, sAug, sBrk, sCnt, sFor, iSeq, iEnu, Mir.iRev, Mir.iRng1, Mir.iRng2, eVar, eC, eOp, eUn, eFn, eMt, aNil, aCons, eTup, eLst, eAnd, eOr, eNot, eIf, bTest, bTruth, bAnd, bOr, bNot, bYes, eSl, pNo, pAt, tgM_name, tgM_tup, tgMs_nil, tgMs_name, tgMs_tup, List.getElem?_cons_succ, List.getElem?_cons_zero, List.set_cons_succ, List.set_cons_zero, List.map_cons, List.map_nil, List.length_cons, List.length_nil, List.replicate, List.nil_append, List.cons_append, if_true, if_false, Bool.false_eq_true, Nat.reduceAdd, Nat.reduceSub, Nat.reduceLeDiff, Nat.zero_add, Bool.not_true, Bool.not_false, gi0, gi1, gi2, gi3, l1, gl, l2, gc, g0, neg2, mun, subI, addI, ea, st1, st2, st3, mix_ok, e13, g1, int1, modR h0, divR h0 h1]
        · have g1 : ∀ s, gGe (.int (-2 * cs[a] - 1)) (.int 1000000000000000000) s = some (.bl false, s) := fun s => by simp only [gII, decide_eq_false hg]
          refine ⟨(mixI (mixI (-2 * cs[a] - 1))) % m, a + 1, (mixI (mixI (-2 * cs[a] - 1))) / m, mixI (c + (-2 * cs[a] - 1)), ?_, lo _, hi _⟩
          simp only [mkF, bd_some, bd_none, sCons, sNil, sSet, sAsg, sPar, sDo, sRet, sRetN, sIf, sPut, sAug, sBrk, sCnt, sFor, iSeq, iEnu, Mir.iRev, Mir.iRng1, Mir.iRng2, eVar, eC, eOp, eUn, eFn, eMt, aNil, aCons, eTup, eLst, eAnd, eOr, eNot, eIf, bTest, bTruth, bAnd, bOr, bNot, bYes, eSl, pNo, pAt, tgM_name, tgM_tup, tgMs_nil, tgMs_name, tgMs_tup, List.getElem?_cons_succ, List.getElem?_cons_zero, List.set_cons_succ, List.set_cons_zero, List.map_cons, List.map_nil, List.length_cons, List.length_nil, List.replicate, List.nil_append, List.cons_append, if_true, if_false, Bool.false_eq_true, Nat.reduceAdd, Nat.reduceSub, Nat.reduceLeDiff, Nat.zero_add, Bool.not_true, Bool.not_false, gi0, gi1, gi2, gi3, l1, gl, l2, gc, g0, neg2, mun, subI, addI, ea, st1, st2, st3, mix_ok, e13, g1, int1, modR h0, divR h0 h1]
    · have l2 : ∀ s, gLt (.int (a : Int)) (.int (cs.length : Int)) s = some (.bl false, s) := fun s => by simp only [gII, decide_eq_false (show ¬ (a : Int) < (cs.length : Int) by omega)]
      refine ⟨mixI (c + 1) % m, a, mixI (c + 1) / m, mixI (c + 1), ?_, lo _, hi _⟩
      simp only [mkF, bd_some, bd_none, sCons, sNil, sSet, sAsg, sPar, sDo, sRet, sRetN, sIf, sPut, sAug, sBrk, sCnt, sFor, iSeq, iEnu, Mir.iRev, Mir.iRng1, Mir.iRng2, eVar, eC, eOp, eUn, eFn, eMt, aNil, aCons, eTup, eLst, eAnd, eOr, eNot, eIf, bTest, bTruth, bAnd, bOr, bNot, bYes, eSl, pNo, pAt, tgM_name, tgM_tup, tgMs_nil, tgMs_name, tgMs_tup, List.getElem?_cons_succ, List.getElem?_cons_zero, List.set_cons_succ, List.set_cons_zero, List.map_cons, List.map_nil, List.length_cons, List.length_nil, List.replicate, List.nil_append, List.cons_append, if_true, if_false, Bool.false_eq_true, Nat.reduceAdd, Nat.reduceSub, Nat.reduceLeDiff, Nat.zero_add, Bool.not_true, Bool.not_false, gi0, gi1, gi2, gi3, l1, gl, l2, addI, st1, st2, st3, mix_ok, int1, modR h0, divR h0 h1]
  · have l1 : ∀ s, gLt (.int b) (.int m) s = some (.bl false, s) := fun s => by simp only [gII, decide_eq_false hb]
    refine ⟨b % m, a, b / m, c, ?_, lo _, hi _⟩
    simp only [mkF, bd_some, bd_none, sCons, sNil, sSet, sAsg, sPar, sDo, sRet, sRetN, sIf, sPut, sAug, sBrk, sCnt, sFor, iSeq, iEnu, Mir.iRev, Mir.iRng1, Mir.iRng2, eVar, eC, eOp, eUn, eFn, eMt, aNil, aCons, eTup, eLst, eAnd, eOr, eNot, eIf, bTest, bTruth, bAnd, bOr, bNot, bYes, eSl, pNo, pAt, tgM_name, tgM_tup, tgMs_nil, tgMs_name, tgMs_tup, List.getElem?_cons_succ, List.getElem?_cons_zero, List.set_cons_succ, List.set_cons_zero, List.map_cons, List.map_nil, List.length_cons, List.length_nil, List.replicate, List.nil_append, List.cons_append, if_true, if_false, Bool.false_eq_true, Nat.reduceAdd, Nat.reduceSub, Nat.reduceLeDiff, Nat.zero_add, Bool.not_true, Bool.not_false, gi0, gi1, gi2, gi3, l1, st2, int1, modR h0, divR h0 h1]

theorem Tape.fr {s s' : Sto} {r rc : Nat} {cs : List Int} {L : List Nat} (T : Tape s r rc cs) (h : Fr L s s') (h1 : r ∉ L) (h2 : rc ∉ L) : Tape s' r rc cs := by
  obtain ⟨a, b, c, w, e⟩ := T.tape
  exact ⟨⟨a, b, c, w, h.at_ _ _ h1 e⟩, h.at_ _ _ h2 T.cells⟩
theorem Tape.app {s : Sto} {r rc : Nat} {cs : List Int} (T : Tape s r rc cs) (t : Sto) : Tape (s ++ t) r rc cs := by
  obtain ⟨a, b, c, w, e⟩ := T.tape
  exact ⟨⟨a, b, c, w, gapp e⟩, gapp T.cells⟩
theorem Tape.lt {s : Sto} {r rc : Nat} {cs : List Int} (T : Tape s r rc cs) : r < s.length ∧ rc < s.length := by
  obtain ⟨a, b, c, w, e⟩ := T.tape
  exact ⟨gltn e, gltn T.cells⟩
theorem Tape.other {s : Sto} {r rc n : Nat} {cs : List Int} {ws : List W} (T : Tape s r rc cs) (h : s[n]? = some (.lst ws)) (hn : ∀ x y z : W, ∀ m, ws ≠ [.ref m, x, y, z, .int 0]) : True := trivial
theorem take_ok {s : Sto} {r rc : Nat} {cs : List Int} (T : Tape s r rc cs) (m : Int) (h0 : 0 < m) (h1 : m < 1073741824) :
    ∃ (d : Int) (s' : Sto), TTake [.ref r, .int m] s = some (.int d, s') ∧ 0 ≤ d ∧ d < m ∧ Tape s' r rc cs ∧ Fr [r] s s' ∧ s'.length = s.length := by
  obtain ⟨a, b, c, w, e⟩ := T.tape
  have hl := (List.getElem?_eq_some_iff.mp e).1
  obtain ⟨d, a', b', c', e1, d0, d1⟩ := take_core hl T.ne T.cells h0 h1 a b c w
  rw [s_tp e] at e1
  exact ⟨d, _, e1, d0, d1, ⟨⟨a', b', c', w, tp_get hl⟩, by rw [tp_ne T.ne]; exact T.cells⟩, ⟨by simp [tp], fun i o hi eo => by rw [tp_ne (fun z => hi (by rw [z]; exact List.mem_singleton_self _))]; exact eo⟩, by simp [tp]⟩
/-- take, as a number below m -/
theorem take_wp {s : Sto} {r rc : Nat} {cs : List Int} {R : W → Sto → Prop} (T : Tape s r rc cs) (m : Nat) (h0 : 0 < m) (h1 : m ≤ 1000000) (h : ∀ (d : Nat) (s' : Sto), d < m → Tape s' r rc cs → Fr [r] s s' → s'.length = s.length → R (.int (d : Int)) s') : Wp (TTake [.ref r, .int (m : Int)] s) R := by
  obtain ⟨d, s', e, d0, d1, T', f, l⟩ := take_ok T (m : Int) (by omega) (by omega)
  obtain ⟨k, rfl⟩ : ∃ k : Nat, d = (k : Int) := ⟨d.toNat, by omega⟩
  exact ⟨_, _, e, h k s' (by omega) T' f l⟩
noncomputable def BTape : FS := (sRet (eLst (aCons (eFn gList (aCons (eVar 0) aNil)) (aCons (eC (.int 0)) (aCons (eC (.int 0)) (aCons (eC (.int 1)) (aCons (eVar 1) aNil)))))))
noncomputable def TTape : List W → Sto → Rz W := mkF 2 2 BTape
theorem tape_ok (ns : List Int) : TTape [.lro (ns.map W.int), .int 0] [] = some (.ref 1, [.lst (ns.map W.int), .lst [.ref 0, .int 0, .int 0, .int 1, .int 0]]) := by
  have gl : gList [.lro (ns.map W.int)] [] = some (.ref 0, [.lst (ns.map W.int)]) := rfl
  unfold TTape BTape
  simp only [mkF, bd_some, bd_none, sCons, sNil, sSet, sAsg, sPar, sDo, sRet, sRetN, sIf, sPut, sAug, sBrk, sCnt, sFor, iSeq, iEnu, Mir.iRev, Mir.iRng1, Mir.iRng2, eVar, eC, eOp, eUn, eFn, eMt, aNil, aCons, eTup, eLst, eAnd, eOr, eNot, eIf, bTest, bTruth, bAnd, bOr, bNot, bYes, eSl, pNo, pAt, tgM_name, tgM_tup, tgMs_nil, tgMs_name, tgMs_tup, List.getElem?_cons_succ, List.getElem?_cons_zero, List.set_cons_succ, List.set_cons_zero, List.map_cons, List.map_nil, List.length_cons, List.length_nil, List.replicate, List.nil_append, List.cons_append, if_true, if_false, Bool.false_eq_true, Nat.reduceAdd, Nat.reduceSub, Nat.reduceLeDiff, Nat.zero_add, Bool.not_true, Bool.not_false, gl]
theorem tape_T (ns : List Int) : Tape [.lst (ns.map W.int), .lst [.ref 0, .int 0, .int 0, .int 1, .int 0]] 1 0 ns := ⟨⟨0, 0, 1, .int 0, rfl⟩, rfl⟩
end Mir

set_option Elab.async false
set_option linter.all false
set_option maxRecDepth 100000
namespace Cg
/-! ### blocks and the words of which they are made -/
structure Bk where
  a : Int
  b : Int
  c : Int
  fs : List Int
def Bk.hd (x : Bk) : List Int := [x.a, x.b, x.c, (x.fs.length : Int)]
def Bk.fl (x : Bk) : List Int := x.hd ++ x.fs
def Bk.sz (x : Bk) : Nat := 4 + x.fs.length
def flat : List Bk → List Int
  | [] => []
  | x :: r => x.fl ++ flat r
def tot : List Nat → Nat
  | [] => 0
  | x :: r => x + tot r
def off (B : List Bk) (i : Nat) : Nat := tot ((B.map Bk.sz).take i)
theorem fl_len (x : Bk) : x.fl.length = x.sz := by simp [Bk.fl, Bk.hd, Bk.sz]; omega
theorem flat_len : ∀ B : List Bk, (flat B).length = tot (B.map Bk.sz)
  | [] => rfl
  | x :: r => by rw [flat, List.length_append, fl_len, flat_len r, List.map_cons, tot]
theorem flat_app : ∀ B C : List Bk, flat (B ++ C) = flat B ++ flat C
  | [], C => rfl
  | x :: r, C => by rw [List.cons_append, flat, flat_app r C, flat, List.append_assoc]
theorem off_zero (B : List Bk) : off B 0 = 0 := rfl
theorem off_succ (x : Bk) (B : List Bk) (i : Nat) : off (x :: B) (i + 1) = x.sz + off B i := rfl
theorem tot_app : ∀ a b : List Nat, tot (a ++ b) = tot a + tot b
  | [], b => by rw [List.nil_append, tot, Nat.zero_add]
  | x :: r, b => by rw [List.cons_append, tot, tot_app r b, tot, Nat.add_assoc]
theorem off_all (B : List Bk) : off B B.length = (flat B).length := by
  rw [flat_len, off, List.take_of_length_le (by simp)]
theorem off_step : ∀ {B : List Bk} {i : Nat} {x : Bk}, B[i]? = some x → off B (i + 1) = off B i + x.sz
  | [], i, x, h => by cases h
  | y :: r, 0, x, h => by cases h; rw [off_succ, off_zero, off_zero]; omega
  | y :: r, i + 1, x, h => by
    have := off_step (B := r) (i := i) h
    rw [off_succ, off_succ, this]; omega
theorem off_mono {B : List Bk} {i j : Nat} (h : i ≤ j) (hj : j ≤ B.length) : off B i ≤ off B j := by
  induction h with
  | refl => exact Nat.le_refl _
  | @step m h ih =>
    have hm : m < B.length := by omega
    have := off_step (List.getElem?_eq_getElem hm)
    have := ih (by omega)
    show off B i ≤ off B (m + 1)
    omega
theorem sz_pos (x : Bk) : 4 ≤ x.sz := by unfold Bk.sz; omega
theorem off_lt {B : List Bk} {i j : Nat} (h : i < j) (hj : j ≤ B.length) : off B i < off B j := by
  have hi : i < B.length := by omega
  have h1 := off_step (List.getElem?_eq_getElem hi)
  have h2 := off_mono (B := B) (i := i + 1) (j := j) h hj
  have := sz_pos B[i]
  omega
theorem off_inj {B : List Bk} {i j : Nat} (hi : i < B.length) (hj : j < B.length) (h : off B i = off B j) : i = j := by
  rcases Nat.lt_trichotomy i j with q | q | q
  · have := off_lt (B := B) q (by omega); omega
  · exact q
  · have := off_lt (B := B) q (by omega); omega
theorem flat_get : ∀ {B : List Bk} {i k : Nat} {x : Bk}, B[i]? = some x → k < x.sz → (flat B)[off B i + k]? = x.fl[k]?
  | [], i, k, x, h, _ => by cases h
  | y :: r, 0, k, x, h, hk => by
    cases h
    rw [off_zero, Nat.zero_add, flat, List.getElem?_append_left (by rw [fl_len]; exact hk)]
  | y :: r, i + 1, k, x, h, hk => by
    rw [off_succ, flat, List.getElem?_append_right (by rw [fl_len]; omega), fl_len]
    have := flat_get (B := r) (i := i) (k := k) h hk
    rw [show y.sz + off r i + k - y.sz = off r i + k by omega]
    exact this
theorem flat_cut : ∀ {B : List Bk} {i : Nat} {x : Bk}, B[i]? = some x → ((flat B).drop (off B i)).take x.sz = x.fl
  | [], i, x, h => by cases h
  | y :: r, 0, x, h => by
    cases h
    rw [off_zero, List.drop_zero, flat, List.take_append_of_le_length (by rw [fl_len]; exact Nat.le_refl _), List.take_of_length_le (by rw [fl_len]; exact Nat.le_refl _)]
  | y :: r, i + 1, x, h => by
    rw [off_succ, flat, List.drop_append, List.drop_of_length_le (by rw [fl_len]; omega), List.nil_append, fl_len, show y.sz + off r i - y.sz = off r i by omega]
    exact flat_cut (B := r) (i := i) h
theorem off_end {B : List Bk} {i : Nat} {x : Bk} (h : B[i]? = some x) : off B i + x.sz ≤ (flat B).length := by
  rw [← off_step h, ← off_all]
  exact off_mono (List.getElem?_eq_some_iff.mp h).1 (Nat.le_refl _)
/-- a field is written -/
theorem flat_put : ∀ {B : List Bk} {i k : Nat} {x : Bk} (w : Int), B[i]? = some x → k < x.fs.length → (flat B).set (off B i + 4 + k) w = flat (B.set i { x with fs := x.fs.set k w })
  | [], i, k, x, w, h, _ => by cases h
  | y :: r, 0, k, x, w, h, hk => by
    cases h
    rw [off_zero, List.set_cons_zero, flat, flat, List.set_append_left _ _ (by rw [fl_len, Bk.sz]; omega)]
    congr 1
    unfold Bk.fl Bk.hd
    rw [List.set_append_right _ _ (by simp)]
    simp
  | y :: r, i + 1, k, x, w, h, hk => by
    rw [off_succ, List.set_cons_succ, flat, flat, List.set_append_right _ _ (by rw [fl_len]; omega), fl_len]
    have := flat_put (B := r) (i := i) (k := k) w h hk
    rw [show y.sz + off r i + 4 + k - y.sz = off r i + 4 + k by omega, this]
theorem put_szs : ∀ {B : List Bk} {i k : Nat} {x : Bk} (w : Int), B[i]? = some x → (B.set i { x with fs := x.fs.set k w }).map Bk.sz = B.map Bk.sz
  | [], i, k, x, w, h => by cases h
  | y :: r, 0, k, x, w, h => by cases h; simp [Bk.sz]
  | y :: r, i + 1, k, x, w, h => by
    rw [List.set_cons_succ, List.map_cons, List.map_cons, put_szs (B := r) w h]
theorem off_eq {B C : List Bk} (h : B.map Bk.sz = C.map Bk.sz) (i : Nat) : off B i = off C i := by unfold off; rw [h]
/-! ### pointers -/
/-- the word names block i of B -/
def Ptr (B : List Bk) (w : Int) (i : Nat) : Prop := i < B.length ∧ w = 4 * (off B i : Int) + 1
/-- a word that may stand in a field: none that names a block, or one that names one of B -/
def Gw (B : List Bk) (w : Int) : Prop := w % 4 = 1 → ∃ i, Ptr B w i
def Wf (B : List Bk) : Prop := ∀ x ∈ B, ∀ w ∈ x.fs, Gw B w
theorem Ptr.mod {B : List Bk} {w : Int} {i : Nat} (h : Ptr B w i) : w % 4 = 1 := by rw [h.2]; omega
theorem Ptr.div {B : List Bk} {w : Int} {i : Nat} (h : Ptr B w i) : w / 4 = (off B i : Int) := by rw [h.2]; omega
theorem Ptr.uniq {B : List Bk} {w : Int} {i j : Nat} (h : Ptr B w i) (h' : Ptr B w j) : i = j := by
  refine off_inj h.1 h'.1 ?_
  have := h.2; have := h'.2; omega
/-- what is reached from the roots -/
inductive Rch (B : List Bk) (rt : List Int) : Nat → Prop
  | root {w : Int} {i : Nat} : w ∈ rt → Ptr B w i → Rch B rt i
  | step {i j : Nat} {x : Bk} {w : Int} : Rch B rt i → B[i]? = some x → w ∈ x.fs → Ptr B w j → Rch B rt j
theorem Rch.lt {B : List Bk} {rt : List Int} {i : Nat} (h : Rch B rt i) : i < B.length := by cases h with | root _ p => exact p.1 | step _ _ _ p => exact p.1
/-- closed under what is reached -/
theorem Rch.sub {B : List Bk} {rt : List Int} {S : List Nat} (h1 : ∀ w ∈ rt, ∀ i, Ptr B w i → i ∈ S) (h2 : ∀ i ∈ S, ∀ x, B[i]? = some x → ∀ w ∈ x.fs, ∀ j, Ptr B w j → j ∈ S) {i : Nat} (h : Rch B rt i) : i ∈ S := by
  induction h with
  | root h p => exact h1 _ h _ p
  | step _ e hw p ih => exact h2 _ ih _ e _ hw _ p
/-! ### sums over the same things in another order -/
def szAt (B : List Bk) (i : Nat) : Nat := ((B[i]?).map Bk.sz).getD 0
theorem tot_perm {α : Type} (f : α → Nat) {a b : List α} (h : a.Perm b) : tot (a.map f) = tot (b.map f) := by
  induction h with
  | nil => rfl
  | cons x _ ih => simp only [List.map_cons, tot, ih]
  | swap x y l => simp only [List.map_cons, tot]; omega
  | trans _ _ h1 h2 => exact h1.trans h2
theorem perm_of {a b : List Nat} (ha : a.Nodup) (hb : b.Nodup) (h : ∀ i, i ∈ a ↔ i ∈ b) : a.Perm b := (List.perm_ext_iff_of_nodup ha hb).mpr h
theorem tot_range (B : List Bk) : tot ((List.range B.length).map (szAt B)) = (flat B).length := by
  rw [flat_len]
  congr 1
  apply List.ext_getElem?
  intro i
  rw [List.getElem?_map, List.getElem?_map]
  by_cases h : i < B.length
  · rw [List.getElem?_range h, List.getElem?_eq_getElem h]; simp [szAt, List.getElem?_eq_getElem h]
  · rw [List.getElem?_eq_none (by simp; omega), List.getElem?_eq_none (by omega)]; rfl
theorem szAt_eq {B : List Bk} {i : Nat} {x : Bk} (h : B[i]? = some x) : szAt B i = x.sz := by simp [szAt, h]
end Cg

set_option Elab.async false
set_option linter.all false
set_option maxRecDepth 100000
namespace Cg
open PySem PySem.Spec PyProof.Rows L2 Mir
noncomputable def BWordOfBlock : FS := (sRet (eOp gAdd (eOp gMul (eC (.int 4)) (eVar 0)) (eC (.int 1))))
noncomputable def FWordOfBlock : List W → Sto → Rz W := mkF 1 1 BWordOfBlock
noncomputable def BNamesBlock : FS := (sRet (eOp gEq (eOp gMod (eVar 0) (eC (.int 4))) (eC (.int 1))))
noncomputable def FNamesBlock : List W → Sto → Rz W := mkF 1 1 BNamesBlock
noncomputable def BAddressOf : FS := (sRet (eOp gDiv (eVar 0) (eC (.int 4))))
noncomputable def FAddressOf : List W → Sto → Rz W := mkF 1 1 BAddressOf
noncomputable def BBlockLength : FS := (sRet (eOp gAdd (eC (.int 4)) (eOp gIx (eVar 0) (eOp gSub (eOp gAdd (eVar 1) (eC (.int 4))) (eC (.int 1))))))
noncomputable def FBlockLength : List W → Sto → Rz W := mkF 2 2 BBlockLength
noncomputable def BMovedWord : FS := (sCons (sIf (bNot (bTruth (eFn FNamesBlock (aCons (eVar 1) aNil)))) (sRet (eVar 1)) sNil)
    (sCons (sSet 4 (eFn FAddressOf (aCons (eVar 1) aNil)))
    (sCons (sIf (bTest (eDin true (eVar 4) (eVar 3))) (sCons (sDput (eVar 3) (eVar 4) (eFn gLen (aCons (eVar 2) aNil)))
    (sDo (eMt isL gExtend (eVar 2) (aCons (eSl gSlA (eVar 0) (pAt (eVar 4)) (pAt (eOp gAdd (eVar 4) (eFn FBlockLength (aCons (eVar 0) (aCons (eVar 4) aNil)))))) aNil)))) sNil)
    (sRet (eFn FWordOfBlock (aCons (eDget (eVar 3) (eVar 4)) aNil))))))
noncomputable def FMovedWord : List W → Sto → Rz W := mkF 4 5 BMovedWord
noncomputable def BCollect : FS := (sCons (sSet 2 (eLst aNil))
    (sCons (sSet 3 eDnew)
    (sCons (sSet 4 (eLc [8] (iSeq (eVar 1)) (.name 8) bYes (eFn FMovedWord (aCons (eVar 0) (aCons (eVar 8) (aCons (eVar 2) (aCons (eVar 3) aNil)))))))
    (sCons (sSet 5 (eC (.int 0)))
    (sCons (sWh (fun _ _ => 100000) (bTest (eOp gLt (eVar 5) (eFn gLen (aCons (eVar 2) aNil)))) (sCons (sSet 6 (eOp gAdd (eVar 5) (eFn FBlockLength (aCons (eVar 2) (aCons (eVar 5) aNil)))))
    (sCons (sFor (iRng2 (eOp gAdd (eVar 5) (eC (.int 4))) (eVar 6)) (.name 7) (sPut (eVar 2) (eVar 7) (eFn FMovedWord (aCons (eVar 0) (aCons (eOp gIx (eVar 2) (eVar 7)) (aCons (eVar 2) (aCons (eVar 3) aNil)))))))
    (sSet 5 (eVar 6)))))
    (sRet (eTup (aCons (eVar 2) (aCons (eVar 4) aNil)))))))))
noncomputable def FCollect : List W → Sto → Rz W := mkF 2 9 BCollect
noncomputable def BReachable : FS := (sRet (eFn gLen (aCons (eOp gIx (eFn FCollect (aCons (eVar 0) (aCons (eVar 1) aNil))) (eC (.int 0))) aNil)))
noncomputable def FReachable : List W → Sto → Rz W := mkF 2 2 BReachable
noncomputable def BLawWord : FS := (sCons (sSet 2 (eFn TTake (aCons (eVar 0) (aCons (eC (.int 4)) aNil))))
    (sCons (sIf (bAnd (bTest (eOp gGt (eVar 2) (eC (.int 1)))) (bTest (eOp gGt (eFn gLen (aCons (eVar 1) aNil)) (eC (.int 0))))) (sRet (eOp gAdd (eOp gMul (eC (.int 4)) (eOp gIx (eVar 1) (eFn TTake (aCons (eVar 0) (aCons (eFn gLen (aCons (eVar 1) aNil)) aNil))))) (eC (.int 1)))) sNil)
    (sCons (sIf (bTest (eOp gEq (eVar 2) (eC (.int 1)))) (sRet (eOp gAdd (eOp gMul (eC (.int 4)) (eOp gAdd (eOp gMul (eC (.int 16)) (eFn TTake (aCons (eVar 0) (aCons (eC (.int 5)) aNil)))) (eFn TTake (aCons (eVar 0) (aCons (eC (.int 12)) aNil))))) (eC (.int 2)))) sNil)
    (sRet (eIf (bTest (eOp gEq (eFn TTake (aCons (eVar 0) (aCons (eC (.int 3)) aNil))) (eC (.int 0)))) (eC (.int 3)) (eOp gMul (eC (.int 4)) (eOp gSub (eFn TTake (aCons (eVar 0) (aCons (eC (.int 100)) aNil))) (eC (.int 50)))))))))
noncomputable def FLawWord : List W → Sto → Rz W := mkF 2 3 BLawWord
noncomputable def BLawWords : FS := (sCons (sSet 1 (eLst aNil))
    (sCons (sSet 2 (eLst aNil))
    (sCons (sFor (iRng1 (eFn TTake (aCons (eVar 0) (aCons (eC (.int 9)) aNil)))) (.name 3) (sCons (sDo (eMt isL gAppend (eVar 2) (aCons (eFn gLen (aCons (eVar 1) aNil)) aNil)))
    (sCons (sSet 4 (eFn TTake (aCons (eVar 0) (aCons (eC (.int 4)) aNil))))
    (sCons (sDo (eMt isL gExtend (eVar 1) (aCons (eLst (aCons (eFn TTake (aCons (eVar 0) (aCons (eC (.int 7)) aNil))) (aCons (eFn TTake (aCons (eVar 0) (aCons (eC (.int 9)) aNil))) (aCons (eFn TTake (aCons (eVar 0) (aCons (eC (.int 12)) aNil))) (aCons (eVar 4) aNil))))) aNil)))
    (sDo (eMt isL gExtend (eVar 1) (aCons (eLc [5] (iRng1 (eVar 4)) (.name 5) bYes (eC (.int 0))) aNil)))))))
    (sCons (sFor (iSeq (eVar 2)) (.name 6) (sFor (iRng1 (eOp gIx (eVar 1) (eOp gAdd (eVar 6) (eC (.int 3))))) (.name 5) (sPut (eVar 1) (eOp gAdd (eOp gAdd (eVar 6) (eC (.int 4))) (eVar 5)) (eFn FLawWord (aCons (eVar 0) (aCons (eVar 2) aNil))))))
    (sRet (eTup (aCons (eVar 1) (aCons (eVar 2) aNil))))))))
noncomputable def FLawWords : List W → Sto → Rz W := mkF 1 7 BLawWords
noncomputable def BLawLive : FS := (sCons (sSet 2 (eLst aNil))
    (sCons (sSet 3 (eFn gList (aCons (eVar 1) aNil)))
    (sCons (sWh (fun _ _ => 100000) (bTest (eOp gGt (eFn gLen (aCons (eVar 3) aNil)) (eC (.int 0)))) (sCons (sSet 4 (eMt isL gPop (eVar 3) aNil))
    (sIf (bAnd (bTest (eOp gEq (eOp gMod (eVar 4) (eC (.int 4))) (eC (.int 1)))) (bTest (eOp gNotIn (eVar 4) (eVar 2)))) (sCons (sDo (eMt isL gAppend (eVar 2) (aCons (eVar 4) aNil)))
    (sCons (sSet 5 (eOp gDiv (eVar 4) (eC (.int 4))))
    (sDo (eMt isL gExtend (eVar 3) (aCons (eSl gSlA (eVar 0) (pAt (eOp gAdd (eVar 5) (eC (.int 4)))) (pAt (eOp gAdd (eOp gAdd (eVar 5) (eC (.int 4))) (eOp gIx (eVar 0) (eOp gAdd (eVar 5) (eC (.int 3))))))) aNil))))) sNil)))
    (sRet (eVar 2)))))
noncomputable def FLawLive : List W → Sto → Rz W := mkF 2 6 BLawLive

/-! ### the collection -/
def bat (B : List Bk) (i : Nat) : Bk := (B[i]?).getD ⟨0, 0, 0, []⟩
theorem bat_eq {B : List Bk} {i : Nat} (h : i < B.length) : B[i]? = some (bat B i) := by unfold bat; rw [List.getElem?_eq_getElem h]; rfl
theorem bat_sz {B : List Bk} {i : Nat} (h : i < B.length) : (bat B i).sz = szAt B i := (szAt_eq (bat_eq h)).symm
def noff (B : List Bk) (ms : List Nat) (j : Nat) : Nat := tot ((ms.map (szAt B)).take j)
theorem noff_ext {B : List Bk} {ms t : List Nat} {j : Nat} (h : j ≤ ms.length) : noff B (ms ++ t) j = noff B ms j := by
  unfold noff
  rw [List.map_append, List.take_append_of_le_length (by simpa using h)]
/-- where a word leads to, after the collection -/
def Fwd (B : List Bk) (ms : List Nat) (w w' : Int) : Prop := (w % 4 ≠ 1 ∧ w' = w) ∨ ∃ i j, Ptr B w i ∧ ms[j]? = some i ∧ w' = 4 * (noff B ms j : Int) + 1
theorem Fwd.ext {B : List Bk} {ms : List Nat} {w w' : Int} (t : List Nat) (h : Fwd B ms w w') : Fwd B (ms ++ t) w w' := by
  rcases h with h | ⟨i, j, h1, h2, h3⟩
  · exact .inl h
  · have hj := (List.getElem?_eq_some_iff.mp h2).1
    exact .inr ⟨i, j, h1, by rw [List.getElem?_append_left hj]; exact h2, by rw [noff_ext (by omega)]; exact h3⟩
structure Ch (B : List Bk) (ms : List Nat) (kvs : List (Key × W)) : Prop where
  nd : ms.Nodup
  lt : ∀ i ∈ ms, i < B.length
  ln : kvs.length = ms.length
  mv : ∀ j i, ms[j]? = some i → look kvs (.inl (off B i : Int)) = some (.int (noff B ms j : Int))
  no : ∀ i, i < B.length → i ∉ ms → look kvs (.inl (off B i : Int)) = none
theorem Ch.nil {B : List Bk} : Ch B [] [] := ⟨.nil, fun _ h => (by cases h), rfl, fun _ _ h => (by cases h), fun _ _ _ => rfl⟩
theorem Ch.add {B : List Bk} {ms : List Nat} {kvs : List (Key × W)} (h : Ch B ms kvs) {i : Nat} (hi : i < B.length) (hn : i ∉ ms) : Ch B (ms ++ [i]) (kvs ++ [(.inl (off B i : Int), .int (noff B ms ms.length : Int))]) := by
  have offne : ∀ k, k < B.length → k ≠ i → (off B k : Int) ≠ (off B i : Int) := fun k hk hki e => hki (off_inj hk hi (by omega))
  refine ⟨?_, ?_, by simp [h.ln], fun j k e => ?_, fun k hk hm => ?_⟩
  · rw [List.nodup_append]
    refine ⟨h.nd, by simp, fun a ha b hb => ?_⟩
    rw [List.mem_singleton.mp hb]
    rintro rfl
    exact hn ha
  · intro k hk
    rcases List.mem_append.mp hk with hk | hk
    · exact h.lt k hk
    · rw [List.mem_singleton.mp hk]; exact hi
  · by_cases hj : j < ms.length
    · rw [List.getElem?_append_left hj] at e
      rw [noff_ext (by omega)]
      exact look_some_of (h.mv j k e)
    · rw [List.getElem?_append_right (by omega)] at e
      have hj' : j - ms.length = 0 := by
        have := (List.getElem?_eq_some_iff.mp e).1
        simp at this
        omega
      rw [hj'] at e
      cases e
      have : j = ms.length := by omega
      subst this
      rw [noff_ext (Nat.le_refl _), look_none_of (h.no i hi hn), if_pos rfl]
  · rw [List.mem_append, not_or] at hm
    have hki : k ≠ i := fun e => hm.2 (by rw [e]; exact List.mem_singleton_self _)
    rw [look_none_of (h.no k hk hm.1), if_neg]
    intro e
    exact offne k hk hki (Sum.inl.inj e).symm
theorem Ch.find {B : List Bk} {ms : List Nat} {kvs : List (Key × W)} (h : Ch B ms kvs) {i : Nat} (hi : i ∈ ms) : ∃ j, ms[j]? = some i ∧ look kvs (.inl (off B i : Int)) = some (.int (noff B ms j : Int)) := by
  obtain ⟨j, hj⟩ := List.mem_iff_getElem?.mp hi
  exact ⟨j, hj, h.mv j i hj⟩
/-- the blocks are few and small -/
structure Sm (B : List Bk) : Prop where
  len : B.length ≤ 100
  sz : ∀ x ∈ B, x.sz ≤ 100
theorem tot_le {k : Nat} : ∀ {l : List Nat}, (∀ x ∈ l, x ≤ k) → tot l ≤ l.length * k
  | [], _ => by rw [tot]; exact Nat.zero_le _
  | x :: r, h => by
    have h1 := h x List.mem_cons_self
    have h2 := tot_le (l := r) fun y hy => h y (List.mem_cons_of_mem _ hy)
    rw [tot, List.length_cons, Nat.add_mul]
    omega
theorem nd_len : ∀ {n : Nat} {l : List Nat}, l.Nodup → (∀ x ∈ l, x < n) → l.length ≤ n := by
  intro n l h1 h2
  have p : l.Perm ((List.range n).filter fun i => decide (i ∈ l)) := perm_of h1 (List.nodup_range.filter _) fun i => by
    simp only [List.mem_filter, List.mem_range, decide_eq_true_eq]
    exact ⟨fun q => ⟨h2 i q, q⟩, fun q => q.2⟩
  have := p.length_eq
  have h3 := List.length_filter_le (fun i => decide (i ∈ l)) (List.range n)
  rw [List.length_range] at h3
  omega
theorem szAt_le {B : List Bk} (h : Sm B) (i : Nat) : szAt B i ≤ 100 := by
  unfold szAt
  cases e : B[i]? with
  | none => exact Nat.zero_le _
  | some x => exact h.sz x (List.mem_of_getElem? e)
theorem copied_le {B : List Bk} (h : Sm B) {ms : List Nat} (h1 : ms.Nodup) (h2 : ∀ i ∈ ms, i < B.length) : tot (ms.map (szAt B)) ≤ 10000 := by
  have q := tot_le (k := 100) (l := ms.map (szAt B)) fun x hx => by
    obtain ⟨i, _, rfl⟩ := List.mem_map.mp hx
    exact szAt_le h i
  have := nd_len h1 h2
  have := h.len
  rw [List.length_map] at q
  have : ms.length * 100 ≤ 100 * 100 := Nat.mul_le_mul_right _ (by omega)
  omega
theorem flat_le {B : List Bk} (h : Sm B) : (flat B).length ≤ 10000 := by
  rw [flat_len]
  have q := tot_le (k := 100) (l := B.map Bk.sz) fun x hx => by
    obtain ⟨y, hy, rfl⟩ := List.mem_map.mp hx
    exact h.sz y hy
  have := h.len
  rw [List.length_map] at q
  have : B.length * 100 ≤ 100 * 100 := Nat.mul_le_mul_right _ (by omega)
  omega
theorem names_ok {w : Int} {s : Sto} : FNamesBlock [.int w] s = some (.bl (decide (w % 4 = 1)), s) := by
  have m := modR (i := w) (j := 4) (s := s) (by decide)
  unfold FNamesBlock BNamesBlock
  simp only [mkF, bd_some, bd_none, sCons, sNil, sSet, sAsg, sPar, sDo, sRet, sRetN, sIf, sPut, sAug, sBrk, sCnt, sFor, iSeq, iEnu, Mir.iRev, Mir.iRng1, Mir.iRng2, eVar, eC, eOp, eUn, eFn, eMt, aNil, aCons, eTup, eLst, eAnd, eOr, eNot, eIf, bTest, bTruth, bAnd, bOr, bNot, bYes, eSl, pNo, pAt, tgM_name, tgM_tup, tgMs_nil, tgMs_name, tgMs_tup, List.getElem?_cons_succ, List.getElem?_cons_zero, List.set_cons_succ, List.set_cons_zero, List.map_cons, List.map_nil, List.length_cons, List.length_nil, List.replicate, List.nil_append, List.cons_append, if_true, if_false, Bool.false_eq_true, Nat.reduceAdd, Nat.reduceSub, Nat.reduceLeDiff, Nat.zero_add, Bool.not_true, Bool.not_false, m, eqI]
theorem addr_ok {w : Int} {s : Sto} : FAddressOf [.int w] s = some (.int (w / 4), s) := by
  have m := divR (i := w) (j := 4) (s := s) (by decide) (by decide)
  unfold FAddressOf BAddressOf
  simp only [mkF, bd_some, bd_none, sCons, sNil, sSet, sAsg, sPar, sDo, sRet, sRetN, sIf, sPut, sAug, sBrk, sCnt, sFor, iSeq, iEnu, Mir.iRev, Mir.iRng1, Mir.iRng2, eVar, eC, eOp, eUn, eFn, eMt, aNil, aCons, eTup, eLst, eAnd, eOr, eNot, eIf, bTest, bTruth, bAnd, bOr, bNot, bYes, eSl, pNo, pAt, tgM_name, tgM_tup, tgMs_nil, tgMs_name, tgMs_tup, List.getElem?_cons_succ, List.getElem?_cons_zero, List.set_cons_succ, List.set_cons_zero, List.map_cons, List.map_nil, List.length_cons, List.length_nil, List.replicate, List.nil_append, List.cons_append, if_true, if_false, Bool.false_eq_true, Nat.reduceAdd, Nat.reduceSub, Nat.reduceLeDiff, Nat.zero_add, Bool.not_true, Bool.not_false, m]
theorem wordof_ok {w : Int} {s : Sto} : FWordOfBlock [.int w] s = some (.int (4 * w + 1), s) := by
  have m := mulL (i := 4) (j := w) (s := s) (by decide) (by decide)
  unfold FWordOfBlock BWordOfBlock
  simp only [mkF, bd_some, bd_none, sCons, sNil, sSet, sAsg, sPar, sDo, sRet, sRetN, sIf, sPut, sAug, sBrk, sCnt, sFor, iSeq, iEnu, Mir.iRev, Mir.iRng1, Mir.iRng2, eVar, eC, eOp, eUn, eFn, eMt, aNil, aCons, eTup, eLst, eAnd, eOr, eNot, eIf, bTest, bTruth, bAnd, bOr, bNot, bYes, eSl, pNo, pAt, tgM_name, tgM_tup, tgMs_nil, tgMs_name, tgMs_tup, List.getElem?_cons_succ, List.getElem?_cons_zero, List.set_cons_succ, List.set_cons_zero, List.map_cons, List.map_nil, List.length_cons, List.length_nil, List.replicate, List.nil_append, List.cons_append, if_true, if_false, Bool.false_eq_true, Nat.reduceAdd, Nat.reduceSub, Nat.reduceLeDiff, Nat.zero_add, Bool.not_true, Bool.not_false, m, addI]
theorem cnt_at {B : List Bk} {i : Nat} {x : Bk} (h : B[i]? = some x) : (flat B)[off B i + 3]? = some (x.fs.length : Int) := by
  rw [flat_get h (by have := sz_pos x; omega)]
  simp [Bk.fl, Bk.hd]
theorem blen_ok {B : List Bk} {n i : Nat} {s : Sto} {x : Bk} (hn : s[n]? = some (.lst (wi (flat B)))) (h : B[i]? = some x) : FBlockLength [.ref n, .int (off B i : Int)] s = some (.int (x.sz : Int), s) := by
  have m := ixI hn (cnt_at h)
  have e : (off B i : Int) + 4 - 1 = ((off B i + 3 : Nat) : Int) := by omega
  have e2 : (4 : Int) + (x.fs.length : Int) = (x.sz : Int) := by unfold Bk.sz; omega
  unfold FBlockLength BBlockLength
  simp only [mkF, bd_some, bd_none, sCons, sNil, sSet, sAsg, sPar, sDo, sRet, sRetN, sIf, sPut, sAug, sBrk, sCnt, sFor, iSeq, iEnu, Mir.iRev, Mir.iRng1, Mir.iRng2, eVar, eC, eOp, eUn, eFn, eMt, aNil, aCons, eTup, eLst, eAnd, eOr, eNot, eIf, bTest, bTruth, bAnd, bOr, bNot, bYes, eSl, pNo, pAt, tgM_name, tgM_tup, tgMs_nil, tgMs_name, tgMs_tup, List.getElem?_cons_succ, List.getElem?_cons_zero, List.set_cons_succ, List.set_cons_zero, List.map_cons, List.map_nil, List.length_cons, List.length_nil, List.replicate, List.nil_append, List.cons_append, if_true, if_false, Bool.false_eq_true, Nat.reduceAdd, Nat.reduceSub, Nat.reduceLeDiff, Nat.zero_add, Bool.not_true, Bool.not_false, addI, subI, e, m, e2]
theorem moved_ok {B C : List Bk} {ms : List Nat} {kvs : List (Key × W)} {n c d : Nat} {w : Int} {s : Sto} (hn : s[n]? = some (.lst (wi (flat B)))) (hc : s[c]? = some (.lst (wi (flat C)))) (hd : s[d]? = some (.dct kvs)) (St : Ch B ms kvs) (hcs : C.map Bk.sz = ms.map (szAt B)) (sm : Sm B) (hw : Gw B w) (hnc : n ≠ c) :
    Wp (FMovedWord [.ref n, .int w, .ref c, .ref d] s) fun v s' => ∃ w' t kvs', v = .int w' ∧ Fwd B (ms ++ t) w w' ∧ Ch B (ms ++ t) kvs' ∧ s'[c]? = some (.lst (wi (flat (C ++ t.map (bat B))))) ∧ s'[d]? = some (.dct kvs') ∧ Fr [c, d] s s' ∧ ∀ i ∈ t, Ptr B w i := by
  unfold FMovedWord
  rw [wp_mkF (by rfl)]
  unfold BMovedWord
  repeat first | with_reducible refine Eq.mpr wps_cons ?_ | with_reducible refine Eq.mpr wps_pass ?_ | with_reducible refine Eq.mpr wps_nil ?_ | with_reducible refine Eq.mpr wps_set ?_ | with_reducible refine Eq.mpr wps_do ?_ | with_reducible refine Eq.mpr wps_ret ?_ | with_reducible refine Eq.mpr wps_retN ?_ | with_reducible refine Eq.mpr wps_brk ?_ | with_reducible refine Eq.mpr wps_cnt ?_ | with_reducible refine Eq.mpr wps_if ?_ | with_reducible refine Eq.mpr wps_asg ?_ | with_reducible refine Eq.mpr wps_put ?_ | with_reducible refine Eq.mpr wps_dput ?_ | with_reducible refine Eq.mpr wps_aug ?_ | with_reducible refine Eq.mpr wps_par ?_ | with_reducible refine Eq.mpr wps_for ?_ | with_reducible refine Eq.mpr wps_wh ?_ | simp only [wp_bd, wp_lc, ql_nx, ql_ct, ql_bk, ql_rt, iSeq, iEnu, Mir.iRev, chkR, chkT, chkO, lstO, wp_some, wp_ite, wp_none, bd_some, eVar, eC, eOp, eUn, eFn, eMt, aNil, aCons, eTup, eLst, eAnd, eOr, eNot, eIf, eIsi, eChain, bTest, bTruth, bAnd, bOr, bNot, bYes, eSl, pNo, pAt, eDnew, eDin, eDget, eDget2, tgM_name, tgM_tup, tgMs_nil, tgMs_name, tgMs_tup, List.getElem?_cons_succ, List.getElem?_cons_zero, List.set_cons_succ, List.set_cons_zero, List.map_cons, List.map_nil, List.length_cons, List.length_nil, List.replicate, List.nil_append, List.cons_append, if_true, if_false, Bool.false_eq_true, Bool.true_eq_false, Nat.reduceAdd, Nat.reduceSub, Nat.reduceLeDiff, Nat.zero_add, Bool.not_true, Bool.not_false, ii, addI, subI, negI, int1, eqI, neI, eqS, neS, ix0, ix1, ix2, ix3, decide_eq_true_eq, Bool.not_eq_true', decide_eq_false_iff_not, truB, truN, keyI, keyS, lenT, wipeM, names_ok]
  by_cases h4 : w % 4 = 1
  · obtain ⟨i, hp⟩ := hw h4
    have hda : w / 4 = (off B i : Int) := hp.div
    rw [if_neg (by simpa using h4)]
    have dcd := dcR hd
    repeat first | with_reducible refine Eq.mpr wps_cons ?_ | with_reducible refine Eq.mpr wps_pass ?_ | with_reducible refine Eq.mpr wps_nil ?_ | with_reducible refine Eq.mpr wps_set ?_ | with_reducible refine Eq.mpr wps_do ?_ | with_reducible refine Eq.mpr wps_ret ?_ | with_reducible refine Eq.mpr wps_retN ?_ | with_reducible refine Eq.mpr wps_brk ?_ | with_reducible refine Eq.mpr wps_cnt ?_ | with_reducible refine Eq.mpr wps_if ?_ | with_reducible refine Eq.mpr wps_asg ?_ | with_reducible refine Eq.mpr wps_put ?_ | with_reducible refine Eq.mpr wps_dput ?_ | with_reducible refine Eq.mpr wps_aug ?_ | with_reducible refine Eq.mpr wps_par ?_ | with_reducible refine Eq.mpr wps_for ?_ | with_reducible refine Eq.mpr wps_wh ?_ | simp only [wp_bd, wp_lc, ql_nx, ql_ct, ql_bk, ql_rt, iSeq, iEnu, Mir.iRev, chkR, chkT, chkO, lstO, wp_some, wp_ite, wp_none, bd_some, eVar, eC, eOp, eUn, eFn, eMt, aNil, aCons, eTup, eLst, eAnd, eOr, eNot, eIf, eIsi, eChain, bTest, bTruth, bAnd, bOr, bNot, bYes, eSl, pNo, pAt, eDnew, eDin, eDget, eDget2, tgM_name, tgM_tup, tgMs_nil, tgMs_name, tgMs_tup, List.getElem?_cons_succ, List.getElem?_cons_zero, List.set_cons_succ, List.set_cons_zero, List.map_cons, List.map_nil, List.length_cons, List.length_nil, List.replicate, List.nil_append, List.cons_append, if_true, if_false, Bool.false_eq_true, Bool.true_eq_false, Nat.reduceAdd, Nat.reduceSub, Nat.reduceLeDiff, Nat.zero_add, Bool.not_true, Bool.not_false, ii, addI, subI, negI, int1, eqI, neI, eqS, neS, ix0, ix1, ix2, ix3, decide_eq_true_eq, Bool.not_eq_true', decide_eq_false_iff_not, truB, truN, keyI, keyS, lenT, wipeM, addr_ok, hda, dcd]
    by_cases hm : i ∈ ms
    · obtain ⟨j, hj, hl⟩ := St.find hm
      simp only [hl, Option.isSome, Bool.not_true, Bool.false_eq_true, Bool.true_eq_false, if_false]
      repeat first | with_reducible refine Eq.mpr wps_cons ?_ | with_reducible refine Eq.mpr wps_pass ?_ | with_reducible refine Eq.mpr wps_nil ?_ | with_reducible refine Eq.mpr wps_set ?_ | with_reducible refine Eq.mpr wps_do ?_ | with_reducible refine Eq.mpr wps_ret ?_ | with_reducible refine Eq.mpr wps_retN ?_ | with_reducible refine Eq.mpr wps_brk ?_ | with_reducible refine Eq.mpr wps_cnt ?_ | with_reducible refine Eq.mpr wps_if ?_ | with_reducible refine Eq.mpr wps_asg ?_ | with_reducible refine Eq.mpr wps_put ?_ | with_reducible refine Eq.mpr wps_dput ?_ | with_reducible refine Eq.mpr wps_aug ?_ | with_reducible refine Eq.mpr wps_par ?_ | with_reducible refine Eq.mpr wps_for ?_ | with_reducible refine Eq.mpr wps_wh ?_ | simp only [wp_bd, wp_lc, ql_nx, ql_ct, ql_bk, ql_rt, iSeq, iEnu, Mir.iRev, chkR, chkT, chkO, lstO, wp_some, wp_ite, wp_none, bd_some, eVar, eC, eOp, eUn, eFn, eMt, aNil, aCons, eTup, eLst, eAnd, eOr, eNot, eIf, eIsi, eChain, bTest, bTruth, bAnd, bOr, bNot, bYes, eSl, pNo, pAt, eDnew, eDin, eDget, eDget2, tgM_name, tgM_tup, tgMs_nil, tgMs_name, tgMs_tup, List.getElem?_cons_succ, List.getElem?_cons_zero, List.set_cons_succ, List.set_cons_zero, List.map_cons, List.map_nil, List.length_cons, List.length_nil, List.replicate, List.nil_append, List.cons_append, if_true, if_false, Bool.false_eq_true, Bool.true_eq_false, Nat.reduceAdd, Nat.reduceSub, Nat.reduceLeDiff, Nat.zero_add, Bool.not_true, Bool.not_false, ii, addI, subI, negI, int1, eqI, neI, eqS, neS, ix0, ix1, ix2, ix3, decide_eq_true_eq, Bool.not_eq_true', decide_eq_false_iff_not, truB, truN, keyI, keyS, lenT, wipeM, hl, dcd, wordof_ok]
      exact ⟨_, [], kvs, rfl, by rw [List.append_nil]; exact .inr ⟨i, j, hp, hj, rfl⟩, by rw [List.append_nil]; exact St, by rw [List.map_nil, List.append_nil]; exact hc, hd, Fr.refl, fun _ h => (by cases h)⟩
    · have hl := St.no i hp.1 hm
      simp only [hl, Option.isSome, Bool.not_false, if_true]
      repeat first | with_reducible refine Eq.mpr wps_cons ?_ | with_reducible refine Eq.mpr wps_pass ?_ | with_reducible refine Eq.mpr wps_nil ?_ | with_reducible refine Eq.mpr wps_set ?_ | with_reducible refine Eq.mpr wps_do ?_ | with_reducible refine Eq.mpr wps_ret ?_ | with_reducible refine Eq.mpr wps_retN ?_ | with_reducible refine Eq.mpr wps_brk ?_ | with_reducible refine Eq.mpr wps_cnt ?_ | with_reducible refine Eq.mpr wps_if ?_ | with_reducible refine Eq.mpr wps_asg ?_ | with_reducible refine Eq.mpr wps_put ?_ | with_reducible refine Eq.mpr wps_dput ?_ | with_reducible refine Eq.mpr wps_aug ?_ | with_reducible refine Eq.mpr wps_par ?_ | with_reducible refine Eq.mpr wps_for ?_ | with_reducible refine Eq.mpr wps_wh ?_ | simp only [wp_bd, wp_lc, ql_nx, ql_ct, ql_bk, ql_rt, iSeq, iEnu, Mir.iRev, chkR, chkT, chkO, lstO, wp_some, wp_ite, wp_none, bd_some, eVar, eC, eOp, eUn, eFn, eMt, aNil, aCons, eTup, eLst, eAnd, eOr, eNot, eIf, eIsi, eChain, bTest, bTruth, bAnd, bOr, bNot, bYes, eSl, pNo, pAt, eDnew, eDin, eDget, eDget2, tgM_name, tgM_tup, tgMs_nil, tgMs_name, tgMs_tup, List.getElem?_cons_succ, List.getElem?_cons_zero, List.set_cons_succ, List.set_cons_zero, List.map_cons, List.map_nil, List.length_cons, List.length_nil, List.replicate, List.nil_append, List.cons_append, if_true, if_false, Bool.false_eq_true, Bool.true_eq_false, Nat.reduceAdd, Nat.reduceSub, Nat.reduceLeDiff, Nat.zero_add, Bool.not_true, Bool.not_false, ii, addI, subI, negI, int1, eqI, neI, eqS, neS, ix0, ix1, ix2, ix3, decide_eq_true_eq, Bool.not_eq_true', decide_eq_false_iff_not, truB, truN, keyI, keyS, lenT, wipeM, lenL hc, dcd]
      have St' := St.add hp.1 hm
      have ec : (wi (flat C)).length = noff B ms ms.length := by rw [List.length_map, flat_len, hcs, noff, List.take_of_length_le (by simp)]
      refine ⟨by have := nd_len St.nd St.lt; have := sm.len; rw [St.ln]; omega, ?_⟩
      rw [put_new hl, ec]
      have hcd : c ≠ d := fun e => by subst e; rw [hc] at hd; cases hd
      have hnd : n ≠ d := fun e => by subst e; rw [hn] at hd; cases hd
      have hbx := bat_eq hp.1
      generalize hs1 : s.set d (.dct (kvs ++ [(.inl (off B i : Int), .int (noff B ms ms.length : Int))])) = s1
      have hn1 : s1[n]? = some (.lst (wi (flat B))) := by rw [← hs1, getne hnd]; exact hn
      have hc1 : s1[c]? = some (.lst (wi (flat C))) := by rw [← hs1, getne hcd]; exact hc
      have hd1 : s1[d]? = some (.dct (kvs ++ [(.inl (off B i : Int), .int (noff B ms ms.length : Int))])) := by rw [← hs1]; exact getset hd
      have f1 : Fr [c, d] s s1 := by rw [← hs1]; exact Fr.set (by simp)
      have e3 : (off B i : Int) + ((bat B i).sz : Int) = ((off B i + (bat B i).sz : Nat) : Int) := by omega
      have cut : ((wi (flat B)).drop (off B i)).take (off B i + (bat B i).sz - off B i) = wi (bat B i).fl := by
        rw [Nat.add_sub_cancel_left, ← List.map_drop, ← List.map_take, flat_cut hbx]
      have hc2 := gapp (t := [.lst (wi (bat B i).fl)]) hc1
      have hk2 : (s1 ++ [O.lst (wi (bat B i).fl)])[s1.length]? = some (.lst (wi (bat B i).fl)) := gnew
      have bnd : (wi (flat C)).length + (wi (bat B i).fl).length ≤ 100000 := by
        rw [List.length_map, List.length_map, flat_len, hcs, fl_len, bat_sz hp.1]
        have := copied_le sm St.nd St.lt
        have := szAt_le sm i
        omega
      have dc2 := dcR (gapp (t := [.lst (wi (bat B i).fl)]) hd1)
      repeat first | with_reducible refine Eq.mpr wps_cons ?_ | with_reducible refine Eq.mpr wps_pass ?_ | with_reducible refine Eq.mpr wps_nil ?_ | with_reducible refine Eq.mpr wps_set ?_ | with_reducible refine Eq.mpr wps_do ?_ | with_reducible refine Eq.mpr wps_ret ?_ | with_reducible refine Eq.mpr wps_retN ?_ | with_reducible refine Eq.mpr wps_brk ?_ | with_reducible refine Eq.mpr wps_cnt ?_ | with_reducible refine Eq.mpr wps_if ?_ | with_reducible refine Eq.mpr wps_asg ?_ | with_reducible refine Eq.mpr wps_put ?_ | with_reducible refine Eq.mpr wps_dput ?_ | with_reducible refine Eq.mpr wps_aug ?_ | with_reducible refine Eq.mpr wps_par ?_ | with_reducible refine Eq.mpr wps_for ?_ | with_reducible refine Eq.mpr wps_wh ?_ | simp only [wp_bd, wp_lc, ql_nx, ql_ct, ql_bk, ql_rt, iSeq, iEnu, Mir.iRev, chkR, chkT, chkO, lstO, wp_some, wp_ite, wp_none, bd_some, eVar, eC, eOp, eUn, eFn, eMt, aNil, aCons, eTup, eLst, eAnd, eOr, eNot, eIf, eIsi, eChain, bTest, bTruth, bAnd, bOr, bNot, bYes, eSl, pNo, pAt, eDnew, eDin, eDget, eDget2, tgM_name, tgM_tup, tgMs_nil, tgMs_name, tgMs_tup, List.getElem?_cons_succ, List.getElem?_cons_zero, List.set_cons_succ, List.set_cons_zero, List.map_cons, List.map_nil, List.length_cons, List.length_nil, List.replicate, List.nil_append, List.cons_append, if_true, if_false, Bool.false_eq_true, Bool.true_eq_false, Nat.reduceAdd, Nat.reduceSub, Nat.reduceLeDiff, Nat.zero_add, Bool.not_true, Bool.not_false, ii, addI, subI, negI, int1, eqI, neI, eqS, neS, ix0, ix1, ix2, ix3, decide_eq_true_eq, Bool.not_eq_true', decide_eq_false_iff_not, truB, truN, keyI, keyS, lenT, wipeM, blen_ok hn1 hbx, e3, slL hn1, cut, isLR hc1, isLR hc2, extL hc2 hk2 bnd]
      have hd3 : ((s1 ++ [O.lst (wi (bat B i).fl)]).set c (.lst (wi (flat C) ++ wi (bat B i).fl)))[d]? = some (.dct (kvs ++ [(.inl (off B i : Int), .int (noff B ms ms.length : Int))])) := by rw [getne (Ne.symm hcd)]; exact gapp hd1
      have dc3 := dcR hd3
      have hl3 : look (kvs ++ [(.inl (off B i : Int), .int (noff B ms ms.length : Int))]) (.inl (off B i : Int)) = some (.int (noff B ms ms.length : Int)) := by rw [look_none_of hl, if_pos rfl]
      repeat first | with_reducible refine Eq.mpr wps_cons ?_ | with_reducible refine Eq.mpr wps_pass ?_ | with_reducible refine Eq.mpr wps_nil ?_ | with_reducible refine Eq.mpr wps_set ?_ | with_reducible refine Eq.mpr wps_do ?_ | with_reducible refine Eq.mpr wps_ret ?_ | with_reducible refine Eq.mpr wps_retN ?_ | with_reducible refine Eq.mpr wps_brk ?_ | with_reducible refine Eq.mpr wps_cnt ?_ | with_reducible refine Eq.mpr wps_if ?_ | with_reducible refine Eq.mpr wps_asg ?_ | with_reducible refine Eq.mpr wps_put ?_ | with_reducible refine Eq.mpr wps_dput ?_ | with_reducible refine Eq.mpr wps_aug ?_ | with_reducible refine Eq.mpr wps_par ?_ | with_reducible refine Eq.mpr wps_for ?_ | with_reducible refine Eq.mpr wps_wh ?_ | simp only [wp_bd, wp_lc, ql_nx, ql_ct, ql_bk, ql_rt, iSeq, iEnu, Mir.iRev, chkR, chkT, chkO, lstO, wp_some, wp_ite, wp_none, bd_some, eVar, eC, eOp, eUn, eFn, eMt, aNil, aCons, eTup, eLst, eAnd, eOr, eNot, eIf, eIsi, eChain, bTest, bTruth, bAnd, bOr, bNot, bYes, eSl, pNo, pAt, eDnew, eDin, eDget, eDget2, tgM_name, tgM_tup, tgMs_nil, tgMs_name, tgMs_tup, List.getElem?_cons_succ, List.getElem?_cons_zero, List.set_cons_succ, List.set_cons_zero, List.map_cons, List.map_nil, List.length_cons, List.length_nil, List.replicate, List.nil_append, List.cons_append, if_true, if_false, Bool.false_eq_true, Bool.true_eq_false, Nat.reduceAdd, Nat.reduceSub, Nat.reduceLeDiff, Nat.zero_add, Bool.not_true, Bool.not_false, ii, addI, subI, negI, int1, eqI, neI, eqS, neS, ix0, ix1, ix2, ix3, decide_eq_true_eq, Bool.not_eq_true', decide_eq_false_iff_not, truB, truN, keyI, keyS, lenT, wipeM, dc3, hl3, wordof_ok]
      refine ⟨_, [i], _, rfl, .inr ⟨i, ms.length, hp, by simp, by rw [noff_ext (Nat.le_refl _)]⟩, St', ?_, hd3, f1.trans (Fr.app.trans (Fr.set (by simp))), fun k hk => by rw [List.mem_singleton.mp hk]; exact hp⟩
      rw [getset hc2, flat_app]
      simp [flat]
  · rw [if_pos (by simpa using h4)]
    repeat first | with_reducible refine Eq.mpr wps_cons ?_ | with_reducible refine Eq.mpr wps_pass ?_ | with_reducible refine Eq.mpr wps_nil ?_ | with_reducible refine Eq.mpr wps_set ?_ | with_reducible refine Eq.mpr wps_do ?_ | with_reducible refine Eq.mpr wps_ret ?_ | with_reducible refine Eq.mpr wps_retN ?_ | with_reducible refine Eq.mpr wps_brk ?_ | with_reducible refine Eq.mpr wps_cnt ?_ | with_reducible refine Eq.mpr wps_if ?_ | with_reducible refine Eq.mpr wps_asg ?_ | with_reducible refine Eq.mpr wps_put ?_ | with_reducible refine Eq.mpr wps_dput ?_ | with_reducible refine Eq.mpr wps_aug ?_ | with_reducible refine Eq.mpr wps_par ?_ | with_reducible refine Eq.mpr wps_for ?_ | with_reducible refine Eq.mpr wps_wh ?_ | simp only [wp_bd, wp_lc, ql_nx, ql_ct, ql_bk, ql_rt, iSeq, iEnu, Mir.iRev, chkR, chkT, chkO, lstO, wp_some, wp_ite, wp_none, bd_some, eVar, eC, eOp, eUn, eFn, eMt, aNil, aCons, eTup, eLst, eAnd, eOr, eNot, eIf, eIsi, eChain, bTest, bTruth, bAnd, bOr, bNot, bYes, eSl, pNo, pAt, eDnew, eDin, eDget, eDget2, tgM_name, tgM_tup, tgMs_nil, tgMs_name, tgMs_tup, List.getElem?_cons_succ, List.getElem?_cons_zero, List.set_cons_succ, List.set_cons_zero, List.map_cons, List.map_nil, List.length_cons, List.length_nil, List.replicate, List.nil_append, List.cons_append, if_true, if_false, Bool.false_eq_true, Bool.true_eq_false, Nat.reduceAdd, Nat.reduceSub, Nat.reduceLeDiff, Nat.zero_add, Bool.not_true, Bool.not_false, ii, addI, subI, negI, int1, eqI, neI, eqS, neS, ix0, ix1, ix2, ix3, decide_eq_true_eq, Bool.not_eq_true', decide_eq_false_iff_not, truB, truN, keyI, keyS, lenT, wipeM]
    exact ⟨w, [], kvs, rfl, .inl ⟨h4, rfl⟩, by rw [List.append_nil]; exact St, by rw [List.map_nil, List.append_nil]; exact hc, hd, Fr.refl, fun _ h => (by cases h)⟩
end Cg

set_option Elab.async false
set_option linter.all false
set_option maxRecDepth 100000
namespace Cg
open PySem PySem.Spec PyProof.Rows L2 Mir
/-- the blocks of the copy: scanned up to field p of block j -/
def Scd (j p j' q : Nat) : Prop := j' < j ∨ (j' = j ∧ q < p)
structure Sc (B : List Bk) (ms : List Nat) (C : List Bk) (j p : Nat) : Prop where
  len : C.length = ms.length
  at_ : ∀ j' i, ms[j']? = some i → ∃ x, C[j']? = some x ∧ x.hd = (bat B i).hd ∧ x.fs.length = (bat B i).fs.length ∧ ∀ q w w', (bat B i).fs[q]? = some w → x.fs[q]? = some w' → (Scd j p j' q → Fwd B ms w w') ∧ (¬ Scd j p j' q → w' = w)
theorem Sc.szs {B C : List Bk} {ms : List Nat} {j p : Nat} (h : Sc B ms C j p) (lt : ∀ i ∈ ms, i < B.length) : C.map Bk.sz = ms.map (szAt B) := by
  apply List.ext_getElem?
  intro k
  rw [List.getElem?_map, List.getElem?_map]
  cases e : ms[k]? with
  | none => rw [List.getElem?_eq_none (by have := List.getElem?_eq_none_iff.mp e; rw [h.len]; exact this)]; rfl
  | some i =>
    obtain ⟨x, hx, _, hl, _⟩ := h.at_ k i e
    rw [hx, Option.map_some, Option.map_some, ← bat_sz (lt i (List.mem_of_getElem? e))]
    unfold Bk.sz
    rw [hl]
theorem Sc.init {B : List Bk} (ms : List Nat) : Sc B ms (ms.map (bat B)) 0 0 := by
  refine ⟨by simp, fun j' i e => ⟨bat B i, by rw [List.getElem?_map, e]; rfl, rfl, rfl, fun q w w' h h' => ⟨fun z => by rcases z with z | z <;> omega, fun _ => ?_⟩⟩⟩
  rw [h] at h'
  exact (Option.some.inj h').symm
theorem Sc.add {B C : List Bk} {ms : List Nat} {j p : Nat} (h : Sc B ms C j p) (hj : j < ms.length) (t : List Nat) : Sc B (ms ++ t) (C ++ t.map (bat B)) j p := by
  refine ⟨by simp [h.len], fun j' i e => ?_⟩
  by_cases q : j' < ms.length
  · rw [List.getElem?_append_left q] at e
    obtain ⟨x, hx, h1, h2, h3⟩ := h.at_ j' i e
    refine ⟨x, by rw [List.getElem?_append_left (by rw [h.len]; exact q)]; exact hx, h1, h2, fun q w w' e e' => ?_⟩
    obtain ⟨a, b⟩ := h3 q w w' e e'
    exact ⟨fun z => (a z).ext t, b⟩
  · rw [List.getElem?_append_right (by omega)] at e
    refine ⟨bat B i, ?_, rfl, rfl, fun q w w' e e' => ⟨fun z => by rcases z with z | z <;> omega, fun _ => ?_⟩⟩
    · rw [List.getElem?_append_right (by rw [h.len]; omega), h.len, List.getElem?_map, e]; rfl
    · rw [e] at e'; exact (Option.some.inj e').symm
theorem Sc.put {B C : List Bk} {ms : List Nat} {j p i : Nat} {x : Bk} {w w' : Int} (h : Sc B ms C j p) (hi : ms[j]? = some i) (hx : C[j]? = some x) (hw : (bat B i).fs[p]? = some w) (hf : Fwd B ms w w') : Sc B ms (C.set j { x with fs := x.fs.set p w' }) j (p + 1) := by
  refine ⟨by simp [h.len], fun j' i' e => ?_⟩
  obtain ⟨y, hy, h1, h2, h3⟩ := h.at_ j' i' e
  by_cases q : j' = j
  · subst q
    rw [hi] at e; cases e
    rw [hx] at hy; cases hy
    refine ⟨_, List.getElem?_set_self (List.getElem?_eq_some_iff.mp hx).1, ?_, ?_, fun q u u' e e' => ?_⟩
    · rw [← h1]; simp [Bk.hd]
    · rw [← h2]; simp
    · by_cases qp : q = p
      · subst qp
        have hl := (List.getElem?_eq_some_iff.mp hw).1
        have e' : (x.fs.set q w')[q]? = some u' := e'
        rw [List.getElem?_set_self (by rw [h2]; exact hl)] at e'
        cases e'
        rw [hw] at e; cases e
        exact ⟨fun _ => hf, fun z => absurd (Or.inr ⟨rfl, by omega⟩) z⟩
      · have e' : (x.fs.set p w')[q]? = some u' := e'
        rw [List.getElem?_set_ne (fun z => qp z.symm)] at e'
        obtain ⟨a, b⟩ := h3 q u u' e e'
        refine ⟨fun z => a ?_, fun z => b fun z' => z ?_⟩
        · rcases z with z | z
          · omega
          · exact .inr ⟨rfl, by omega⟩
        · rcases z' with z' | z'
          · omega
          · exact .inr ⟨rfl, by omega⟩
  · refine ⟨y, by rw [List.getElem?_set_ne (fun z => q z.symm)]; exact hy, h1, h2, fun k u u' e e' => ?_⟩
    obtain ⟨a, b⟩ := h3 k u u' e e'
    refine ⟨fun z => a ?_, fun z => b fun z' => z ?_⟩
    · rcases z with z | z
      · exact .inl z
      · exact absurd z.1 q
    · rcases z' with z' | z'
      · exact .inl z'
      · exact absurd z'.1 q
theorem Sc.next {B C : List Bk} {ms : List Nat} {j p : Nat} {x : Bk} (h : Sc B ms C j p) (hx : C[j]? = some x) (hp : x.fs.length ≤ p) : Sc B ms C (j + 1) 0 := by
  refine ⟨h.len, fun j' i' e => ?_⟩
  obtain ⟨y, hy, h1, h2, h3⟩ := h.at_ j' i' e
  refine ⟨y, hy, h1, h2, fun k u u' e e' => ?_⟩
  obtain ⟨a, b⟩ := h3 k u u' e e'
  have hk := (List.getElem?_eq_some_iff.mp e').1
  refine ⟨fun z => a ?_, fun z => b fun z' => z ?_⟩
  · rcases z with z | z
    · by_cases q : j' = j
      · subst q
        rw [hx] at hy; cases hy
        exact .inr ⟨rfl, by omega⟩
      · exact .inl (by omega)
    · omega
  · rcases z' with z' | z'
    · exact .inl (by omega)
    · exact .inl (by omega)
/-- all is known after a collection -/
structure Don (B : List Bk) (rt : List Int) (ms : List Nat) (C : List Bk) (rt' : List Int) : Prop where
  nd : ms.Nodup
  rch : ∀ i, i ∈ ms ↔ Rch B rt i
  sc : Sc B ms C ms.length 0
  len : rt'.length = rt.length
  rts : ∀ (q : Nat) (w w' : Int), rt[q]? = some w → rt'[q]? = some w' → Fwd B ms w w'
theorem Fwd.mem {B : List Bk} {ms : List Nat} {w w' : Int} {i : Nat} (h : Fwd B ms w w') (p : Ptr B w i) : i ∈ ms := by
  rcases h with ⟨h, _⟩ | ⟨k, j, h1, h2, _⟩
  · exact absurd p.mod h
  · rw [p.uniq h1]; exact List.mem_of_getElem? h2
theorem Sc.all {B C : List Bk} {rt rt' : List Int} {ms : List Nat} (nd : ms.Nodup) (lt : ∀ i ∈ ms, i < B.length) (r : ∀ i ∈ ms, Rch B rt i) (sc : Sc B ms C ms.length 0) (len : rt'.length = rt.length) (rts : ∀ (q : Nat) (w w' : Int), rt[q]? = some w → rt'[q]? = some w' → Fwd B ms w w') : Don B rt ms C rt' := by
  refine ⟨nd, fun i => ⟨r i, fun h => Rch.sub ?_ ?_ h⟩, sc, len, rts⟩
  · intro w hw i p
    obtain ⟨q, hq⟩ := List.mem_iff_getElem?.mp hw
    have hl := (List.getElem?_eq_some_iff.mp hq).1
    exact (rts q w _ hq (List.getElem?_eq_getElem (by omega))).mem p
  · intro i hi x hx w hw k p
    obtain ⟨j, hj⟩ := List.mem_iff_getElem?.mp hi
    obtain ⟨y, hy, h1, h2, h3⟩ := sc.at_ j i hj
    have ex : bat B i = x := by have := bat_eq (lt i hi); rw [hx] at this; exact (Option.some.inj this).symm
    rw [ex] at h2 h3
    obtain ⟨q, hq⟩ := List.mem_iff_getElem?.mp hw
    have hl := (List.getElem?_eq_some_iff.mp hq).1
    exact ((h3 q w _ hq (List.getElem?_eq_getElem (by omega))).1 (.inl (List.getElem?_eq_some_iff.mp hj).1)).mem p
theorem collect_ok {B : List Bk} {rt : List Int} {n rr : Nat} {s : Sto} (hn : s[n]? = some (.lst (wi (flat B)))) (hr : s[rr]? = some (.lst (wi rt))) (sm : Sm B) (wf : Wf B) (gr : ∀ w ∈ rt, Gw B w) (hl : rt.length ≤ 1000) :
    Wp (FCollect [.ref n, .ref rr] s) fun v s' => ∃ ms C rt' c k, v = .tup [.ref c, .ref k] ∧ s'[c]? = some (.lst (wi (flat C))) ∧ s'[k]? = some (.lst (wi rt')) ∧ s.length ≤ c ∧ s.length ≤ k ∧ c ≠ k ∧ Fr [] s s' ∧ Don B rt ms C rt' := by
  unfold FCollect
  rw [wp_mkF (by rfl)]
  unfold BCollect
  repeat first | with_reducible refine Eq.mpr wps_cons ?_ | with_reducible refine Eq.mpr wps_pass ?_ | with_reducible refine Eq.mpr wps_nil ?_ | with_reducible refine Eq.mpr wps_set ?_ | with_reducible refine Eq.mpr wps_do ?_ | with_reducible refine Eq.mpr wps_ret ?_ | with_reducible refine Eq.mpr wps_retN ?_ | with_reducible refine Eq.mpr wps_brk ?_ | with_reducible refine Eq.mpr wps_cnt ?_ | with_reducible refine Eq.mpr wps_if ?_ | with_reducible refine Eq.mpr wps_asg ?_ | with_reducible refine Eq.mpr wps_put ?_ | with_reducible refine Eq.mpr wps_dput ?_ | with_reducible refine Eq.mpr wps_aug ?_ | with_reducible refine Eq.mpr wps_par ?_ | with_reducible refine Eq.mpr wps_for ?_ | with_reducible refine Eq.mpr wps_wh ?_ | simp only [wp_bd, wp_lc, ql_nx, ql_ct, ql_bk, ql_rt, iSeq, iEnu, Mir.iRev, chkR, chkT, chkO, lstO, wp_some, wp_ite, wp_none, bd_some, eVar, eC, eOp, eUn, eFn, eMt, aNil, aCons, eTup, eLst, eAnd, eOr, eNot, eIf, eIsi, eChain, bTest, bTruth, bAnd, bOr, bNot, bYes, eSl, pNo, pAt, eDnew, eDin, eDget, eDget2, tgM_name, tgM_tup, tgMs_nil, tgMs_name, tgMs_tup, List.getElem?_cons_succ, List.getElem?_cons_zero, List.set_cons_succ, List.set_cons_zero, List.map_cons, List.map_nil, List.length_cons, List.length_nil, List.replicate, List.nil_append, List.cons_append, if_true, if_false, Bool.false_eq_true, Bool.true_eq_false, Nat.reduceAdd, Nat.reduceSub, Nat.reduceLeDiff, Nat.zero_add, Bool.not_true, Bool.not_false, ii, addI, subI, negI, int1, eqI, neI, eqS, neS, ix0, ix1, ix2, ix3, decide_eq_true_eq, Bool.not_eq_true', decide_eq_false_iff_not, truB, truN, keyI, keyS, lenT, wipeM]
  generalize hs0 : s ++ [O.lst []] ++ [O.dct []] = s0
  have hcn : (s ++ [O.lst []]).length = s.length + 1 := by simp
  rw [hcn]
  have n0 : s0[n]? = some (.lst (wi (flat B))) := by rw [← hs0]; exact gapp (gapp hn)
  have r0 : s0[rr]? = some (.lst (wi rt)) := by rw [← hs0]; exact gapp (gapp hr)
  have c0 : s0[s.length]? = some (.lst (wi (flat []))) := by rw [← hs0]; exact gapp gnew
  have d0 : s0[s.length + 1]? = some (.dct []) := by rw [← hs0, ← hcn]; exact gnew
  have f0 : Fr [] s s0 := by rw [← hs0]; exact Fr.app.trans Fr.app
  have ln := gltn hn
  have lr := gltn hr
  generalize hC : s.length = c at *
  repeat first | with_reducible refine Eq.mpr wps_cons ?_ | with_reducible refine Eq.mpr wps_pass ?_ | with_reducible refine Eq.mpr wps_nil ?_ | with_reducible refine Eq.mpr wps_set ?_ | with_reducible refine Eq.mpr wps_do ?_ | with_reducible refine Eq.mpr wps_ret ?_ | with_reducible refine Eq.mpr wps_retN ?_ | with_reducible refine Eq.mpr wps_brk ?_ | with_reducible refine Eq.mpr wps_cnt ?_ | with_reducible refine Eq.mpr wps_if ?_ | with_reducible refine Eq.mpr wps_asg ?_ | with_reducible refine Eq.mpr wps_put ?_ | with_reducible refine Eq.mpr wps_dput ?_ | with_reducible refine Eq.mpr wps_aug ?_ | with_reducible refine Eq.mpr wps_par ?_ | with_reducible refine Eq.mpr wps_for ?_ | with_reducible refine Eq.mpr wps_wh ?_ | simp only [wp_bd, wp_lc, ql_nx, ql_ct, ql_bk, ql_rt, iSeq, iEnu, Mir.iRev, chkR, chkT, chkO, lstO, wp_some, wp_ite, wp_none, bd_some, eVar, eC, eOp, eUn, eFn, eMt, aNil, aCons, eTup, eLst, eAnd, eOr, eNot, eIf, eIsi, eChain, bTest, bTruth, bAnd, bOr, bNot, bYes, eSl, pNo, pAt, eDnew, eDin, eDget, eDget2, tgM_name, tgM_tup, tgMs_nil, tgMs_name, tgMs_tup, List.getElem?_cons_succ, List.getElem?_cons_zero, List.set_cons_succ, List.set_cons_zero, List.map_cons, List.map_nil, List.length_cons, List.length_nil, List.replicate, List.nil_append, List.cons_append, if_true, if_false, Bool.false_eq_true, Bool.true_eq_false, Nat.reduceAdd, Nat.reduceSub, Nat.reduceLeDiff, Nat.zero_add, Bool.not_true, Bool.not_false, ii, addI, subI, negI, int1, eqI, neI, eqS, neS, ix0, ix1, ix2, ix3, decide_eq_true_eq, Bool.not_eq_true', decide_eq_false_iff_not, truB, truN, keyI, keyS, lenT, wipeM, lstR r0]
  refine ⟨by rw [List.length_map]; omega, ?_⟩
  refine wp_lcf (fun k acc s' => ∃ ms kvs rt', acc = wi rt' ∧ rt'.length = k ∧ (∀ (q : Nat) (w w' : Int), rt[q]? = some w → rt'[q]? = some w' → Fwd B ms w w') ∧ Ch B ms kvs ∧ s'[c]? = some (.lst (wi (flat (ms.map (bat B))))) ∧ s'[c + 1]? = some (.dct kvs) ∧ Fr [c, c + 1] s0 s' ∧ ∀ i ∈ ms, Rch B rt i) _ 0 [] s0 ?_ ?_ ?_
  · exact ⟨[], [], [], rfl, rfl, fun q w w' _ h => (by simp at h), Ch.nil, c0, d0, Fr.refl, fun _ h => (by cases h)⟩
  · rintro q x acc s1 hx ⟨ms, kvs, rt', rfl, hq, h1, St, h2, h3, h4, h5⟩
    have n1 := h4.at_ _ _ (by simp; omega) n0
    have r1 := h4.at_ _ _ (by simp; omega) r0
    obtain ⟨w, hw, rfl⟩ : ∃ w, rt[q]? = some w ∧ x = .int w := by
      rw [List.getElem?_map] at hx
      cases e : rt[q]? with
      | none => rw [e] at hx; cases hx
      | some w => rw [e] at hx; exact ⟨w, rfl, (Option.some.inj hx).symm⟩
    refine ⟨r1, _, rfl, ?_⟩
    repeat first | with_reducible refine Eq.mpr wps_cons ?_ | with_reducible refine Eq.mpr wps_pass ?_ | with_reducible refine Eq.mpr wps_nil ?_ | with_reducible refine Eq.mpr wps_set ?_ | with_reducible refine Eq.mpr wps_do ?_ | with_reducible refine Eq.mpr wps_ret ?_ | with_reducible refine Eq.mpr wps_retN ?_ | with_reducible refine Eq.mpr wps_brk ?_ | with_reducible refine Eq.mpr wps_cnt ?_ | with_reducible refine Eq.mpr wps_if ?_ | with_reducible refine Eq.mpr wps_asg ?_ | with_reducible refine Eq.mpr wps_put ?_ | with_reducible refine Eq.mpr wps_dput ?_ | with_reducible refine Eq.mpr wps_aug ?_ | with_reducible refine Eq.mpr wps_par ?_ | with_reducible refine Eq.mpr wps_for ?_ | with_reducible refine Eq.mpr wps_wh ?_ | simp only [wp_bd, wp_lc, ql_nx, ql_ct, ql_bk, ql_rt, iSeq, iEnu, Mir.iRev, chkR, chkT, chkO, lstO, wp_some, wp_ite, wp_none, bd_some, eVar, eC, eOp, eUn, eFn, eMt, aNil, aCons, eTup, eLst, eAnd, eOr, eNot, eIf, eIsi, eChain, bTest, bTruth, bAnd, bOr, bNot, bYes, eSl, pNo, pAt, eDnew, eDin, eDget, eDget2, tgM_name, tgM_tup, tgMs_nil, tgMs_name, tgMs_tup, List.getElem?_cons_succ, List.getElem?_cons_zero, List.set_cons_succ, List.set_cons_zero, List.map_cons, List.map_nil, List.length_cons, List.length_nil, List.replicate, List.nil_append, List.cons_append, if_true, if_false, Bool.false_eq_true, Bool.true_eq_false, Nat.reduceAdd, Nat.reduceSub, Nat.reduceLeDiff, Nat.zero_add, Bool.not_true, Bool.not_false, ii, addI, subI, negI, int1, eqI, neI, eqS, neS, ix0, ix1, ix2, ix3, decide_eq_true_eq, Bool.not_eq_true', decide_eq_false_iff_not, truB, truN, keyI, keyS, lenT, wipeM]
    refine (moved_ok n1 h2 h3 St ((Sc.init ms).szs St.lt) sm (gr w (List.mem_of_getElem? hw)) (by omega)).mono ?_
    rintro v s2 ⟨w', t, kvs', rfl, hf, St', c2, d2, f2, ht⟩
    refine ⟨ms ++ t, kvs', rt' ++ [w'], by simp, by simp; omega, fun k u u' e e' => ?_, St', by rw [List.map_append]; exact c2, d2, h4.trans f2, fun i hi => ?_⟩
    · by_cases hk : k < rt'.length
      · rw [List.getElem?_append_left hk] at e'
        exact (h1 k u u' e e').ext t
      · rw [List.getElem?_append_right (by omega)] at e'
        have h0 : k - rt'.length = 0 := by have := (List.getElem?_eq_some_iff.mp e').1; simp at this; omega
        rw [h0] at e'
        cases e'
        have : k = q := by omega
        subst this
        rw [hw] at e; cases e
        exact hf
    · rcases List.mem_append.mp hi with hi | hi
      · exact h5 i hi
      · exact .root (List.mem_of_getElem? hw) (ht i hi)
  · rintro acc s1 ⟨ms, kvs, rt', rfl, hq, h1, St, h2, h3, h4, h5⟩
    have r1 := h4.at_ _ _ (by simp; omega) r0
    have hq : rt'.length = rt.length := by rw [List.length_map] at hq; omega
    refine ⟨r1, fun ws e => ?_⟩
    rw [List.nil_append] at e
    subst e
    repeat first | with_reducible refine Eq.mpr wps_cons ?_ | with_reducible refine Eq.mpr wps_pass ?_ | with_reducible refine Eq.mpr wps_nil ?_ | with_reducible refine Eq.mpr wps_set ?_ | with_reducible refine Eq.mpr wps_do ?_ | with_reducible refine Eq.mpr wps_ret ?_ | with_reducible refine Eq.mpr wps_retN ?_ | with_reducible refine Eq.mpr wps_brk ?_ | with_reducible refine Eq.mpr wps_cnt ?_ | with_reducible refine Eq.mpr wps_if ?_ | with_reducible refine Eq.mpr wps_asg ?_ | with_reducible refine Eq.mpr wps_put ?_ | with_reducible refine Eq.mpr wps_dput ?_ | with_reducible refine Eq.mpr wps_aug ?_ | with_reducible refine Eq.mpr wps_par ?_ | with_reducible refine Eq.mpr wps_for ?_ | with_reducible refine Eq.mpr wps_wh ?_ | simp only [wp_bd, wp_lc, ql_nx, ql_ct, ql_bk, ql_rt, iSeq, iEnu, Mir.iRev, chkR, chkT, chkO, lstO, wp_some, wp_ite, wp_none, bd_some, eVar, eC, eOp, eUn, eFn, eMt, aNil, aCons, eTup, eLst, eAnd, eOr, eNot, eIf, eIsi, eChain, bTest, bTruth, bAnd, bOr, bNot, bYes, eSl, pNo, pAt, eDnew, eDin, eDget, eDget2, tgM_name, tgM_tup, tgMs_nil, tgMs_name, tgMs_tup, List.getElem?_cons_succ, List.getElem?_cons_zero, List.set_cons_succ, List.set_cons_zero, List.map_cons, List.map_nil, List.length_cons, List.length_nil, List.replicate, List.nil_append, List.cons_append, if_true, if_false, Bool.false_eq_true, Bool.true_eq_false, Nat.reduceAdd, Nat.reduceSub, Nat.reduceLeDiff, Nat.zero_add, Bool.not_true, Bool.not_false, ii, addI, subI, negI, int1, eqI, neI, eqS, neS, ix0, ix1, ix2, ix3, decide_eq_true_eq, Bool.not_eq_true', decide_eq_false_iff_not, truB, truN, keyI, keyS, lenT, wipeM]
    have k2 : (s1 ++ [O.lst (wi rt')])[s1.length]? = some (.lst (wi rt')) := gnew
    have c2 := gapp (t := [O.lst (wi rt')]) h2
    have d2 := gapp (t := [O.lst (wi rt')]) h3
    have f2 : Fr [c, c + 1] s0 (s1 ++ [O.lst (wi rt')]) := h4.trans Fr.app
    have lk := gltn h3
    generalize s1 ++ [O.lst (wi rt')] = s2 at k2 c2 d2 f2 ⊢
    generalize s1.length = k at k2 lk ⊢
    refine wp_wh (fun m ρ s' => ∃ j ms C kvs x6 x7 x8, m + j = B.length ∧ ρ = [some (.ref n), some (.ref rr), some (.ref c), some (.ref (c + 1)), some (.ref k), some (.int (off C j : Int)), x6, x7, x8] ∧ j ≤ ms.length ∧ Sc B ms C j 0 ∧ Ch B ms kvs ∧ s'[c]? = some (.lst (wi (flat C))) ∧ s'[c + 1]? = some (.dct kvs) ∧ s'[k]? = some (.lst (wi rt')) ∧ Fr [c, c + 1] s0 s' ∧ (∀ i ∈ ms, Rch B rt i) ∧ ∀ (q : Nat) (w w' : Int), rt[q]? = some w → rt'[q]? = some w' → Fwd B ms w w') ?_ 100000 B.length _ _ (by have := sm.len; omega) ?_
    · rintro m ρ s3 ⟨j, ms, C, kvs, x6, x7, x8, hm, rfl, hj, sc, St, c3, d3, k3, f3, rch, rts⟩
      have n3 := f3.at_ _ _ (by simp; omega) n0
      repeat first | with_reducible refine Eq.mpr wps_cons ?_ | with_reducible refine Eq.mpr wps_pass ?_ | with_reducible refine Eq.mpr wps_nil ?_ | with_reducible refine Eq.mpr wps_set ?_ | with_reducible refine Eq.mpr wps_do ?_ | with_reducible refine Eq.mpr wps_ret ?_ | with_reducible refine Eq.mpr wps_retN ?_ | with_reducible refine Eq.mpr wps_brk ?_ | with_reducible refine Eq.mpr wps_cnt ?_ | with_reducible refine Eq.mpr wps_if ?_ | with_reducible refine Eq.mpr wps_asg ?_ | with_reducible refine Eq.mpr wps_put ?_ | with_reducible refine Eq.mpr wps_dput ?_ | with_reducible refine Eq.mpr wps_aug ?_ | with_reducible refine Eq.mpr wps_par ?_ | with_reducible refine Eq.mpr wps_for ?_ | with_reducible refine Eq.mpr wps_wh ?_ | simp only [wp_bd, wp_lc, ql_nx, ql_ct, ql_bk, ql_rt, iSeq, iEnu, Mir.iRev, chkR, chkT, chkO, lstO, wp_some, wp_ite, wp_none, bd_some, eVar, eC, eOp, eUn, eFn, eMt, aNil, aCons, eTup, eLst, eAnd, eOr, eNot, eIf, eIsi, eChain, bTest, bTruth, bAnd, bOr, bNot, bYes, eSl, pNo, pAt, eDnew, eDin, eDget, eDget2, tgM_name, tgM_tup, tgMs_nil, tgMs_name, tgMs_tup, List.getElem?_cons_succ, List.getElem?_cons_zero, List.set_cons_succ, List.set_cons_zero, List.map_cons, List.map_nil, List.length_cons, List.length_nil, List.replicate, List.nil_append, List.cons_append, if_true, if_false, Bool.false_eq_true, Bool.true_eq_false, Nat.reduceAdd, Nat.reduceSub, Nat.reduceLeDiff, Nat.zero_add, Bool.not_true, Bool.not_false, ii, addI, subI, negI, int1, eqI, neI, eqS, neS, ix0, ix1, ix2, ix3, decide_eq_true_eq, Bool.not_eq_true', decide_eq_false_iff_not, truB, truN, keyI, keyS, lenT, wipeM, lenL c3]
      have szs := sc.szs St.lt
      have hlen : (wi (flat C)).length = (flat C).length := List.length_map _
      by_cases hjl : j < ms.length
      · have hjC : j < C.length := by rw [sc.len]; exact hjl
        have hx := List.getElem?_eq_getElem hjC
        generalize C[j] = x at hx
        have he := off_end hx
        have := sz_pos x
        rw [if_pos (by rw [hlen]; omega)]
        repeat first | with_reducible refine Eq.mpr wps_cons ?_ | with_reducible refine Eq.mpr wps_pass ?_ | with_reducible refine Eq.mpr wps_nil ?_ | with_reducible refine Eq.mpr wps_set ?_ | with_reducible refine Eq.mpr wps_do ?_ | with_reducible refine Eq.mpr wps_ret ?_ | with_reducible refine Eq.mpr wps_retN ?_ | with_reducible refine Eq.mpr wps_brk ?_ | with_reducible refine Eq.mpr wps_cnt ?_ | with_reducible refine Eq.mpr wps_if ?_ | with_reducible refine Eq.mpr wps_asg ?_ | with_reducible refine Eq.mpr wps_put ?_ | with_reducible refine Eq.mpr wps_dput ?_ | with_reducible refine Eq.mpr wps_aug ?_ | with_reducible refine Eq.mpr wps_par ?_ | with_reducible refine Eq.mpr wps_for ?_ | with_reducible refine Eq.mpr wps_wh ?_ | simp only [wp_bd, wp_lc, ql_nx, ql_ct, ql_bk, ql_rt, iSeq, iEnu, Mir.iRev, chkR, chkT, chkO, lstO, wp_some, wp_ite, wp_none, bd_some, eVar, eC, eOp, eUn, eFn, eMt, aNil, aCons, eTup, eLst, eAnd, eOr, eNot, eIf, eIsi, eChain, bTest, bTruth, bAnd, bOr, bNot, bYes, eSl, pNo, pAt, eDnew, eDin, eDget, eDget2, tgM_name, tgM_tup, tgMs_nil, tgMs_name, tgMs_tup, List.getElem?_cons_succ, List.getElem?_cons_zero, List.set_cons_succ, List.set_cons_zero, List.map_cons, List.map_nil, List.length_cons, List.length_nil, List.replicate, List.nil_append, List.cons_append, if_true, if_false, Bool.false_eq_true, Bool.true_eq_false, Nat.reduceAdd, Nat.reduceSub, Nat.reduceLeDiff, Nat.zero_add, Bool.not_true, Bool.not_false, ii, addI, subI, negI, int1, eqI, neI, eqS, neS, ix0, ix1, ix2, ix3, decide_eq_true_eq, Bool.not_eq_true', decide_eq_false_iff_not, truB, truN, keyI, keyS, lenT, wipeM, blen_ok c3 hx]
        have ea : (off C j : Int) + (x.sz : Int) = ((off C j + x.sz : Nat) : Int) := by omega
        rw [ea]
        obtain ⟨i, hi⟩ : ∃ i, ms[j]? = some i := ⟨_, List.getElem?_eq_getElem hjl⟩
        have bound : (flat C).length ≤ 10000 := by rw [flat_len, szs]; exact copied_le sm St.nd St.lt
        refine wp_rng2 ?_
        repeat first | with_reducible refine Eq.mpr wps_cons ?_ | with_reducible refine Eq.mpr wps_pass ?_ | with_reducible refine Eq.mpr wps_nil ?_ | with_reducible refine Eq.mpr wps_set ?_ | with_reducible refine Eq.mpr wps_do ?_ | with_reducible refine Eq.mpr wps_ret ?_ | with_reducible refine Eq.mpr wps_retN ?_ | with_reducible refine Eq.mpr wps_brk ?_ | with_reducible refine Eq.mpr wps_cnt ?_ | with_reducible refine Eq.mpr wps_if ?_ | with_reducible refine Eq.mpr wps_asg ?_ | with_reducible refine Eq.mpr wps_put ?_ | with_reducible refine Eq.mpr wps_dput ?_ | with_reducible refine Eq.mpr wps_aug ?_ | with_reducible refine Eq.mpr wps_par ?_ | with_reducible refine Eq.mpr wps_for ?_ | with_reducible refine Eq.mpr wps_wh ?_ | simp only [wp_bd, wp_lc, ql_nx, ql_ct, ql_bk, ql_rt, iSeq, iEnu, Mir.iRev, chkR, chkT, chkO, lstO, wp_some, wp_ite, wp_none, bd_some, eVar, eC, eOp, eUn, eFn, eMt, aNil, aCons, eTup, eLst, eAnd, eOr, eNot, eIf, eIsi, eChain, bTest, bTruth, bAnd, bOr, bNot, bYes, eSl, pNo, pAt, eDnew, eDin, eDget, eDget2, tgM_name, tgM_tup, tgMs_nil, tgMs_name, tgMs_tup, List.getElem?_cons_succ, List.getElem?_cons_zero, List.set_cons_succ, List.set_cons_zero, List.map_cons, List.map_nil, List.length_cons, List.length_nil, List.replicate, List.nil_append, List.cons_append, if_true, if_false, Bool.false_eq_true, Bool.true_eq_false, Nat.reduceAdd, Nat.reduceSub, Nat.reduceLeDiff, Nat.zero_add, Bool.not_true, Bool.not_false, ii, addI, subI, negI, int1, eqI, neI, eqS, neS, ix0, ix1, ix2, ix3, decide_eq_true_eq, Bool.not_eq_true', decide_eq_false_iff_not, truB, truN, keyI, keyS, lenT, wipeM]
        refine ⟨off C j + 4, off C j + x.sz, by rw [show (off C j : Int) + 4 = ((off C j + 4 : Nat) : Int) by omega], rfl, by omega, by omega, ?_⟩
        generalize ha : off C j = a at *
        have hxs : x.sz = 4 + x.fs.length := rfl
        generalize hL : x.fs.length = L at *
        refine wp_fo (fun p ρ s' => ∃ ms C kvs x x7, ρ = [some (.ref n), some (.ref rr), some (.ref c), some (.ref (c + 1)), some (.ref k), some (.int (a : Int)), some (.int ((a + (4 + L) : Nat) : Int)), x7, x8] ∧ ms[j]? = some i ∧ C[j]? = some x ∧ x.fs.length = L ∧ off C j = a ∧ Sc B ms C j p ∧ Ch B ms kvs ∧ s'[c]? = some (.lst (wi (flat C))) ∧ s'[c + 1]? = some (.dct kvs) ∧ s'[k]? = some (.lst (wi rt')) ∧ Fr [c, c + 1] s0 s' ∧ (∀ i ∈ ms, Rch B rt i) ∧ ∀ (q : Nat) (w w' : Int), rt[q]? = some w → rt'[q]? = some w' → Fwd B ms w w') _ 0 _ _ ?_ ?_ ?_
        · exact ⟨ms, C, kvs, x, x7, by rw [hxs], hi, hx, hL, ha, sc, St, c3, d3, k3, f3, rch, rts⟩
        · rintro p y ρ s4 hy ⟨ms, C, kvs, x, x7, rfl, hi, hx, hL, ha, sc, St, c4, d4, k4, f4, rch, rts⟩
          rw [Nat.zero_add] at sc ⊢
          have szs := sc.szs St.lt
          obtain ⟨hp, rfl⟩ : p < L ∧ y = .int ((a + 4 + p : Nat) : Int) := by
            rw [List.getElem?_map] at hy
            have hp : p < a + x.sz - (a + 4) := by
              by_cases q : p < a + x.sz - (a + 4)
              · exact q
              · rw [hxs] at hy; unfold Bk.sz at q; rw [List.getElem?_eq_none (by simp; omega)] at hy; cases hy
            unfold Bk.sz at hp
            rw [hxs, List.getElem?_range (by omega)] at hy
            refine ⟨by omega, ?_⟩
            have hy := (Option.some.inj hy).symm
            rw [hy]
            congr 1
          refine ⟨trivial, _, rfl, ?_⟩
          obtain ⟨w, hw⟩ : ∃ w, x.fs[p]? = some w := ⟨_, List.getElem?_eq_getElem (by omega)⟩
          obtain ⟨y, hy', hh, hlen', hfs⟩ := sc.at_ j i hi
          rw [hx] at hy'; cases hy'
          obtain ⟨w0, hw0⟩ : ∃ w, (bat B i).fs[p]? = some w := ⟨_, List.getElem?_eq_getElem (by omega)⟩
          obtain rfl := (hfs p w0 w hw0 hw).2 (fun z => by rcases z with z | z <;> omega)
          have hlt := St.lt i (List.mem_of_getElem? hi)
          have hbi := bat_eq hlt
          have n4 := f4.at_ _ _ (by simp; omega) n0
          have gw : Gw B w := wf _ (List.mem_of_getElem? hbi) w (List.mem_of_getElem? hw0)
          have at4 : (flat C)[a + 4 + p]? = some w := by
            have := flat_get hx (k := 4 + p) (by unfold Bk.sz; omega)
            rw [ha, show a + (4 + p) = a + 4 + p by omega] at this
            rw [this, Bk.fl, List.getElem?_append_right (by simp [Bk.hd])]
            simp [Bk.hd]
            exact hw
          repeat first | with_reducible refine Eq.mpr wps_cons ?_ | with_reducible refine Eq.mpr wps_pass ?_ | with_reducible refine Eq.mpr wps_nil ?_ | with_reducible refine Eq.mpr wps_set ?_ | with_reducible refine Eq.mpr wps_do ?_ | with_reducible refine Eq.mpr wps_ret ?_ | with_reducible refine Eq.mpr wps_retN ?_ | with_reducible refine Eq.mpr wps_brk ?_ | with_reducible refine Eq.mpr wps_cnt ?_ | with_reducible refine Eq.mpr wps_if ?_ | with_reducible refine Eq.mpr wps_asg ?_ | with_reducible refine Eq.mpr wps_put ?_ | with_reducible refine Eq.mpr wps_dput ?_ | with_reducible refine Eq.mpr wps_aug ?_ | with_reducible refine Eq.mpr wps_par ?_ | with_reducible refine Eq.mpr wps_for ?_ | with_reducible refine Eq.mpr wps_wh ?_ | simp only [wp_bd, wp_lc, ql_nx, ql_ct, ql_bk, ql_rt, iSeq, iEnu, Mir.iRev, chkR, chkT, chkO, lstO, wp_some, wp_ite, wp_none, bd_some, eVar, eC, eOp, eUn, eFn, eMt, aNil, aCons, eTup, eLst, eAnd, eOr, eNot, eIf, eIsi, eChain, bTest, bTruth, bAnd, bOr, bNot, bYes, eSl, pNo, pAt, eDnew, eDin, eDget, eDget2, tgM_name, tgM_tup, tgMs_nil, tgMs_name, tgMs_tup, List.getElem?_cons_succ, List.getElem?_cons_zero, List.set_cons_succ, List.set_cons_zero, List.map_cons, List.map_nil, List.length_cons, List.length_nil, List.replicate, List.nil_append, List.cons_append, if_true, if_false, Bool.false_eq_true, Bool.true_eq_false, Nat.reduceAdd, Nat.reduceSub, Nat.reduceLeDiff, Nat.zero_add, Bool.not_true, Bool.not_false, ii, addI, subI, negI, int1, eqI, neI, eqS, neS, ix0, ix1, ix2, ix3, decide_eq_true_eq, Bool.not_eq_true', decide_eq_false_iff_not, truB, truN, keyI, keyS, lenT, wipeM, ixI c4 at4]
          refine (moved_ok n4 c4 d4 St szs sm gw (by omega)).mono ?_
          rintro v s5 ⟨w', t, kvs', rfl, hf, St', c5, d5, f5, ht⟩
          have sc5 := sc.add (List.getElem?_eq_some_iff.mp hi).1 t
          have hx5 : (C ++ t.map (bat B))[j]? = some x := by rw [List.getElem?_append_left (List.getElem?_eq_some_iff.mp hx).1]; exact hx
          have ha5 : off (C ++ t.map (bat B)) j = a := by
            rw [← ha]; unfold off
            rw [List.map_append, List.take_append_of_le_length (by rw [List.length_map]; exact Nat.le_of_lt (List.getElem?_eq_some_iff.mp hx).1)]
          generalize C ++ t.map (bat B) = C5 at c5 sc5 hx5 ha5
          have hi5 : (ms ++ t)[j]? = some i := by rw [List.getElem?_append_left (List.getElem?_eq_some_iff.mp hi).1]; exact hi
          have pl : a + 4 + p < (wi (flat C5)).length := by
            rw [List.length_map]
            have := off_end hx5
            unfold Bk.sz at this
            omega
          repeat first | with_reducible refine Eq.mpr wps_cons ?_ | with_reducible refine Eq.mpr wps_pass ?_ | with_reducible refine Eq.mpr wps_nil ?_ | with_reducible refine Eq.mpr wps_set ?_ | with_reducible refine Eq.mpr wps_do ?_ | with_reducible refine Eq.mpr wps_ret ?_ | with_reducible refine Eq.mpr wps_retN ?_ | with_reducible refine Eq.mpr wps_brk ?_ | with_reducible refine Eq.mpr wps_cnt ?_ | with_reducible refine Eq.mpr wps_if ?_ | with_reducible refine Eq.mpr wps_asg ?_ | with_reducible refine Eq.mpr wps_put ?_ | with_reducible refine Eq.mpr wps_dput ?_ | with_reducible refine Eq.mpr wps_aug ?_ | with_reducible refine Eq.mpr wps_par ?_ | with_reducible refine Eq.mpr wps_for ?_ | with_reducible refine Eq.mpr wps_wh ?_ | simp only [wp_bd, wp_lc, ql_nx, ql_ct, ql_bk, ql_rt, iSeq, iEnu, Mir.iRev, chkR, chkT, chkO, lstO, wp_some, wp_ite, wp_none, bd_some, eVar, eC, eOp, eUn, eFn, eMt, aNil, aCons, eTup, eLst, eAnd, eOr, eNot, eIf, eIsi, eChain, bTest, bTruth, bAnd, bOr, bNot, bYes, eSl, pNo, pAt, eDnew, eDin, eDget, eDget2, tgM_name, tgM_tup, tgMs_nil, tgMs_name, tgMs_tup, List.getElem?_cons_succ, List.getElem?_cons_zero, List.set_cons_succ, List.set_cons_zero, List.map_cons, List.map_nil, List.length_cons, List.length_nil, List.replicate, List.nil_append, List.cons_append, if_true, if_false, Bool.false_eq_true, Bool.true_eq_false, Nat.reduceAdd, Nat.reduceSub, Nat.reduceLeDiff, Nat.zero_add, Bool.not_true, Bool.not_false, ii, addI, subI, negI, int1, eqI, neI, eqS, neS, ix0, ix1, ix2, ix3, decide_eq_true_eq, Bool.not_eq_true', decide_eq_false_iff_not, truB, truN, keyI, keyS, lenT, wipeM, putL c5 pl]
          have e6 : (wi (flat C5)).set (a + 4 + p) (.int w') = wi (flat (C5.set j { x with fs := x.fs.set p w' })) := by
            rw [← flat_put w' hx5 (by omega), ha5]
            exact List.map_set.symm
          rw [e6]
          have rch' : ∀ i' ∈ ms ++ t, Rch B rt i' := fun i' hi' => by
            rcases List.mem_append.mp hi' with hi' | hi'
            · exact rch i' hi'
            · exact .step (rch i (List.mem_of_getElem? hi)) hbi (List.mem_of_getElem? hw0) (ht i' hi')
          refine ⟨ms ++ t, _, kvs', { x with fs := x.fs.set p w' }, _, rfl, hi5, List.getElem?_set_self (List.getElem?_eq_some_iff.mp hx5).1, by simp [hL], ?_, sc5.put hi5 hx5 hw0 hf, St', getset c5, ?_, ?_, f4.trans (f5.trans (Fr.set (by simp))), rch', fun q u u' e e' => (rts q u u' e e').ext t⟩
          · rw [off_eq (put_szs w' hx5), ha5]
          · rw [getne (by omega)]; exact d5
          · rw [getne (by omega)]; exact f5.at_ _ _ (by simp; omega) k4
        · rintro ρ s4 ⟨ms, C, kvs, x, x7, rfl, hi, hx, hL, ha, sc, St, c4, d4, k4, f4, rch, rts⟩
          refine ⟨trivial, ?_⟩
          repeat first | with_reducible refine Eq.mpr wps_cons ?_ | with_reducible refine Eq.mpr wps_pass ?_ | with_reducible refine Eq.mpr wps_nil ?_ | with_reducible refine Eq.mpr wps_set ?_ | with_reducible refine Eq.mpr wps_do ?_ | with_reducible refine Eq.mpr wps_ret ?_ | with_reducible refine Eq.mpr wps_retN ?_ | with_reducible refine Eq.mpr wps_brk ?_ | with_reducible refine Eq.mpr wps_cnt ?_ | with_reducible refine Eq.mpr wps_if ?_ | with_reducible refine Eq.mpr wps_asg ?_ | with_reducible refine Eq.mpr wps_put ?_ | with_reducible refine Eq.mpr wps_dput ?_ | with_reducible refine Eq.mpr wps_aug ?_ | with_reducible refine Eq.mpr wps_par ?_ | with_reducible refine Eq.mpr wps_for ?_ | with_reducible refine Eq.mpr wps_wh ?_ | simp only [wp_bd, wp_lc, ql_nx, ql_ct, ql_bk, ql_rt, iSeq, iEnu, Mir.iRev, chkR, chkT, chkO, lstO, wp_some, wp_ite, wp_none, bd_some, eVar, eC, eOp, eUn, eFn, eMt, aNil, aCons, eTup, eLst, eAnd, eOr, eNot, eIf, eIsi, eChain, bTest, bTruth, bAnd, bOr, bNot, bYes, eSl, pNo, pAt, eDnew, eDin, eDget, eDget2, tgM_name, tgM_tup, tgMs_nil, tgMs_name, tgMs_tup, List.getElem?_cons_succ, List.getElem?_cons_zero, List.set_cons_succ, List.set_cons_zero, List.map_cons, List.map_nil, List.length_cons, List.length_nil, List.replicate, List.nil_append, List.cons_append, if_true, if_false, Bool.false_eq_true, Bool.true_eq_false, Nat.reduceAdd, Nat.reduceSub, Nat.reduceLeDiff, Nat.zero_add, Bool.not_true, Bool.not_false, ii, addI, subI, negI, int1, eqI, neI, eqS, neS, ix0, ix1, ix2, ix3, decide_eq_true_eq, Bool.not_eq_true', decide_eq_false_iff_not, truB, truN, keyI, keyS, lenT, wipeM]
          have sc' := sc.next hx (by rw [hxs]; simp; omega)
          have ht := off_step hx
          have hlt := (List.getElem?_eq_some_iff.mp hi).1
          have eo : (off C (j + 1) : Int) = ((a + (4 + L) : Nat) : Int) := by rw [ht, ha, Bk.sz, hL]
          refine ⟨m - 1, by have := nd_len St.nd St.lt; omega, j + 1, ms, C, kvs, some (.int ((a + (4 + L) : Nat) : Int)), x7, x8, by have := nd_len St.nd St.lt; omega, by rw [eo], by omega, sc', St, c4, d4, k4, f4, rch, rts⟩
      · have hjl : j = ms.length := by omega
        have e1 : off C j = (flat C).length := by rw [hjl, ← sc.len, off_all]
        rw [if_neg (by rw [hlen, e1]; omega)]
        repeat first | with_reducible refine Eq.mpr wps_cons ?_ | with_reducible refine Eq.mpr wps_pass ?_ | with_reducible refine Eq.mpr wps_nil ?_ | with_reducible refine Eq.mpr wps_set ?_ | with_reducible refine Eq.mpr wps_do ?_ | with_reducible refine Eq.mpr wps_ret ?_ | with_reducible refine Eq.mpr wps_retN ?_ | with_reducible refine Eq.mpr wps_brk ?_ | with_reducible refine Eq.mpr wps_cnt ?_ | with_reducible refine Eq.mpr wps_if ?_ | with_reducible refine Eq.mpr wps_asg ?_ | with_reducible refine Eq.mpr wps_put ?_ | with_reducible refine Eq.mpr wps_dput ?_ | with_reducible refine Eq.mpr wps_aug ?_ | with_reducible refine Eq.mpr wps_par ?_ | with_reducible refine Eq.mpr wps_for ?_ | with_reducible refine Eq.mpr wps_wh ?_ | simp only [wp_bd, wp_lc, ql_nx, ql_ct, ql_bk, ql_rt, iSeq, iEnu, Mir.iRev, chkR, chkT, chkO, lstO, wp_some, wp_ite, wp_none, bd_some, eVar, eC, eOp, eUn, eFn, eMt, aNil, aCons, eTup, eLst, eAnd, eOr, eNot, eIf, eIsi, eChain, bTest, bTruth, bAnd, bOr, bNot, bYes, eSl, pNo, pAt, eDnew, eDin, eDget, eDget2, tgM_name, tgM_tup, tgMs_nil, tgMs_name, tgMs_tup, List.getElem?_cons_succ, List.getElem?_cons_zero, List.set_cons_succ, List.set_cons_zero, List.map_cons, List.map_nil, List.length_cons, List.length_nil, List.replicate, List.nil_append, List.cons_append, if_true, if_false, Bool.false_eq_true, Bool.true_eq_false, Nat.reduceAdd, Nat.reduceSub, Nat.reduceLeDiff, Nat.zero_add, Bool.not_true, Bool.not_false, ii, addI, subI, negI, int1, eqI, neI, eqS, neS, ix0, ix1, ix2, ix3, decide_eq_true_eq, Bool.not_eq_true', decide_eq_false_iff_not, truB, truN, keyI, keyS, lenT, wipeM]
        subst hjl
        refine ⟨ms, C, rt', c, k, rfl, c3, k3, Nat.le_refl _, by omega, by omega, ?_, Sc.all St.nd St.lt rch sc hq rts⟩
        exact Fr.new (L' := [c, c + 1]) f0 (by simpa using f3) (fun i hi => by simp at hi; omega)
    · exact ⟨0, ms, ms.map (bat B), kvs, none, none, none, by omega, rfl, Nat.zero_le _, Sc.init ms, St, c2, d2, k2, f2, h5, h1⟩
end Cg

set_option Elab.async false
set_option linter.all false
set_option maxRecDepth 100000
namespace Cg
open PySem PySem.Spec PyProof.Rows L2 Mir
/-! ### the heap of the law -/
def offs (B : List Bk) : List Int := (List.range B.length).map fun i => (off B i : Int)
theorem offs_len (B : List Bk) : (offs B).length = B.length := by simp [offs]
theorem offs_get {B : List Bk} {i : Nat} (h : i < B.length) : (offs B)[i]? = some (off B i : Int) := by
  unfold offs
  rw [List.getElem?_map, List.getElem?_range h]
  rfl
theorem Gw.eq {B C : List Bk} (h : B.map Bk.sz = C.map Bk.sz) {w : Int} (g : Gw B w) : Gw C w := fun q => by
  obtain ⟨i, h1, h2⟩ := g q
  refine ⟨i, ?_, by rw [← off_eq h]; exact h2⟩
  have := congrArg List.length h
  simp at this
  omega
theorem word_ok {B : List Bk} {r rc b : Nat} {cs : List Int} {s : Sto} {R : W → Sto → Prop} (T : Tape s r rc cs) (hb : s[b]? = some (.lst (wi (offs B)))) (hl : B.length ≤ 100) (hbr : b ≠ r)
    (h : ∀ w s', Gw B w → Tape s' r rc cs → Fr [r] s s' → s'.length = s.length → R (.int w) s') : Wp (FLawWord [.ref r, .ref b] s) R := by
  unfold FLawWord
  rw [wp_mkF (by rfl)]
  unfold BLawWord
  repeat first | with_reducible refine Eq.mpr wps_cons ?_ | with_reducible refine Eq.mpr wps_pass ?_ | with_reducible refine Eq.mpr wps_nil ?_ | with_reducible refine Eq.mpr wps_set ?_ | with_reducible refine Eq.mpr wps_do ?_ | with_reducible refine Eq.mpr wps_ret ?_ | with_reducible refine Eq.mpr wps_retN ?_ | with_reducible refine Eq.mpr wps_brk ?_ | with_reducible refine Eq.mpr wps_cnt ?_ | with_reducible refine Eq.mpr wps_if ?_ | with_reducible refine Eq.mpr wps_asg ?_ | with_reducible refine Eq.mpr wps_put ?_ | with_reducible refine Eq.mpr wps_dput ?_ | with_reducible refine Eq.mpr wps_aug ?_ | with_reducible refine Eq.mpr wps_par ?_ | with_reducible refine Eq.mpr wps_for ?_ | with_reducible refine Eq.mpr wps_wh ?_ | simp only [wp_bd, wp_lc, ql_nx, ql_ct, ql_bk, ql_rt, iSeq, iEnu, Mir.iRev, chkR, chkT, chkO, lstO, wp_some, wp_ite, wp_none, bd_some, eVar, eC, eOp, eUn, eFn, eMt, aNil, aCons, eTup, eLst, eAnd, eOr, eNot, eIf, eIsi, eChain, bTest, bTruth, bAnd, bOr, bNot, bYes, eSl, pNo, pAt, eDnew, eDin, eDget, eDget2, tgM_name, tgM_tup, tgMs_nil, tgMs_name, tgMs_tup, List.getElem?_cons_succ, List.getElem?_cons_zero, List.set_cons_succ, List.set_cons_zero, List.map_cons, List.map_nil, List.length_cons, List.length_nil, List.replicate, List.nil_append, List.cons_append, if_true, if_false, Bool.false_eq_true, Bool.true_eq_false, Nat.reduceAdd, Nat.reduceSub, Nat.reduceLeDiff, Nat.zero_add, Bool.not_true, Bool.not_false, ii, addI, subI, negI, int1, eqI, neI, eqS, neS, ix0, ix1, ix2, ix3, decide_eq_true_eq, Bool.not_eq_true', decide_eq_false_iff_not, truB, truN, keyI, keyS, lenT, wipeM]
  refine take_wp T 4 (by decide) (by decide) fun d s1 hd T1 f1 l1 => ?_
  have b1 := f1.at_ _ _ (by simpa using hbr) hb
  have ll : (wi (offs B)).length = B.length := by rw [List.length_map, offs_len]
  repeat first | with_reducible refine Eq.mpr wps_cons ?_ | with_reducible refine Eq.mpr wps_pass ?_ | with_reducible refine Eq.mpr wps_nil ?_ | with_reducible refine Eq.mpr wps_set ?_ | with_reducible refine Eq.mpr wps_do ?_ | with_reducible refine Eq.mpr wps_ret ?_ | with_reducible refine Eq.mpr wps_retN ?_ | with_reducible refine Eq.mpr wps_brk ?_ | with_reducible refine Eq.mpr wps_cnt ?_ | with_reducible refine Eq.mpr wps_if ?_ | with_reducible refine Eq.mpr wps_asg ?_ | with_reducible refine Eq.mpr wps_put ?_ | with_reducible refine Eq.mpr wps_dput ?_ | with_reducible refine Eq.mpr wps_aug ?_ | with_reducible refine Eq.mpr wps_par ?_ | with_reducible refine Eq.mpr wps_for ?_ | with_reducible refine Eq.mpr wps_wh ?_ | simp only [wp_bd, wp_lc, ql_nx, ql_ct, ql_bk, ql_rt, iSeq, iEnu, Mir.iRev, chkR, chkT, chkO, lstO, wp_some, wp_ite, wp_none, bd_some, eVar, eC, eOp, eUn, eFn, eMt, aNil, aCons, eTup, eLst, eAnd, eOr, eNot, eIf, eIsi, eChain, bTest, bTruth, bAnd, bOr, bNot, bYes, eSl, pNo, pAt, eDnew, eDin, eDget, eDget2, tgM_name, tgM_tup, tgMs_nil, tgMs_name, tgMs_tup, List.getElem?_cons_succ, List.getElem?_cons_zero, List.set_cons_succ, List.set_cons_zero, List.map_cons, List.map_nil, List.length_cons, List.length_nil, List.replicate, List.nil_append, List.cons_append, if_true, if_false, Bool.false_eq_true, Bool.true_eq_false, Nat.reduceAdd, Nat.reduceSub, Nat.reduceLeDiff, Nat.zero_add, Bool.not_true, Bool.not_false, ii, addI, subI, negI, int1, eqI, neI, eqS, neS, ix0, ix1, ix2, ix3, decide_eq_true_eq, Bool.not_eq_true', decide_eq_false_iff_not, truB, truN, keyI, keyS, lenT, wipeM, lenL b1, ll]
  have rest : ∀ (Q : Out → Sto → Prop), (∀ w s', Gw B w → Tape s' r rc cs → Fr [r] s1 s' → s'.length = s1.length → Q (.rt (.int w)) s') → WpS [(sIf (bTest (eOp gEq (eVar 2) (eC (.int 1)))) (sRet (eOp gAdd (eOp gMul (eC (.int 4)) (eOp gAdd (eOp gMul (eC (.int 16)) (eFn TTake (aCons (eVar 0) (aCons (eC (.int 5)) aNil)))) (eFn TTake (aCons (eVar 0) (aCons (eC (.int 12)) aNil))))) (eC (.int 2)))) sNil), (sRet (eIf (bTest (eOp gEq (eFn TTake (aCons (eVar 0) (aCons (eC (.int 3)) aNil))) (eC (.int 0)))) (eC (.int 3)) (eOp gMul (eC (.int 4)) (eOp gSub (eFn TTake (aCons (eVar 0) (aCons (eC (.int 100)) aNil))) (eC (.int 50))))))] [some (.ref r), some (.ref b), some (.int (d : Int))] s1 Q := by
    intro Q hQ
    repeat first | with_reducible refine Eq.mpr wps_cons ?_ | with_reducible refine Eq.mpr wps_pass ?_ | with_reducible refine Eq.mpr wps_nil ?_ | with_reducible refine Eq.mpr wps_set ?_ | with_reducible refine Eq.mpr wps_do ?_ | with_reducible refine Eq.mpr wps_ret ?_ | with_reducible refine Eq.mpr wps_retN ?_ | with_reducible refine Eq.mpr wps_brk ?_ | with_reducible refine Eq.mpr wps_cnt ?_ | with_reducible refine Eq.mpr wps_if ?_ | with_reducible refine Eq.mpr wps_asg ?_ | with_reducible refine Eq.mpr wps_put ?_ | with_reducible refine Eq.mpr wps_dput ?_ | with_reducible refine Eq.mpr wps_aug ?_ | with_reducible refine Eq.mpr wps_par ?_ | with_reducible refine Eq.mpr wps_for ?_ | with_reducible refine Eq.mpr wps_wh ?_ | simp only [wp_bd, wp_lc, ql_nx, ql_ct, ql_bk, ql_rt, iSeq, iEnu, Mir.iRev, chkR, chkT, chkO, lstO, wp_some, wp_ite, wp_none, bd_some, eVar, eC, eOp, eUn, eFn, eMt, aNil, aCons, eTup, eLst, eAnd, eOr, eNot, eIf, eIsi, eChain, bTest, bTruth, bAnd, bOr, bNot, bYes, eSl, pNo, pAt, eDnew, eDin, eDget, eDget2, tgM_name, tgM_tup, tgMs_nil, tgMs_name, tgMs_tup, List.getElem?_cons_succ, List.getElem?_cons_zero, List.set_cons_succ, List.set_cons_zero, List.map_cons, List.map_nil, List.length_cons, List.length_nil, List.replicate, List.nil_append, List.cons_append, if_true, if_false, Bool.false_eq_true, Bool.true_eq_false, Nat.reduceAdd, Nat.reduceSub, Nat.reduceLeDiff, Nat.zero_add, Bool.not_true, Bool.not_false, ii, addI, subI, negI, int1, eqI, neI, eqS, neS, ix0, ix1, ix2, ix3, decide_eq_true_eq, Bool.not_eq_true', decide_eq_false_iff_not, truB, truN, keyI, keyS, lenT, wipeM]
    by_cases d1 : (d : Int) = 1
    · rw [if_pos d1]
      repeat first | with_reducible refine Eq.mpr wps_cons ?_ | with_reducible refine Eq.mpr wps_pass ?_ | with_reducible refine Eq.mpr wps_nil ?_ | with_reducible refine Eq.mpr wps_set ?_ | with_reducible refine Eq.mpr wps_do ?_ | with_reducible refine Eq.mpr wps_ret ?_ | with_reducible refine Eq.mpr wps_retN ?_ | with_reducible refine Eq.mpr wps_brk ?_ | with_reducible refine Eq.mpr wps_cnt ?_ | with_reducible refine Eq.mpr wps_if ?_ | with_reducible refine Eq.mpr wps_asg ?_ | with_reducible refine Eq.mpr wps_put ?_ | with_reducible refine Eq.mpr wps_dput ?_ | with_reducible refine Eq.mpr wps_aug ?_ | with_reducible refine Eq.mpr wps_par ?_ | with_reducible refine Eq.mpr wps_for ?_ | with_reducible refine Eq.mpr wps_wh ?_ | simp only [wp_bd, wp_lc, ql_nx, ql_ct, ql_bk, ql_rt, iSeq, iEnu, Mir.iRev, chkR, chkT, chkO, lstO, wp_some, wp_ite, wp_none, bd_some, eVar, eC, eOp, eUn, eFn, eMt, aNil, aCons, eTup, eLst, eAnd, eOr, eNot, eIf, eIsi, eChain, bTest, bTruth, bAnd, bOr, bNot, bYes, eSl, pNo, pAt, eDnew, eDin, eDget, eDget2, tgM_name, tgM_tup, tgMs_nil, tgMs_name, tgMs_tup, List.getElem?_cons_succ, List.getElem?_cons_zero, List.set_cons_succ, List.set_cons_zero, List.map_cons, List.map_nil, List.length_cons, List.length_nil, List.replicate, List.nil_append, List.cons_append, if_true, if_false, Bool.false_eq_true, Bool.true_eq_false, Nat.reduceAdd, Nat.reduceSub, Nat.reduceLeDiff, Nat.zero_add, Bool.not_true, Bool.not_false, ii, addI, subI, negI, int1, eqI, neI, eqS, neS, ix0, ix1, ix2, ix3, decide_eq_true_eq, Bool.not_eq_true', decide_eq_false_iff_not, truB, truN, keyI, keyS, lenT, wipeM]
      refine take_wp T1 5 (by decide) (by decide) fun x s2 hx T2 f2 l2 => ?_
      repeat first | with_reducible refine Eq.mpr wps_cons ?_ | with_reducible refine Eq.mpr wps_pass ?_ | with_reducible refine Eq.mpr wps_nil ?_ | with_reducible refine Eq.mpr wps_set ?_ | with_reducible refine Eq.mpr wps_do ?_ | with_reducible refine Eq.mpr wps_ret ?_ | with_reducible refine Eq.mpr wps_retN ?_ | with_reducible refine Eq.mpr wps_brk ?_ | with_reducible refine Eq.mpr wps_cnt ?_ | with_reducible refine Eq.mpr wps_if ?_ | with_reducible refine Eq.mpr wps_asg ?_ | with_reducible refine Eq.mpr wps_put ?_ | with_reducible refine Eq.mpr wps_dput ?_ | with_reducible refine Eq.mpr wps_aug ?_ | with_reducible refine Eq.mpr wps_par ?_ | with_reducible refine Eq.mpr wps_for ?_ | with_reducible refine Eq.mpr wps_wh ?_ | simp only [wp_bd, wp_lc, ql_nx, ql_ct, ql_bk, ql_rt, iSeq, iEnu, Mir.iRev, chkR, chkT, chkO, lstO, wp_some, wp_ite, wp_none, bd_some, eVar, eC, eOp, eUn, eFn, eMt, aNil, aCons, eTup, eLst, eAnd, eOr, eNot, eIf, eIsi, eChain, bTest, bTruth, bAnd, bOr, bNot, bYes, eSl, pNo, pAt, eDnew, eDin, eDget, eDget2, tgM_name, tgM_tup, tgMs_nil, tgMs_name, tgMs_tup, List.getElem?_cons_succ, List.getElem?_cons_zero, List.set_cons_succ, List.set_cons_zero, List.map_cons, List.map_nil, List.length_cons, List.length_nil, List.replicate, List.nil_append, List.cons_append, if_true, if_false, Bool.false_eq_true, Bool.true_eq_false, Nat.reduceAdd, Nat.reduceSub, Nat.reduceLeDiff, Nat.zero_add, Bool.not_true, Bool.not_false, ii, addI, subI, negI, int1, eqI, neI, eqS, neS, ix0, ix1, ix2, ix3, decide_eq_true_eq, Bool.not_eq_true', decide_eq_false_iff_not, truB, truN, keyI, keyS, lenT, wipeM, mulL (i := 16) (by decide) (by decide)]
      refine take_wp T2 12 (by decide) (by decide) fun y s3 hy T3 f3 l3 => ?_
      repeat first | with_reducible refine Eq.mpr wps_cons ?_ | with_reducible refine Eq.mpr wps_pass ?_ | with_reducible refine Eq.mpr wps_nil ?_ | with_reducible refine Eq.mpr wps_set ?_ | with_reducible refine Eq.mpr wps_do ?_ | with_reducible refine Eq.mpr wps_ret ?_ | with_reducible refine Eq.mpr wps_retN ?_ | with_reducible refine Eq.mpr wps_brk ?_ | with_reducible refine Eq.mpr wps_cnt ?_ | with_reducible refine Eq.mpr wps_if ?_ | with_reducible refine Eq.mpr wps_asg ?_ | with_reducible refine Eq.mpr wps_put ?_ | with_reducible refine Eq.mpr wps_dput ?_ | with_reducible refine Eq.mpr wps_aug ?_ | with_reducible refine Eq.mpr wps_par ?_ | with_reducible refine Eq.mpr wps_for ?_ | with_reducible refine Eq.mpr wps_wh ?_ | simp only [wp_bd, wp_lc, ql_nx, ql_ct, ql_bk, ql_rt, iSeq, iEnu, Mir.iRev, chkR, chkT, chkO, lstO, wp_some, wp_ite, wp_none, bd_some, eVar, eC, eOp, eUn, eFn, eMt, aNil, aCons, eTup, eLst, eAnd, eOr, eNot, eIf, eIsi, eChain, bTest, bTruth, bAnd, bOr, bNot, bYes, eSl, pNo, pAt, eDnew, eDin, eDget, eDget2, tgM_name, tgM_tup, tgMs_nil, tgMs_name, tgMs_tup, List.getElem?_cons_succ, List.getElem?_cons_zero, List.set_cons_succ, List.set_cons_zero, List.map_cons, List.map_nil, List.length_cons, List.length_nil, List.replicate, List.nil_append, List.cons_append, if_true, if_false, Bool.false_eq_true, Bool.true_eq_false, Nat.reduceAdd, Nat.reduceSub, Nat.reduceLeDiff, Nat.zero_add, Bool.not_true, Bool.not_false, ii, addI, subI, negI, int1, eqI, neI, eqS, neS, ix0, ix1, ix2, ix3, decide_eq_true_eq, Bool.not_eq_true', decide_eq_false_iff_not, truB, truN, keyI, keyS, lenT, wipeM, mulL (i := 4) (by decide) (by decide)]
      exact hQ _ _ (fun z => by omega) T3 (f2.trans f3) (l3.trans l2)
    · rw [if_neg d1]
      repeat first | with_reducible refine Eq.mpr wps_cons ?_ | with_reducible refine Eq.mpr wps_pass ?_ | with_reducible refine Eq.mpr wps_nil ?_ | with_reducible refine Eq.mpr wps_set ?_ | with_reducible refine Eq.mpr wps_do ?_ | with_reducible refine Eq.mpr wps_ret ?_ | with_reducible refine Eq.mpr wps_retN ?_ | with_reducible refine Eq.mpr wps_brk ?_ | with_reducible refine Eq.mpr wps_cnt ?_ | with_reducible refine Eq.mpr wps_if ?_ | with_reducible refine Eq.mpr wps_asg ?_ | with_reducible refine Eq.mpr wps_put ?_ | with_reducible refine Eq.mpr wps_dput ?_ | with_reducible refine Eq.mpr wps_aug ?_ | with_reducible refine Eq.mpr wps_par ?_ | with_reducible refine Eq.mpr wps_for ?_ | with_reducible refine Eq.mpr wps_wh ?_ | simp only [wp_bd, wp_lc, ql_nx, ql_ct, ql_bk, ql_rt, iSeq, iEnu, Mir.iRev, chkR, chkT, chkO, lstO, wp_some, wp_ite, wp_none, bd_some, eVar, eC, eOp, eUn, eFn, eMt, aNil, aCons, eTup, eLst, eAnd, eOr, eNot, eIf, eIsi, eChain, bTest, bTruth, bAnd, bOr, bNot, bYes, eSl, pNo, pAt, eDnew, eDin, eDget, eDget2, tgM_name, tgM_tup, tgMs_nil, tgMs_name, tgMs_tup, List.getElem?_cons_succ, List.getElem?_cons_zero, List.set_cons_succ, List.set_cons_zero, List.map_cons, List.map_nil, List.length_cons, List.length_nil, List.replicate, List.nil_append, List.cons_append, if_true, if_false, Bool.false_eq_true, Bool.true_eq_false, Nat.reduceAdd, Nat.reduceSub, Nat.reduceLeDiff, Nat.zero_add, Bool.not_true, Bool.not_false, ii, addI, subI, negI, int1, eqI, neI, eqS, neS, ix0, ix1, ix2, ix3, decide_eq_true_eq, Bool.not_eq_true', decide_eq_false_iff_not, truB, truN, keyI, keyS, lenT, wipeM]
      refine take_wp T1 3 (by decide) (by decide) fun x s2 hx T2 f2 l2 => ?_
      repeat first | with_reducible refine Eq.mpr wps_cons ?_ | with_reducible refine Eq.mpr wps_pass ?_ | with_reducible refine Eq.mpr wps_nil ?_ | with_reducible refine Eq.mpr wps_set ?_ | with_reducible refine Eq.mpr wps_do ?_ | with_reducible refine Eq.mpr wps_ret ?_ | with_reducible refine Eq.mpr wps_retN ?_ | with_reducible refine Eq.mpr wps_brk ?_ | with_reducible refine Eq.mpr wps_cnt ?_ | with_reducible refine Eq.mpr wps_if ?_ | with_reducible refine Eq.mpr wps_asg ?_ | with_reducible refine Eq.mpr wps_put ?_ | with_reducible refine Eq.mpr wps_dput ?_ | with_reducible refine Eq.mpr wps_aug ?_ | with_reducible refine Eq.mpr wps_par ?_ | with_reducible refine Eq.mpr wps_for ?_ | with_reducible refine Eq.mpr wps_wh ?_ | simp only [wp_bd, wp_lc, ql_nx, ql_ct, ql_bk, ql_rt, iSeq, iEnu, Mir.iRev, chkR, chkT, chkO, lstO, wp_some, wp_ite, wp_none, bd_some, eVar, eC, eOp, eUn, eFn, eMt, aNil, aCons, eTup, eLst, eAnd, eOr, eNot, eIf, eIsi, eChain, bTest, bTruth, bAnd, bOr, bNot, bYes, eSl, pNo, pAt, eDnew, eDin, eDget, eDget2, tgM_name, tgM_tup, tgMs_nil, tgMs_name, tgMs_tup, List.getElem?_cons_succ, List.getElem?_cons_zero, List.set_cons_succ, List.set_cons_zero, List.map_cons, List.map_nil, List.length_cons, List.length_nil, List.replicate, List.nil_append, List.cons_append, if_true, if_false, Bool.false_eq_true, Bool.true_eq_false, Nat.reduceAdd, Nat.reduceSub, Nat.reduceLeDiff, Nat.zero_add, Bool.not_true, Bool.not_false, ii, addI, subI, negI, int1, eqI, neI, eqS, neS, ix0, ix1, ix2, ix3, decide_eq_true_eq, Bool.not_eq_true', decide_eq_false_iff_not, truB, truN, keyI, keyS, lenT, wipeM]
      by_cases x0 : (x : Int) = 0
      · rw [if_pos x0]
        exact hQ _ _ (fun z => by omega) T2 f2 l2
      · rw [if_neg x0]
        refine take_wp T2 100 (by decide) (by decide) fun y s3 hy T3 f3 l3 => ?_
        repeat first | with_reducible refine Eq.mpr wps_cons ?_ | with_reducible refine Eq.mpr wps_pass ?_ | with_reducible refine Eq.mpr wps_nil ?_ | with_reducible refine Eq.mpr wps_set ?_ | with_reducible refine Eq.mpr wps_do ?_ | with_reducible refine Eq.mpr wps_ret ?_ | with_reducible refine Eq.mpr wps_retN ?_ | with_reducible refine Eq.mpr wps_brk ?_ | with_reducible refine Eq.mpr wps_cnt ?_ | with_reducible refine Eq.mpr wps_if ?_ | with_reducible refine Eq.mpr wps_asg ?_ | with_reducible refine Eq.mpr wps_put ?_ | with_reducible refine Eq.mpr wps_dput ?_ | with_reducible refine Eq.mpr wps_aug ?_ | with_reducible refine Eq.mpr wps_par ?_ | with_reducible refine Eq.mpr wps_for ?_ | with_reducible refine Eq.mpr wps_wh ?_ | simp only [wp_bd, wp_lc, ql_nx, ql_ct, ql_bk, ql_rt, iSeq, iEnu, Mir.iRev, chkR, chkT, chkO, lstO, wp_some, wp_ite, wp_none, bd_some, eVar, eC, eOp, eUn, eFn, eMt, aNil, aCons, eTup, eLst, eAnd, eOr, eNot, eIf, eIsi, eChain, bTest, bTruth, bAnd, bOr, bNot, bYes, eSl, pNo, pAt, eDnew, eDin, eDget, eDget2, tgM_name, tgM_tup, tgMs_nil, tgMs_name, tgMs_tup, List.getElem?_cons_succ, List.getElem?_cons_zero, List.set_cons_succ, List.set_cons_zero, List.map_cons, List.map_nil, List.length_cons, List.length_nil, List.replicate, List.nil_append, List.cons_append, if_true, if_false, Bool.false_eq_true, Bool.true_eq_false, Nat.reduceAdd, Nat.reduceSub, Nat.reduceLeDiff, Nat.zero_add, Bool.not_true, Bool.not_false, ii, addI, subI, negI, int1, eqI, neI, eqS, neS, ix0, ix1, ix2, ix3, decide_eq_true_eq, Bool.not_eq_true', decide_eq_false_iff_not, truB, truN, keyI, keyS, lenT, wipeM, mulL (i := 4) (by decide) (by decide)]
        exact hQ _ _ (fun z => by omega) T3 (f2.trans f3) (l3.trans l2)
  by_cases c1 : (1 : Int) < d
  · rw [if_pos c1]
    by_cases c2 : (0 : Int) < B.length
    · rw [if_pos c2]
      repeat first | with_reducible refine Eq.mpr wps_cons ?_ | with_reducible refine Eq.mpr wps_pass ?_ | with_reducible refine Eq.mpr wps_nil ?_ | with_reducible refine Eq.mpr wps_set ?_ | with_reducible refine Eq.mpr wps_do ?_ | with_reducible refine Eq.mpr wps_ret ?_ | with_reducible refine Eq.mpr wps_retN ?_ | with_reducible refine Eq.mpr wps_brk ?_ | with_reducible refine Eq.mpr wps_cnt ?_ | with_reducible refine Eq.mpr wps_if ?_ | with_reducible refine Eq.mpr wps_asg ?_ | with_reducible refine Eq.mpr wps_put ?_ | with_reducible refine Eq.mpr wps_dput ?_ | with_reducible refine Eq.mpr wps_aug ?_ | with_reducible refine Eq.mpr wps_par ?_ | with_reducible refine Eq.mpr wps_for ?_ | with_reducible refine Eq.mpr wps_wh ?_ | simp only [wp_bd, wp_lc, ql_nx, ql_ct, ql_bk, ql_rt, iSeq, iEnu, Mir.iRev, chkR, chkT, chkO, lstO, wp_some, wp_ite, wp_none, bd_some, eVar, eC, eOp, eUn, eFn, eMt, aNil, aCons, eTup, eLst, eAnd, eOr, eNot, eIf, eIsi, eChain, bTest, bTruth, bAnd, bOr, bNot, bYes, eSl, pNo, pAt, eDnew, eDin, eDget, eDget2, tgM_name, tgM_tup, tgMs_nil, tgMs_name, tgMs_tup, List.getElem?_cons_succ, List.getElem?_cons_zero, List.set_cons_succ, List.set_cons_zero, List.map_cons, List.map_nil, List.length_cons, List.length_nil, List.replicate, List.nil_append, List.cons_append, if_true, if_false, Bool.false_eq_true, Bool.true_eq_false, Nat.reduceAdd, Nat.reduceSub, Nat.reduceLeDiff, Nat.zero_add, Bool.not_true, Bool.not_false, ii, addI, subI, negI, int1, eqI, neI, eqS, neS, ix0, ix1, ix2, ix3, decide_eq_true_eq, Bool.not_eq_true', decide_eq_false_iff_not, truB, truN, keyI, keyS, lenT, wipeM, lenL b1, ll]
      refine take_wp T1 B.length (by omega) (by omega) fun x s2 hx T2 f2 l2 => ?_
      have b2 := f2.at_ _ _ (by simpa using hbr) b1
      repeat first | with_reducible refine Eq.mpr wps_cons ?_ | with_reducible refine Eq.mpr wps_pass ?_ | with_reducible refine Eq.mpr wps_nil ?_ | with_reducible refine Eq.mpr wps_set ?_ | with_reducible refine Eq.mpr wps_do ?_ | with_reducible refine Eq.mpr wps_ret ?_ | with_reducible refine Eq.mpr wps_retN ?_ | with_reducible refine Eq.mpr wps_brk ?_ | with_reducible refine Eq.mpr wps_cnt ?_ | with_reducible refine Eq.mpr wps_if ?_ | with_reducible refine Eq.mpr wps_asg ?_ | with_reducible refine Eq.mpr wps_put ?_ | with_reducible refine Eq.mpr wps_dput ?_ | with_reducible refine Eq.mpr wps_aug ?_ | with_reducible refine Eq.mpr wps_par ?_ | with_reducible refine Eq.mpr wps_for ?_ | with_reducible refine Eq.mpr wps_wh ?_ | simp only [wp_bd, wp_lc, ql_nx, ql_ct, ql_bk, ql_rt, iSeq, iEnu, Mir.iRev, chkR, chkT, chkO, lstO, wp_some, wp_ite, wp_none, bd_some, eVar, eC, eOp, eUn, eFn, eMt, aNil, aCons, eTup, eLst, eAnd, eOr, eNot, eIf, eIsi, eChain, bTest, bTruth, bAnd, bOr, bNot, bYes, eSl, pNo, pAt, eDnew, eDin, eDget, eDget2, tgM_name, tgM_tup, tgMs_nil, tgMs_name, tgMs_tup, List.getElem?_cons_succ, List.getElem?_cons_zero, List.set_cons_succ, List.set_cons_zero, List.map_cons, List.map_nil, List.length_cons, List.length_nil, List.replicate, List.nil_append, List.cons_append, if_true, if_false, Bool.false_eq_true, Bool.true_eq_false, Nat.reduceAdd, Nat.reduceSub, Nat.reduceLeDiff, Nat.zero_add, Bool.not_true, Bool.not_false, ii, addI, subI, negI, int1, eqI, neI, eqS, neS, ix0, ix1, ix2, ix3, decide_eq_true_eq, Bool.not_eq_true', decide_eq_false_iff_not, truB, truN, keyI, keyS, lenT, wipeM, ixI b2 (offs_get hx), mulL (i := 4) (by decide) (by decide)]
      exact h _ _ (fun _ => ⟨x, hx, rfl⟩) T2 (f1.trans f2) (l2.trans l1)
    · rw [if_neg c2]
      rw [wps_pass, wps_cons]
      refine rest _ fun w s' g T' f' l' => ?_
      exact h w s' g T' (f1.trans f') (l'.trans l1)
  · rw [if_neg c1]
    rw [wps_pass, wps_cons]
    refine rest _ fun w s' g T' f' l' => ?_
    exact h w s' g T' (f1.trans f') (l'.trans l1)
theorem inInts {w : Int} {l : List Int} {q : Nat} {s : Sto} (h : s[q]? = some (.lst (wi l))) : gNotIn (.int w) (.ref q) s = some (.bl (!decide (w ∈ l)), s) := by
  have hf : (wi l).all flatW = true := by
    rw [List.all_eq_true]
    intro x hx
    obtain ⟨y, _, rfl⟩ := List.mem_map.mp hx
    rfl
  have e : inW (.int w) (wi l) = decide (w ∈ l) := by
    clear h hf
    unfold inW wi
    rw [List.any_map]
    induction l with
    | nil => rfl
    | cons y r ih =>
      rw [List.any_cons, ih]
      by_cases q : y = w
      · simp [eqF, q]
      · have q' : ¬ w = y := fun z => q z.symm
        simp [eqF, q, q']
  simp only [gNotIn, insW, seqOf, h, hf, e, flatW, and_self, if_true]
theorem zeros_lc {i k : Nat} {ρ : EnvM} {s : Sto} {R : List W → Sto → Prop} (h : R (wi (List.replicate k 0)) s) : Wp (lcf (.name i) bYes (eC (.int 0)) none ρ ((List.range k).map fun (i : Nat) => W.int (i : Int)) s) R := by
  refine wp_lcf (fun j acc s' => s' = s ∧ acc = wi (List.replicate j 0)) _ 0 [] s ⟨rfl, rfl⟩ ?_ ?_
  · rintro q x acc s1 hx ⟨rfl, rfl⟩
    refine ⟨trivial, _, rfl, ?_⟩
    repeat first | with_reducible refine Eq.mpr wps_cons ?_ | with_reducible refine Eq.mpr wps_pass ?_ | with_reducible refine Eq.mpr wps_nil ?_ | with_reducible refine Eq.mpr wps_set ?_ | with_reducible refine Eq.mpr wps_do ?_ | with_reducible refine Eq.mpr wps_ret ?_ | with_reducible refine Eq.mpr wps_retN ?_ | with_reducible refine Eq.mpr wps_brk ?_ | with_reducible refine Eq.mpr wps_cnt ?_ | with_reducible refine Eq.mpr wps_if ?_ | with_reducible refine Eq.mpr wps_asg ?_ | with_reducible refine Eq.mpr wps_put ?_ | with_reducible refine Eq.mpr wps_dput ?_ | with_reducible refine Eq.mpr wps_aug ?_ | with_reducible refine Eq.mpr wps_par ?_ | with_reducible refine Eq.mpr wps_for ?_ | with_reducible refine Eq.mpr wps_wh ?_ | simp only [wp_bd, wp_lc, ql_nx, ql_ct, ql_bk, ql_rt, iSeq, iEnu, Mir.iRev, chkR, chkT, chkO, lstO, wp_some, wp_ite, wp_none, bd_some, eVar, eC, eOp, eUn, eFn, eMt, aNil, aCons, eTup, eLst, eAnd, eOr, eNot, eIf, eIsi, eChain, bTest, bTruth, bAnd, bOr, bNot, bYes, eSl, pNo, pAt, eDnew, eDin, eDget, eDget2, tgM_name, tgM_tup, tgMs_nil, tgMs_name, tgMs_tup, List.getElem?_cons_succ, List.getElem?_cons_zero, List.set_cons_succ, List.set_cons_zero, List.map_cons, List.map_nil, List.length_cons, List.length_nil, List.replicate, List.nil_append, List.cons_append, if_true, if_false, Bool.false_eq_true, Bool.true_eq_false, Nat.reduceAdd, Nat.reduceSub, Nat.reduceLeDiff, Nat.zero_add, Bool.not_true, Bool.not_false, ii, addI, subI, negI, int1, eqI, neI, eqS, neS, ix0, ix1, ix2, ix3, decide_eq_true_eq, Bool.not_eq_true', decide_eq_false_iff_not, truB, truN, keyI, keyS, lenT, wipeM]
    refine ⟨trivial, ?_⟩
    have e : wi (List.replicate q 0) ++ [W.int 0] = wi (List.replicate (q + 1) 0) := by rw [List.replicate_succ']; simp
    exact e
  · rintro acc s1 ⟨rfl, rfl⟩
    refine ⟨trivial, fun ws e => ?_⟩
    rw [List.nil_append] at e
    rw [← e]
    simpa using h
theorem offs_app {B : List Bk} {x : Bk} : offs (B ++ [x]) = offs B ++ [((flat B).length : Int)] := by
  unfold offs
  rw [List.length_append, List.length_singleton, List.range_succ, List.map_append, List.map_singleton]
  congr 1
  · apply List.map_congr_left
    intro i hi
    have hi := List.mem_range.mp hi
    unfold off
    rw [List.map_append, List.take_append_of_le_length (by simp; omega)]
  · congr 2
    unfold off
    rw [flat_len, List.map_append, List.take_append_of_le_length (by simp), List.take_of_length_le (by simp)]
theorem offs_eq {B C : List Bk} (h : B.map Bk.sz = C.map Bk.sz) : offs B = offs C := by
  unfold offs
  have : B.length = C.length := by have := congrArg List.length h; simpa using this
  rw [this]
  apply List.map_congr_left
  intro i _
  rw [off_eq h]
/-- small as in the law -/
def Sm7 (B : List Bk) : Prop := B.length ≤ 8 ∧ ∀ x ∈ B, x.fs.length ≤ 3
theorem Sm7.sm {B : List Bk} (h : Sm7 B) : Sm B := ⟨by have := h.1; omega, fun x hx => by have := h.2 x hx; unfold Bk.sz; omega⟩
theorem words_ok {r rc : Nat} {cs : List Int} {s : Sto} {R : W → Sto → Prop} (T : Tape s r rc cs)
    (h : ∀ B a b s', Sm7 B → Wf B → s'[a]? = some (.lst (wi (flat B))) → s'[b]? = some (.lst (wi (offs B))) → s.length ≤ a → s.length ≤ b → a ≠ b → Tape s' r rc cs → Fr [r] s s' → R (.tup [.ref a, .ref b]) s') : Wp (FLawWords [.ref r] s) R := by
  unfold FLawWords
  rw [wp_mkF (by rfl)]
  unfold BLawWords
  repeat first | with_reducible refine Eq.mpr wps_cons ?_ | with_reducible refine Eq.mpr wps_pass ?_ | with_reducible refine Eq.mpr wps_nil ?_ | with_reducible refine Eq.mpr wps_set ?_ | with_reducible refine Eq.mpr wps_do ?_ | with_reducible refine Eq.mpr wps_ret ?_ | with_reducible refine Eq.mpr wps_retN ?_ | with_reducible refine Eq.mpr wps_brk ?_ | with_reducible refine Eq.mpr wps_cnt ?_ | with_reducible refine Eq.mpr wps_if ?_ | with_reducible refine Eq.mpr wps_asg ?_ | with_reducible refine Eq.mpr wps_put ?_ | with_reducible refine Eq.mpr wps_dput ?_ | with_reducible refine Eq.mpr wps_aug ?_ | with_reducible refine Eq.mpr wps_par ?_ | with_reducible refine Eq.mpr wps_for ?_ | with_reducible refine Eq.mpr wps_wh ?_ | simp only [wp_bd, wp_lc, ql_nx, ql_ct, ql_bk, ql_rt, iSeq, iEnu, Mir.iRev, chkR, chkT, chkO, lstO, wp_some, wp_ite, wp_none, bd_some, eVar, eC, eOp, eUn, eFn, eMt, aNil, aCons, eTup, eLst, eAnd, eOr, eNot, eIf, eIsi, eChain, bTest, bTruth, bAnd, bOr, bNot, bYes, eSl, pNo, pAt, eDnew, eDin, eDget, eDget2, tgM_name, tgM_tup, tgMs_nil, tgMs_name, tgMs_tup, List.getElem?_cons_succ, List.getElem?_cons_zero, List.set_cons_succ, List.set_cons_zero, List.map_cons, List.map_nil, List.length_cons, List.length_nil, List.replicate, List.nil_append, List.cons_append, if_true, if_false, Bool.false_eq_true, Bool.true_eq_false, Nat.reduceAdd, Nat.reduceSub, Nat.reduceLeDiff, Nat.zero_add, Bool.not_true, Bool.not_false, ii, addI, subI, negI, int1, eqI, neI, eqS, neS, ix0, ix1, ix2, ix3, decide_eq_true_eq, Bool.not_eq_true', decide_eq_false_iff_not, truB, truN, keyI, keyS, lenT, wipeM]
  have lt := T.lt
  have ha : (s ++ [O.lst []]).length = s.length + 1 := by simp
  rw [ha]
  have a0 : (s ++ [O.lst []] ++ [O.lst []])[s.length]? = some (.lst (wi (flat []))) := gapp gnew
  have b0 : (s ++ [O.lst []] ++ [O.lst []])[s.length + 1]? = some (.lst (wi (offs []))) := by rw [← ha]; exact gnew
  have T0 := (T.app [O.lst []]).app [O.lst []]
  have f0 : Fr [r] s (s ++ [O.lst []] ++ [O.lst []]) := Fr.app.trans Fr.app
  generalize s ++ [O.lst []] ++ [O.lst []] = s0 at a0 b0 T0 f0 ⊢
  generalize ea : s.length = a at *
  refine wp_rng1 ?_
  repeat first | with_reducible refine Eq.mpr wps_cons ?_ | with_reducible refine Eq.mpr wps_pass ?_ | with_reducible refine Eq.mpr wps_nil ?_ | with_reducible refine Eq.mpr wps_set ?_ | with_reducible refine Eq.mpr wps_do ?_ | with_reducible refine Eq.mpr wps_ret ?_ | with_reducible refine Eq.mpr wps_retN ?_ | with_reducible refine Eq.mpr wps_brk ?_ | with_reducible refine Eq.mpr wps_cnt ?_ | with_reducible refine Eq.mpr wps_if ?_ | with_reducible refine Eq.mpr wps_asg ?_ | with_reducible refine Eq.mpr wps_put ?_ | with_reducible refine Eq.mpr wps_dput ?_ | with_reducible refine Eq.mpr wps_aug ?_ | with_reducible refine Eq.mpr wps_par ?_ | with_reducible refine Eq.mpr wps_for ?_ | with_reducible refine Eq.mpr wps_wh ?_ | simp only [wp_bd, wp_lc, ql_nx, ql_ct, ql_bk, ql_rt, iSeq, iEnu, Mir.iRev, chkR, chkT, chkO, lstO, wp_some, wp_ite, wp_none, bd_some, eVar, eC, eOp, eUn, eFn, eMt, aNil, aCons, eTup, eLst, eAnd, eOr, eNot, eIf, eIsi, eChain, bTest, bTruth, bAnd, bOr, bNot, bYes, eSl, pNo, pAt, eDnew, eDin, eDget, eDget2, tgM_name, tgM_tup, tgMs_nil, tgMs_name, tgMs_tup, List.getElem?_cons_succ, List.getElem?_cons_zero, List.set_cons_succ, List.set_cons_zero, List.map_cons, List.map_nil, List.length_cons, List.length_nil, List.replicate, List.nil_append, List.cons_append, if_true, if_false, Bool.false_eq_true, Bool.true_eq_false, Nat.reduceAdd, Nat.reduceSub, Nat.reduceLeDiff, Nat.zero_add, Bool.not_true, Bool.not_false, ii, addI, subI, negI, int1, eqI, neI, eqS, neS, ix0, ix1, ix2, ix3, decide_eq_true_eq, Bool.not_eq_true', decide_eq_false_iff_not, truB, truN, keyI, keyS, lenT, wipeM]
  refine take_wp T0 9 (by decide) (by decide) fun n1 s1 hn1 T1 f1 l1 => ?_
  refine ⟨n1, rfl, by omega, ?_⟩
  have a1 := f1.at_ _ _ (by simp; omega) a0
  have b1 := f1.at_ _ _ (by simp; omega) b0
  refine wp_fo (fun k ρ s' => ∃ B x3 x4 x5 x6, ρ = [some (.ref r), some (.ref a), some (.ref (a + 1)), x3, x4, x5, x6] ∧ B.length = k ∧ (∀ x ∈ B, x.fs.length ≤ 3) ∧ Wf B ∧ s'[a]? = some (.lst (wi (flat B))) ∧ s'[a + 1]? = some (.lst (wi (offs B))) ∧ Tape s' r rc cs ∧ Fr [a, a + 1, r] s0 s') _ 0 _ _ ?_ ?_ ?_
  · exact ⟨[], none, none, none, none, rfl, rfl, fun _ h => (by cases h), fun _ h => (by cases h), a1, b1, T1, f1.mono (by simp)⟩
  · rintro k y ρ s2 hy ⟨B, x3, x4, x5, x6, rfl, hk, hB, wf, a2, b2, T2, f2⟩
    rw [Nat.zero_add] at hk ⊢
    have hk9 : k < 9 := by
      have := (List.getElem?_eq_some_iff.mp hy).1
      simp at this; omega
    refine ⟨trivial, _, rfl, ?_⟩
    have fl := flat_le (B := B) ⟨by omega, fun x hx => by have := hB x hx; unfold Bk.sz; omega⟩
    repeat first | with_reducible refine Eq.mpr wps_cons ?_ | with_reducible refine Eq.mpr wps_pass ?_ | with_reducible refine Eq.mpr wps_nil ?_ | with_reducible refine Eq.mpr wps_set ?_ | with_reducible refine Eq.mpr wps_do ?_ | with_reducible refine Eq.mpr wps_ret ?_ | with_reducible refine Eq.mpr wps_retN ?_ | with_reducible refine Eq.mpr wps_brk ?_ | with_reducible refine Eq.mpr wps_cnt ?_ | with_reducible refine Eq.mpr wps_if ?_ | with_reducible refine Eq.mpr wps_asg ?_ | with_reducible refine Eq.mpr wps_put ?_ | with_reducible refine Eq.mpr wps_dput ?_ | with_reducible refine Eq.mpr wps_aug ?_ | with_reducible refine Eq.mpr wps_par ?_ | with_reducible refine Eq.mpr wps_for ?_ | with_reducible refine Eq.mpr wps_wh ?_ | simp only [wp_bd, wp_lc, ql_nx, ql_ct, ql_bk, ql_rt, iSeq, iEnu, Mir.iRev, chkR, chkT, chkO, lstO, wp_some, wp_ite, wp_none, bd_some, eVar, eC, eOp, eUn, eFn, eMt, aNil, aCons, eTup, eLst, eAnd, eOr, eNot, eIf, eIsi, eChain, bTest, bTruth, bAnd, bOr, bNot, bYes, eSl, pNo, pAt, eDnew, eDin, eDget, eDget2, tgM_name, tgM_tup, tgMs_nil, tgMs_name, tgMs_tup, List.getElem?_cons_succ, List.getElem?_cons_zero, List.set_cons_succ, List.set_cons_zero, List.map_cons, List.map_nil, List.length_cons, List.length_nil, List.replicate, List.nil_append, List.cons_append, if_true, if_false, Bool.false_eq_true, Bool.true_eq_false, Nat.reduceAdd, Nat.reduceSub, Nat.reduceLeDiff, Nat.zero_add, Bool.not_true, Bool.not_false, ii, addI, subI, negI, int1, eqI, neI, eqS, neS, ix0, ix1, ix2, ix3, decide_eq_true_eq, Bool.not_eq_true', decide_eq_false_iff_not, truB, truN, keyI, keyS, lenT, wipeM, isLR b2, lenL a2]
    have hob : (wi (offs B)).length ≤ 100000 := by rw [List.length_map, offs_len]; omega
    repeat first | with_reducible refine Eq.mpr wps_cons ?_ | with_reducible refine Eq.mpr wps_pass ?_ | with_reducible refine Eq.mpr wps_nil ?_ | with_reducible refine Eq.mpr wps_set ?_ | with_reducible refine Eq.mpr wps_do ?_ | with_reducible refine Eq.mpr wps_ret ?_ | with_reducible refine Eq.mpr wps_retN ?_ | with_reducible refine Eq.mpr wps_brk ?_ | with_reducible refine Eq.mpr wps_cnt ?_ | with_reducible refine Eq.mpr wps_if ?_ | with_reducible refine Eq.mpr wps_asg ?_ | with_reducible refine Eq.mpr wps_put ?_ | with_reducible refine Eq.mpr wps_dput ?_ | with_reducible refine Eq.mpr wps_aug ?_ | with_reducible refine Eq.mpr wps_par ?_ | with_reducible refine Eq.mpr wps_for ?_ | with_reducible refine Eq.mpr wps_wh ?_ | simp only [wp_bd, wp_lc, ql_nx, ql_ct, ql_bk, ql_rt, iSeq, iEnu, Mir.iRev, chkR, chkT, chkO, lstO, wp_some, wp_ite, wp_none, bd_some, eVar, eC, eOp, eUn, eFn, eMt, aNil, aCons, eTup, eLst, eAnd, eOr, eNot, eIf, eIsi, eChain, bTest, bTruth, bAnd, bOr, bNot, bYes, eSl, pNo, pAt, eDnew, eDin, eDget, eDget2, tgM_name, tgM_tup, tgMs_nil, tgMs_name, tgMs_tup, List.getElem?_cons_succ, List.getElem?_cons_zero, List.set_cons_succ, List.set_cons_zero, List.map_cons, List.map_nil, List.length_cons, List.length_nil, List.replicate, List.nil_append, List.cons_append, if_true, if_false, Bool.false_eq_true, Bool.true_eq_false, Nat.reduceAdd, Nat.reduceSub, Nat.reduceLeDiff, Nat.zero_add, Bool.not_true, Bool.not_false, ii, addI, subI, negI, int1, eqI, neI, eqS, neS, ix0, ix1, ix2, ix3, decide_eq_true_eq, Bool.not_eq_true', decide_eq_false_iff_not, truB, truN, keyI, keyS, lenT, wipeM, appL b2 hob]
    have eb : wi (offs B) ++ [.int ((wi (flat B)).length : Int)] = wi (offs B ++ [((flat B).length : Int)]) := by simp
    rw [eb]
    generalize e3 : s2.set (a + 1) (.lst (wi (offs B ++ [((flat B).length : Int)]))) = s3
    have a3 : s3[a]? = some (.lst (wi (flat B))) := by rw [← e3, getne (by omega)]; exact a2
    have b3 : s3[a + 1]? = some (.lst (wi (offs B ++ [((flat B).length : Int)]))) := by rw [← e3]; exact getset b2
    have fr3 : Fr [a + 1] s2 s3 := by rw [← e3]; exact Fr.set (by simp)
    have T3 := T2.fr fr3 (by simp; omega) (by simp; omega)
    refine take_wp T3 4 (by decide) (by decide) fun c s4 hc T4 f4 l4 => ?_
    repeat first | with_reducible refine Eq.mpr wps_cons ?_ | with_reducible refine Eq.mpr wps_pass ?_ | with_reducible refine Eq.mpr wps_nil ?_ | with_reducible refine Eq.mpr wps_set ?_ | with_reducible refine Eq.mpr wps_do ?_ | with_reducible refine Eq.mpr wps_ret ?_ | with_reducible refine Eq.mpr wps_retN ?_ | with_reducible refine Eq.mpr wps_brk ?_ | with_reducible refine Eq.mpr wps_cnt ?_ | with_reducible refine Eq.mpr wps_if ?_ | with_reducible refine Eq.mpr wps_asg ?_ | with_reducible refine Eq.mpr wps_put ?_ | with_reducible refine Eq.mpr wps_dput ?_ | with_reducible refine Eq.mpr wps_aug ?_ | with_reducible refine Eq.mpr wps_par ?_ | with_reducible refine Eq.mpr wps_for ?_ | with_reducible refine Eq.mpr wps_wh ?_ | simp only [wp_bd, wp_lc, ql_nx, ql_ct, ql_bk, ql_rt, iSeq, iEnu, Mir.iRev, chkR, chkT, chkO, lstO, wp_some, wp_ite, wp_none, bd_some, eVar, eC, eOp, eUn, eFn, eMt, aNil, aCons, eTup, eLst, eAnd, eOr, eNot, eIf, eIsi, eChain, bTest, bTruth, bAnd, bOr, bNot, bYes, eSl, pNo, pAt, eDnew, eDin, eDget, eDget2, tgM_name, tgM_tup, tgMs_nil, tgMs_name, tgMs_tup, List.getElem?_cons_succ, List.getElem?_cons_zero, List.set_cons_succ, List.set_cons_zero, List.map_cons, List.map_nil, List.length_cons, List.length_nil, List.replicate, List.nil_append, List.cons_append, if_true, if_false, Bool.false_eq_true, Bool.true_eq_false, Nat.reduceAdd, Nat.reduceSub, Nat.reduceLeDiff, Nat.zero_add, Bool.not_true, Bool.not_false, ii, addI, subI, negI, int1, eqI, neI, eqS, neS, ix0, ix1, ix2, ix3, decide_eq_true_eq, Bool.not_eq_true', decide_eq_false_iff_not, truB, truN, keyI, keyS, lenT, wipeM, isLR (f4.at_ _ _ (by simp; omega) a3)]
    refine take_wp T4 7 (by decide) (by decide) fun p s5 hp T5 f5 l5 => ?_
    repeat first | with_reducible refine Eq.mpr wps_cons ?_ | with_reducible refine Eq.mpr wps_pass ?_ | with_reducible refine Eq.mpr wps_nil ?_ | with_reducible refine Eq.mpr wps_set ?_ | with_reducible refine Eq.mpr wps_do ?_ | with_reducible refine Eq.mpr wps_ret ?_ | with_reducible refine Eq.mpr wps_retN ?_ | with_reducible refine Eq.mpr wps_brk ?_ | with_reducible refine Eq.mpr wps_cnt ?_ | with_reducible refine Eq.mpr wps_if ?_ | with_reducible refine Eq.mpr wps_asg ?_ | with_reducible refine Eq.mpr wps_put ?_ | with_reducible refine Eq.mpr wps_dput ?_ | with_reducible refine Eq.mpr wps_aug ?_ | with_reducible refine Eq.mpr wps_par ?_ | with_reducible refine Eq.mpr wps_for ?_ | with_reducible refine Eq.mpr wps_wh ?_ | simp only [wp_bd, wp_lc, ql_nx, ql_ct, ql_bk, ql_rt, iSeq, iEnu, Mir.iRev, chkR, chkT, chkO, lstO, wp_some, wp_ite, wp_none, bd_some, eVar, eC, eOp, eUn, eFn, eMt, aNil, aCons, eTup, eLst, eAnd, eOr, eNot, eIf, eIsi, eChain, bTest, bTruth, bAnd, bOr, bNot, bYes, eSl, pNo, pAt, eDnew, eDin, eDget, eDget2, tgM_name, tgM_tup, tgMs_nil, tgMs_name, tgMs_tup, List.getElem?_cons_succ, List.getElem?_cons_zero, List.set_cons_succ, List.set_cons_zero, List.map_cons, List.map_nil, List.length_cons, List.length_nil, List.replicate, List.nil_append, List.cons_append, if_true, if_false, Bool.false_eq_true, Bool.true_eq_false, Nat.reduceAdd, Nat.reduceSub, Nat.reduceLeDiff, Nat.zero_add, Bool.not_true, Bool.not_false, ii, addI, subI, negI, int1, eqI, neI, eqS, neS, ix0, ix1, ix2, ix3, decide_eq_true_eq, Bool.not_eq_true', decide_eq_false_iff_not, truB, truN, keyI, keyS, lenT, wipeM]
    refine take_wp T5 9 (by decide) (by decide) fun q s6 hq T6 f6 l6 => ?_
    repeat first | with_reducible refine Eq.mpr wps_cons ?_ | with_reducible refine Eq.mpr wps_pass ?_ | with_reducible refine Eq.mpr wps_nil ?_ | with_reducible refine Eq.mpr wps_set ?_ | with_reducible refine Eq.mpr wps_do ?_ | with_reducible refine Eq.mpr wps_ret ?_ | with_reducible refine Eq.mpr wps_retN ?_ | with_reducible refine Eq.mpr wps_brk ?_ | with_reducible refine Eq.mpr wps_cnt ?_ | with_reducible refine Eq.mpr wps_if ?_ | with_reducible refine Eq.mpr wps_asg ?_ | with_reducible refine Eq.mpr wps_put ?_ | with_reducible refine Eq.mpr wps_dput ?_ | with_reducible refine Eq.mpr wps_aug ?_ | with_reducible refine Eq.mpr wps_par ?_ | with_reducible refine Eq.mpr wps_for ?_ | with_reducible refine Eq.mpr wps_wh ?_ | simp only [wp_bd, wp_lc, ql_nx, ql_ct, ql_bk, ql_rt, iSeq, iEnu, Mir.iRev, chkR, chkT, chkO, lstO, wp_some, wp_ite, wp_none, bd_some, eVar, eC, eOp, eUn, eFn, eMt, aNil, aCons, eTup, eLst, eAnd, eOr, eNot, eIf, eIsi, eChain, bTest, bTruth, bAnd, bOr, bNot, bYes, eSl, pNo, pAt, eDnew, eDin, eDget, eDget2, tgM_name, tgM_tup, tgMs_nil, tgMs_name, tgMs_tup, List.getElem?_cons_succ, List.getElem?_cons_zero, List.set_cons_succ, List.set_cons_zero, List.map_cons, List.map_nil, List.length_cons, List.length_nil, List.replicate, List.nil_append, List.cons_append, if_true, if_false, Bool.false_eq_true, Bool.true_eq_false, Nat.reduceAdd, Nat.reduceSub, Nat.reduceLeDiff, Nat.zero_add, Bool.not_true, Bool.not_false, ii, addI, subI, negI, int1, eqI, neI, eqS, neS, ix0, ix1, ix2, ix3, decide_eq_true_eq, Bool.not_eq_true', decide_eq_false_iff_not, truB, truN, keyI, keyS, lenT, wipeM]
    refine take_wp T6 12 (by decide) (by decide) fun u s7 hu T7 f7 l7 => ?_
    have f37 : Fr [r] s3 s7 := f4.trans (f5.trans (f6.trans f7))
    have a7 := f37.at_ _ _ (by simp; omega) a3
    have b7 := f37.at_ _ _ (by simp; omega) b3
    repeat first | with_reducible refine Eq.mpr wps_cons ?_ | with_reducible refine Eq.mpr wps_pass ?_ | with_reducible refine Eq.mpr wps_nil ?_ | with_reducible refine Eq.mpr wps_set ?_ | with_reducible refine Eq.mpr wps_do ?_ | with_reducible refine Eq.mpr wps_ret ?_ | with_reducible refine Eq.mpr wps_retN ?_ | with_reducible refine Eq.mpr wps_brk ?_ | with_reducible refine Eq.mpr wps_cnt ?_ | with_reducible refine Eq.mpr wps_if ?_ | with_reducible refine Eq.mpr wps_asg ?_ | with_reducible refine Eq.mpr wps_put ?_ | with_reducible refine Eq.mpr wps_dput ?_ | with_reducible refine Eq.mpr wps_aug ?_ | with_reducible refine Eq.mpr wps_par ?_ | with_reducible refine Eq.mpr wps_for ?_ | with_reducible refine Eq.mpr wps_wh ?_ | simp only [wp_bd, wp_lc, ql_nx, ql_ct, ql_bk, ql_rt, iSeq, iEnu, Mir.iRev, chkR, chkT, chkO, lstO, wp_some, wp_ite, wp_none, bd_some, eVar, eC, eOp, eUn, eFn, eMt, aNil, aCons, eTup, eLst, eAnd, eOr, eNot, eIf, eIsi, eChain, bTest, bTruth, bAnd, bOr, bNot, bYes, eSl, pNo, pAt, eDnew, eDin, eDget, eDget2, tgM_name, tgM_tup, tgMs_nil, tgMs_name, tgMs_tup, List.getElem?_cons_succ, List.getElem?_cons_zero, List.set_cons_succ, List.set_cons_zero, List.map_cons, List.map_nil, List.length_cons, List.length_nil, List.replicate, List.nil_append, List.cons_append, if_true, if_false, Bool.false_eq_true, Bool.true_eq_false, Nat.reduceAdd, Nat.reduceSub, Nat.reduceLeDiff, Nat.zero_add, Bool.not_true, Bool.not_false, ii, addI, subI, negI, int1, eqI, neI, eqS, neS, ix0, ix1, ix2, ix3, decide_eq_true_eq, Bool.not_eq_true', decide_eq_false_iff_not, truB, truN, keyI, keyS, lenT, wipeM]
    have a8 := gapp (t := [O.lst [.int (p : Int), .int (q : Int), .int (u : Int), .int (c : Int)]]) a7
    have k8 : (s7 ++ [O.lst [.int (p : Int), .int (q : Int), .int (u : Int), .int (c : Int)]])[s7.length]? = some (.lst [.int (p : Int), .int (q : Int), .int (u : Int), .int (c : Int)]) := gnew
    have b8 := gapp (t := [O.lst [.int (p : Int), .int (q : Int), .int (u : Int), .int (c : Int)]]) b7
    have T8 := T7.app [O.lst [.int (p : Int), .int (q : Int), .int (u : Int), .int (c : Int)]]
    repeat first | with_reducible refine Eq.mpr wps_cons ?_ | with_reducible refine Eq.mpr wps_pass ?_ | with_reducible refine Eq.mpr wps_nil ?_ | with_reducible refine Eq.mpr wps_set ?_ | with_reducible refine Eq.mpr wps_do ?_ | with_reducible refine Eq.mpr wps_ret ?_ | with_reducible refine Eq.mpr wps_retN ?_ | with_reducible refine Eq.mpr wps_brk ?_ | with_reducible refine Eq.mpr wps_cnt ?_ | with_reducible refine Eq.mpr wps_if ?_ | with_reducible refine Eq.mpr wps_asg ?_ | with_reducible refine Eq.mpr wps_put ?_ | with_reducible refine Eq.mpr wps_dput ?_ | with_reducible refine Eq.mpr wps_aug ?_ | with_reducible refine Eq.mpr wps_par ?_ | with_reducible refine Eq.mpr wps_for ?_ | with_reducible refine Eq.mpr wps_wh ?_ | simp only [wp_bd, wp_lc, ql_nx, ql_ct, ql_bk, ql_rt, iSeq, iEnu, Mir.iRev, chkR, chkT, chkO, lstO, wp_some, wp_ite, wp_none, bd_some, eVar, eC, eOp, eUn, eFn, eMt, aNil, aCons, eTup, eLst, eAnd, eOr, eNot, eIf, eIsi, eChain, bTest, bTruth, bAnd, bOr, bNot, bYes, eSl, pNo, pAt, eDnew, eDin, eDget, eDget2, tgM_name, tgM_tup, tgMs_nil, tgMs_name, tgMs_tup, List.getElem?_cons_succ, List.getElem?_cons_zero, List.set_cons_succ, List.set_cons_zero, List.map_cons, List.map_nil, List.length_cons, List.length_nil, List.replicate, List.nil_append, List.cons_append, if_true, if_false, Bool.false_eq_true, Bool.true_eq_false, Nat.reduceAdd, Nat.reduceSub, Nat.reduceLeDiff, Nat.zero_add, Bool.not_true, Bool.not_false, ii, addI, subI, negI, int1, eqI, neI, eqS, neS, ix0, ix1, ix2, ix3, decide_eq_true_eq, Bool.not_eq_true', decide_eq_false_iff_not, truB, truN, keyI, keyS, lenT, wipeM, extL a8 k8 (by rw [List.length_map]; simp; omega)]
    generalize e9 : (s7 ++ [O.lst [.int (p : Int), .int (q : Int), .int (u : Int), .int (c : Int)]]).set a (.lst (wi (flat B) ++ [.int (p : Int), .int (q : Int), .int (u : Int), .int (c : Int)])) = s9
    have a9 : s9[a]? = some (.lst (wi (flat B) ++ [.int (p : Int), .int (q : Int), .int (u : Int), .int (c : Int)])) := by rw [← e9]; exact getset a8
    have b9 : s9[a + 1]? = some (.lst (wi (offs B ++ [((flat B).length : Int)]))) := by rw [← e9, getne (by omega)]; exact b8
    have fr9 : Fr [a] (s7 ++ [O.lst [.int (p : Int), .int (q : Int), .int (u : Int), .int (c : Int)]]) s9 := by rw [← e9]; exact Fr.set (by simp)
    have T9 := T8.fr fr9 (by simp; omega) (by simp; omega)
    repeat first | with_reducible refine Eq.mpr wps_cons ?_ | with_reducible refine Eq.mpr wps_pass ?_ | with_reducible refine Eq.mpr wps_nil ?_ | with_reducible refine Eq.mpr wps_set ?_ | with_reducible refine Eq.mpr wps_do ?_ | with_reducible refine Eq.mpr wps_ret ?_ | with_reducible refine Eq.mpr wps_retN ?_ | with_reducible refine Eq.mpr wps_brk ?_ | with_reducible refine Eq.mpr wps_cnt ?_ | with_reducible refine Eq.mpr wps_if ?_ | with_reducible refine Eq.mpr wps_asg ?_ | with_reducible refine Eq.mpr wps_put ?_ | with_reducible refine Eq.mpr wps_dput ?_ | with_reducible refine Eq.mpr wps_aug ?_ | with_reducible refine Eq.mpr wps_par ?_ | with_reducible refine Eq.mpr wps_for ?_ | with_reducible refine Eq.mpr wps_wh ?_ | simp only [wp_bd, wp_lc, ql_nx, ql_ct, ql_bk, ql_rt, iSeq, iEnu, Mir.iRev, chkR, chkT, chkO, lstO, wp_some, wp_ite, wp_none, bd_some, eVar, eC, eOp, eUn, eFn, eMt, aNil, aCons, eTup, eLst, eAnd, eOr, eNot, eIf, eIsi, eChain, bTest, bTruth, bAnd, bOr, bNot, bYes, eSl, pNo, pAt, eDnew, eDin, eDget, eDget2, tgM_name, tgM_tup, tgMs_nil, tgMs_name, tgMs_tup, List.getElem?_cons_succ, List.getElem?_cons_zero, List.set_cons_succ, List.set_cons_zero, List.map_cons, List.map_nil, List.length_cons, List.length_nil, List.replicate, List.nil_append, List.cons_append, if_true, if_false, Bool.false_eq_true, Bool.true_eq_false, Nat.reduceAdd, Nat.reduceSub, Nat.reduceLeDiff, Nat.zero_add, Bool.not_true, Bool.not_false, ii, addI, subI, negI, int1, eqI, neI, eqS, neS, ix0, ix1, ix2, ix3, decide_eq_true_eq, Bool.not_eq_true', decide_eq_false_iff_not, truB, truN, keyI, keyS, lenT, wipeM, isLR a9]
    refine wp_rng1 ?_
    repeat first | with_reducible refine Eq.mpr wps_cons ?_ | with_reducible refine Eq.mpr wps_pass ?_ | with_reducible refine Eq.mpr wps_nil ?_ | with_reducible refine Eq.mpr wps_set ?_ | with_reducible refine Eq.mpr wps_do ?_ | with_reducible refine Eq.mpr wps_ret ?_ | with_reducible refine Eq.mpr wps_retN ?_ | with_reducible refine Eq.mpr wps_brk ?_ | with_reducible refine Eq.mpr wps_cnt ?_ | with_reducible refine Eq.mpr wps_if ?_ | with_reducible refine Eq.mpr wps_asg ?_ | with_reducible refine Eq.mpr wps_put ?_ | with_reducible refine Eq.mpr wps_dput ?_ | with_reducible refine Eq.mpr wps_aug ?_ | with_reducible refine Eq.mpr wps_par ?_ | with_reducible refine Eq.mpr wps_for ?_ | with_reducible refine Eq.mpr wps_wh ?_ | simp only [wp_bd, wp_lc, ql_nx, ql_ct, ql_bk, ql_rt, iSeq, iEnu, Mir.iRev, chkR, chkT, chkO, lstO, wp_some, wp_ite, wp_none, bd_some, eVar, eC, eOp, eUn, eFn, eMt, aNil, aCons, eTup, eLst, eAnd, eOr, eNot, eIf, eIsi, eChain, bTest, bTruth, bAnd, bOr, bNot, bYes, eSl, pNo, pAt, eDnew, eDin, eDget, eDget2, tgM_name, tgM_tup, tgMs_nil, tgMs_name, tgMs_tup, List.getElem?_cons_succ, List.getElem?_cons_zero, List.set_cons_succ, List.set_cons_zero, List.map_cons, List.map_nil, List.length_cons, List.length_nil, List.replicate, List.nil_append, List.cons_append, if_true, if_false, Bool.false_eq_true, Bool.true_eq_false, Nat.reduceAdd, Nat.reduceSub, Nat.reduceLeDiff, Nat.zero_add, Bool.not_true, Bool.not_false, ii, addI, subI, negI, int1, eqI, neI, eqS, neS, ix0, ix1, ix2, ix3, decide_eq_true_eq, Bool.not_eq_true', decide_eq_false_iff_not, truB, truN, keyI, keyS, lenT, wipeM]
    refine ⟨c, rfl, by omega, by simp; omega, ?_⟩
    refine zeros_lc ?_
    have a10 := gapp (t := [O.lst (wi (List.replicate c 0))]) a9
    have k10 : (s9 ++ [O.lst (wi (List.replicate c 0))])[s9.length]? = some (.lst (wi (List.replicate c 0))) := gnew
    have b10 := gapp (t := [O.lst (wi (List.replicate c 0))]) b9
    have T10 := T9.app [O.lst (wi (List.replicate c 0))]
    repeat first | with_reducible refine Eq.mpr wps_cons ?_ | with_reducible refine Eq.mpr wps_pass ?_ | with_reducible refine Eq.mpr wps_nil ?_ | with_reducible refine Eq.mpr wps_set ?_ | with_reducible refine Eq.mpr wps_do ?_ | with_reducible refine Eq.mpr wps_ret ?_ | with_reducible refine Eq.mpr wps_retN ?_ | with_reducible refine Eq.mpr wps_brk ?_ | with_reducible refine Eq.mpr wps_cnt ?_ | with_reducible refine Eq.mpr wps_if ?_ | with_reducible refine Eq.mpr wps_asg ?_ | with_reducible refine Eq.mpr wps_put ?_ | with_reducible refine Eq.mpr wps_dput ?_ | with_reducible refine Eq.mpr wps_aug ?_ | with_reducible refine Eq.mpr wps_par ?_ | with_reducible refine Eq.mpr wps_for ?_ | with_reducible refine Eq.mpr wps_wh ?_ | simp only [wp_bd, wp_lc, ql_nx, ql_ct, ql_bk, ql_rt, iSeq, iEnu, Mir.iRev, chkR, chkT, chkO, lstO, wp_some, wp_ite, wp_none, bd_some, eVar, eC, eOp, eUn, eFn, eMt, aNil, aCons, eTup, eLst, eAnd, eOr, eNot, eIf, eIsi, eChain, bTest, bTruth, bAnd, bOr, bNot, bYes, eSl, pNo, pAt, eDnew, eDin, eDget, eDget2, tgM_name, tgM_tup, tgMs_nil, tgMs_name, tgMs_tup, List.getElem?_cons_succ, List.getElem?_cons_zero, List.set_cons_succ, List.set_cons_zero, List.map_cons, List.map_nil, List.length_cons, List.length_nil, List.replicate, List.nil_append, List.cons_append, if_true, if_false, Bool.false_eq_true, Bool.true_eq_false, Nat.reduceAdd, Nat.reduceSub, Nat.reduceLeDiff, Nat.zero_add, Bool.not_true, Bool.not_false, ii, addI, subI, negI, int1, eqI, neI, eqS, neS, ix0, ix1, ix2, ix3, decide_eq_true_eq, Bool.not_eq_true', decide_eq_false_iff_not, truB, truN, keyI, keyS, lenT, wipeM, extL a10 k10 (by simp; omega)]
    have ef : wi (flat B) ++ [.int (p : Int), .int (q : Int), .int (u : Int), .int (c : Int)] ++ wi (List.replicate c 0) = wi (flat (B ++ [⟨p, q, u, List.replicate c 0⟩])) := by
      rw [flat_app]
      simp [flat, Bk.fl, Bk.hd]
    rw [ef]
    refine ⟨B ++ [⟨p, q, u, List.replicate c 0⟩], some y, some (.int (c : Int)), x5, x6, rfl, by simp [hk], fun x hx => ?_, fun x hx w hw => ?_, getset a10, ?_, T10.fr (L := [a]) (Fr.set (by simp)) (by simp; omega) (by simp; omega), ?_⟩
    · rcases List.mem_append.mp hx with hx | hx
      · exact hB x hx
      · rw [List.mem_singleton.mp hx]; simp; omega
    · rcases List.mem_append.mp hx with hx | hx
      · intro z
        obtain ⟨i, h1, h2⟩ := wf x hx w hw z
        refine ⟨i, by simp; omega, ?_⟩
        rw [h2]
        unfold off
        rw [List.map_append, List.take_append_of_le_length (by simp; omega)]
      · rw [List.mem_singleton.mp hx] at hw
        have : w = 0 := List.eq_of_mem_replicate hw
        intro z; omega
    · rw [getne (by omega), offs_app]; exact b10
    · exact f2.trans ((fr3.mono (by simp)).trans ((f37.mono (by simp)).trans (Fr.app.trans ((fr9.mono (by simp)).trans (Fr.app.trans (Fr.set (by simp)))))))
  · rintro ρ s2 ⟨B, x3, x4, x5, x6, rfl, hk, hB, wf, a2, b2, T2, f2⟩
    refine ⟨trivial, ?_⟩
    have hB8 : B.length ≤ 8 := by simp at hk; omega
    repeat first | with_reducible refine Eq.mpr wps_cons ?_ | with_reducible refine Eq.mpr wps_pass ?_ | with_reducible refine Eq.mpr wps_nil ?_ | with_reducible refine Eq.mpr wps_set ?_ | with_reducible refine Eq.mpr wps_do ?_ | with_reducible refine Eq.mpr wps_ret ?_ | with_reducible refine Eq.mpr wps_retN ?_ | with_reducible refine Eq.mpr wps_brk ?_ | with_reducible refine Eq.mpr wps_cnt ?_ | with_reducible refine Eq.mpr wps_if ?_ | with_reducible refine Eq.mpr wps_asg ?_ | with_reducible refine Eq.mpr wps_put ?_ | with_reducible refine Eq.mpr wps_dput ?_ | with_reducible refine Eq.mpr wps_aug ?_ | with_reducible refine Eq.mpr wps_par ?_ | with_reducible refine Eq.mpr wps_for ?_ | with_reducible refine Eq.mpr wps_wh ?_ | simp only [wp_bd, wp_lc, ql_nx, ql_ct, ql_bk, ql_rt, iSeq, iEnu, Mir.iRev, chkR, chkT, chkO, lstO, wp_some, wp_ite, wp_none, bd_some, eVar, eC, eOp, eUn, eFn, eMt, aNil, aCons, eTup, eLst, eAnd, eOr, eNot, eIf, eIsi, eChain, bTest, bTruth, bAnd, bOr, bNot, bYes, eSl, pNo, pAt, eDnew, eDin, eDget, eDget2, tgM_name, tgM_tup, tgMs_nil, tgMs_name, tgMs_tup, List.getElem?_cons_succ, List.getElem?_cons_zero, List.set_cons_succ, List.set_cons_zero, List.map_cons, List.map_nil, List.length_cons, List.length_nil, List.replicate, List.nil_append, List.cons_append, if_true, if_false, Bool.false_eq_true, Bool.true_eq_false, Nat.reduceAdd, Nat.reduceSub, Nat.reduceLeDiff, Nat.zero_add, Bool.not_true, Bool.not_false, ii, addI, subI, negI, int1, eqI, neI, eqS, neS, ix0, ix1, ix2, ix3, decide_eq_true_eq, Bool.not_eq_true', decide_eq_false_iff_not, truB, truN, keyI, keyS, lenT, wipeM, lstR b2]
    refine wp_fo (fun k ρ s' => ∃ B' x3 x4 x5 x6, ρ = [some (.ref r), some (.ref a), some (.ref (a + 1)), x3, x4, x5, x6] ∧ B'.map Bk.sz = B.map Bk.sz ∧ Wf B' ∧ s'[a]? = some (.lst (wi (flat B'))) ∧ s'[a + 1]? = some (.lst (wi (offs B))) ∧ Tape s' r rc cs ∧ Fr [a, a + 1, r] s0 s') _ 0 _ _ ?_ ?_ ?_
    · exact ⟨B, x3, x4, x5, x6, rfl, rfl, wf, a2, b2, T2, f2⟩
    · rintro i y ρ s3 hy ⟨B1, x3, x4, x5, x6, rfl, hs, wf, a3, b3, T3, f3⟩
      rw [List.getElem?_map] at hy
      have hi : i < B.length := by
        by_cases q : i < B.length
        · exact q
        · rw [List.getElem?_eq_none (by rw [offs_len]; omega)] at hy; cases hy
      rw [offs_get hi] at hy
      obtain rfl := (Option.some.inj hy).symm
      refine ⟨b3, _, rfl, ?_⟩
      have hl1 : B1.length = B.length := by have := congrArg List.length hs; simpa using this
      obtain ⟨x, hx⟩ : ∃ x, B1[i]? = some x := ⟨_, List.getElem?_eq_getElem (by omega)⟩
      have hxl : x.fs.length ≤ 3 := by
        have h1 : (B1.map Bk.sz)[i]? = some x.sz := by rw [List.getElem?_map, hx]; rfl
        rw [hs, List.getElem?_map, List.getElem?_eq_getElem hi] at h1
        have h2 := hB _ (List.getElem_mem hi)
        have h3 := Option.some.inj h1
        unfold Bk.sz at h3
        omega
      repeat first | with_reducible refine Eq.mpr wps_cons ?_ | with_reducible refine Eq.mpr wps_pass ?_ | with_reducible refine Eq.mpr wps_nil ?_ | with_reducible refine Eq.mpr wps_set ?_ | with_reducible refine Eq.mpr wps_do ?_ | with_reducible refine Eq.mpr wps_ret ?_ | with_reducible refine Eq.mpr wps_retN ?_ | with_reducible refine Eq.mpr wps_brk ?_ | with_reducible refine Eq.mpr wps_cnt ?_ | with_reducible refine Eq.mpr wps_if ?_ | with_reducible refine Eq.mpr wps_asg ?_ | with_reducible refine Eq.mpr wps_put ?_ | with_reducible refine Eq.mpr wps_dput ?_ | with_reducible refine Eq.mpr wps_aug ?_ | with_reducible refine Eq.mpr wps_par ?_ | with_reducible refine Eq.mpr wps_for ?_ | with_reducible refine Eq.mpr wps_wh ?_ | simp only [wp_bd, wp_lc, ql_nx, ql_ct, ql_bk, ql_rt, iSeq, iEnu, Mir.iRev, chkR, chkT, chkO, lstO, wp_some, wp_ite, wp_none, bd_some, eVar, eC, eOp, eUn, eFn, eMt, aNil, aCons, eTup, eLst, eAnd, eOr, eNot, eIf, eIsi, eChain, bTest, bTruth, bAnd, bOr, bNot, bYes, eSl, pNo, pAt, eDnew, eDin, eDget, eDget2, tgM_name, tgM_tup, tgMs_nil, tgMs_name, tgMs_tup, List.getElem?_cons_succ, List.getElem?_cons_zero, List.set_cons_succ, List.set_cons_zero, List.map_cons, List.map_nil, List.length_cons, List.length_nil, List.replicate, List.nil_append, List.cons_append, if_true, if_false, Bool.false_eq_true, Bool.true_eq_false, Nat.reduceAdd, Nat.reduceSub, Nat.reduceLeDiff, Nat.zero_add, Bool.not_true, Bool.not_false, ii, addI, subI, negI, int1, eqI, neI, eqS, neS, ix0, ix1, ix2, ix3, decide_eq_true_eq, Bool.not_eq_true', decide_eq_false_iff_not, truB, truN, keyI, keyS, lenT, wipeM]
      refine wp_rng1 ?_
      have e3 : (off B i : Int) + 3 = ((off B1 i + 3 : Nat) : Int) := by rw [off_eq hs]; omega
      repeat first | with_reducible refine Eq.mpr wps_cons ?_ | with_reducible refine Eq.mpr wps_pass ?_ | with_reducible refine Eq.mpr wps_nil ?_ | with_reducible refine Eq.mpr wps_set ?_ | with_reducible refine Eq.mpr wps_do ?_ | with_reducible refine Eq.mpr wps_ret ?_ | with_reducible refine Eq.mpr wps_retN ?_ | with_reducible refine Eq.mpr wps_brk ?_ | with_reducible refine Eq.mpr wps_cnt ?_ | with_reducible refine Eq.mpr wps_if ?_ | with_reducible refine Eq.mpr wps_asg ?_ | with_reducible refine Eq.mpr wps_put ?_ | with_reducible refine Eq.mpr wps_dput ?_ | with_reducible refine Eq.mpr wps_aug ?_ | with_reducible refine Eq.mpr wps_par ?_ | with_reducible refine Eq.mpr wps_for ?_ | with_reducible refine Eq.mpr wps_wh ?_ | simp only [wp_bd, wp_lc, ql_nx, ql_ct, ql_bk, ql_rt, iSeq, iEnu, Mir.iRev, chkR, chkT, chkO, lstO, wp_some, wp_ite, wp_none, bd_some, eVar, eC, eOp, eUn, eFn, eMt, aNil, aCons, eTup, eLst, eAnd, eOr, eNot, eIf, eIsi, eChain, bTest, bTruth, bAnd, bOr, bNot, bYes, eSl, pNo, pAt, eDnew, eDin, eDget, eDget2, tgM_name, tgM_tup, tgMs_nil, tgMs_name, tgMs_tup, List.getElem?_cons_succ, List.getElem?_cons_zero, List.set_cons_succ, List.set_cons_zero, List.map_cons, List.map_nil, List.length_cons, List.length_nil, List.replicate, List.nil_append, List.cons_append, if_true, if_false, Bool.false_eq_true, Bool.true_eq_false, Nat.reduceAdd, Nat.reduceSub, Nat.reduceLeDiff, Nat.zero_add, Bool.not_true, Bool.not_false, ii, addI, subI, negI, int1, eqI, neI, eqS, neS, ix0, ix1, ix2, ix3, decide_eq_true_eq, Bool.not_eq_true', decide_eq_false_iff_not, truB, truN, keyI, keyS, lenT, wipeM, e3, ixI a3 (cnt_at hx)]
      refine ⟨x.fs.length, rfl, by omega, ?_⟩
      generalize hL : x.fs.length = L at *
      refine wp_fo (fun q ρ s' => ∃ B' x x3 x4 x5, ρ = [some (.ref r), some (.ref a), some (.ref (a + 1)), x3, x4, x5, some (.int (off B i : Int))] ∧ B'[i]? = some x ∧ x.fs.length = L ∧ B'.map Bk.sz = B.map Bk.sz ∧ Wf B' ∧ s'[a]? = some (.lst (wi (flat B'))) ∧ s'[a + 1]? = some (.lst (wi (offs B))) ∧ Tape s' r rc cs ∧ Fr [a, a + 1, r] s0 s') _ 0 _ _ ?_ ?_ ?_
      · exact ⟨B1, x, x3, x4, x5, rfl, hx, hL, hs, wf, a3, b3, T3, f3⟩
      · rintro q y ρ s4 hy ⟨B2, x, x3, x4, x5, rfl, hx, hL, hs, wf, a4, b4, T4, f4⟩
        refine ⟨trivial, _, rfl, ?_⟩
        obtain ⟨hq, rfl⟩ : q < L ∧ y = .int (q : Int) := by
          have h1 := (List.getElem?_eq_some_iff.mp hy).1
          simp at h1
          rw [List.getElem?_map, List.getElem?_range h1] at hy
          exact ⟨h1, (Option.some.inj hy).symm⟩
        repeat first | with_reducible refine Eq.mpr wps_cons ?_ | with_reducible refine Eq.mpr wps_pass ?_ | with_reducible refine Eq.mpr wps_nil ?_ | with_reducible refine Eq.mpr wps_set ?_ | with_reducible refine Eq.mpr wps_do ?_ | with_reducible refine Eq.mpr wps_ret ?_ | with_reducible refine Eq.mpr wps_retN ?_ | with_reducible refine Eq.mpr wps_brk ?_ | with_reducible refine Eq.mpr wps_cnt ?_ | with_reducible refine Eq.mpr wps_if ?_ | with_reducible refine Eq.mpr wps_asg ?_ | with_reducible refine Eq.mpr wps_put ?_ | with_reducible refine Eq.mpr wps_dput ?_ | with_reducible refine Eq.mpr wps_aug ?_ | with_reducible refine Eq.mpr wps_par ?_ | with_reducible refine Eq.mpr wps_for ?_ | with_reducible refine Eq.mpr wps_wh ?_ | simp only [wp_bd, wp_lc, ql_nx, ql_ct, ql_bk, ql_rt, iSeq, iEnu, Mir.iRev, chkR, chkT, chkO, lstO, wp_some, wp_ite, wp_none, bd_some, eVar, eC, eOp, eUn, eFn, eMt, aNil, aCons, eTup, eLst, eAnd, eOr, eNot, eIf, eIsi, eChain, bTest, bTruth, bAnd, bOr, bNot, bYes, eSl, pNo, pAt, eDnew, eDin, eDget, eDget2, tgM_name, tgM_tup, tgMs_nil, tgMs_name, tgMs_tup, List.getElem?_cons_succ, List.getElem?_cons_zero, List.set_cons_succ, List.set_cons_zero, List.map_cons, List.map_nil, List.length_cons, List.length_nil, List.replicate, List.nil_append, List.cons_append, if_true, if_false, Bool.false_eq_true, Bool.true_eq_false, Nat.reduceAdd, Nat.reduceSub, Nat.reduceLeDiff, Nat.zero_add, Bool.not_true, Bool.not_false, ii, addI, subI, negI, int1, eqI, neI, eqS, neS, ix0, ix1, ix2, ix3, decide_eq_true_eq, Bool.not_eq_true', decide_eq_false_iff_not, truB, truN, keyI, keyS, lenT, wipeM]
        have b4' : s4[a + 1]? = some (.lst (wi (offs B2))) := by rw [offs_eq hs]; exact b4
        have hl2 : B2.length = B.length := by have := congrArg List.length hs; simpa using this
        refine word_ok T4 b4' (by omega) (by omega) fun w s5 gw T5 f5 l5 => ?_
        have a5 := f5.at_ _ _ (by simp; omega) a4
        have b5 := f5.at_ _ _ (by simp; omega) b4
        have e5 : (off B i : Int) + 4 + (q : Int) = ((off B2 i + 4 + q : Nat) : Int) := by rw [off_eq hs]; omega
        have pl : off B2 i + 4 + q < (wi (flat B2)).length := by
          rw [List.length_map]
          have := off_end hx
          unfold Bk.sz at this
          omega
        repeat first | with_reducible refine Eq.mpr wps_cons ?_ | with_reducible refine Eq.mpr wps_pass ?_ | with_reducible refine Eq.mpr wps_nil ?_ | with_reducible refine Eq.mpr wps_set ?_ | with_reducible refine Eq.mpr wps_do ?_ | with_reducible refine Eq.mpr wps_ret ?_ | with_reducible refine Eq.mpr wps_retN ?_ | with_reducible refine Eq.mpr wps_brk ?_ | with_reducible refine Eq.mpr wps_cnt ?_ | with_reducible refine Eq.mpr wps_if ?_ | with_reducible refine Eq.mpr wps_asg ?_ | with_reducible refine Eq.mpr wps_put ?_ | with_reducible refine Eq.mpr wps_dput ?_ | with_reducible refine Eq.mpr wps_aug ?_ | with_reducible refine Eq.mpr wps_par ?_ | with_reducible refine Eq.mpr wps_for ?_ | with_reducible refine Eq.mpr wps_wh ?_ | simp only [wp_bd, wp_lc, ql_nx, ql_ct, ql_bk, ql_rt, iSeq, iEnu, Mir.iRev, chkR, chkT, chkO, lstO, wp_some, wp_ite, wp_none, bd_some, eVar, eC, eOp, eUn, eFn, eMt, aNil, aCons, eTup, eLst, eAnd, eOr, eNot, eIf, eIsi, eChain, bTest, bTruth, bAnd, bOr, bNot, bYes, eSl, pNo, pAt, eDnew, eDin, eDget, eDget2, tgM_name, tgM_tup, tgMs_nil, tgMs_name, tgMs_tup, List.getElem?_cons_succ, List.getElem?_cons_zero, List.set_cons_succ, List.set_cons_zero, List.map_cons, List.map_nil, List.length_cons, List.length_nil, List.replicate, List.nil_append, List.cons_append, if_true, if_false, Bool.false_eq_true, Bool.true_eq_false, Nat.reduceAdd, Nat.reduceSub, Nat.reduceLeDiff, Nat.zero_add, Bool.not_true, Bool.not_false, ii, addI, subI, negI, int1, eqI, neI, eqS, neS, ix0, ix1, ix2, ix3, decide_eq_true_eq, Bool.not_eq_true', decide_eq_false_iff_not, truB, truN, keyI, keyS, lenT, wipeM, e5, putL a5 pl]
        have e6 : (wi (flat B2)).set (off B2 i + 4 + q) (.int w) = wi (flat (B2.set i { x with fs := x.fs.set q w })) := by
          rw [← flat_put w hx (by omega)]
          exact List.map_set.symm
        rw [e6]
        have ps := put_szs w hx (k := q)
        refine ⟨_, { x with fs := x.fs.set q w }, x3, x4, _, rfl, List.getElem?_set_self (List.getElem?_eq_some_iff.mp hx).1, by simp [hL], by rw [ps]; exact hs, fun y hy v hv => ?_, getset a5, by rw [getne (by omega)]; exact b5, T5.fr (L := [a]) (Fr.set (by simp)) (by simp; omega) (by simp; omega), f4.trans ((f5.mono (by simp)).trans (Fr.set (by simp)))⟩
        refine Gw.eq ps.symm ?_
        rcases List.mem_or_eq_of_mem_set hy with hy | rfl
        · exact wf y hy v hv
        · rcases List.mem_or_eq_of_mem_set hv with hv | rfl
          · exact wf x (List.mem_of_getElem? hx) v hv
          · exact gw
      · rintro ρ s4 ⟨B2, x, x3, x4, x5, rfl, hx, hL, hs, wf, a4, b4, T4, f4⟩
        refine ⟨trivial, ?_⟩
        repeat first | with_reducible refine Eq.mpr wps_cons ?_ | with_reducible refine Eq.mpr wps_pass ?_ | with_reducible refine Eq.mpr wps_nil ?_ | with_reducible refine Eq.mpr wps_set ?_ | with_reducible refine Eq.mpr wps_do ?_ | with_reducible refine Eq.mpr wps_ret ?_ | with_reducible refine Eq.mpr wps_retN ?_ | with_reducible refine Eq.mpr wps_brk ?_ | with_reducible refine Eq.mpr wps_cnt ?_ | with_reducible refine Eq.mpr wps_if ?_ | with_reducible refine Eq.mpr wps_asg ?_ | with_reducible refine Eq.mpr wps_put ?_ | with_reducible refine Eq.mpr wps_dput ?_ | with_reducible refine Eq.mpr wps_aug ?_ | with_reducible refine Eq.mpr wps_par ?_ | with_reducible refine Eq.mpr wps_for ?_ | with_reducible refine Eq.mpr wps_wh ?_ | simp only [wp_bd, wp_lc, ql_nx, ql_ct, ql_bk, ql_rt, iSeq, iEnu, Mir.iRev, chkR, chkT, chkO, lstO, wp_some, wp_ite, wp_none, bd_some, eVar, eC, eOp, eUn, eFn, eMt, aNil, aCons, eTup, eLst, eAnd, eOr, eNot, eIf, eIsi, eChain, bTest, bTruth, bAnd, bOr, bNot, bYes, eSl, pNo, pAt, eDnew, eDin, eDget, eDget2, tgM_name, tgM_tup, tgMs_nil, tgMs_name, tgMs_tup, List.getElem?_cons_succ, List.getElem?_cons_zero, List.set_cons_succ, List.set_cons_zero, List.map_cons, List.map_nil, List.length_cons, List.length_nil, List.replicate, List.nil_append, List.cons_append, if_true, if_false, Bool.false_eq_true, Bool.true_eq_false, Nat.reduceAdd, Nat.reduceSub, Nat.reduceLeDiff, Nat.zero_add, Bool.not_true, Bool.not_false, ii, addI, subI, negI, int1, eqI, neI, eqS, neS, ix0, ix1, ix2, ix3, decide_eq_true_eq, Bool.not_eq_true', decide_eq_false_iff_not, truB, truN, keyI, keyS, lenT, wipeM]
        exact ⟨B2, _, _, _, _, rfl, hs, wf, a4, b4, T4, f4⟩
    · rintro ρ s3 ⟨B1, x3, x4, x5, x6, rfl, hs, wf, a3, b3, T3, f3⟩
      refine ⟨b3, ?_⟩
      repeat first | with_reducible refine Eq.mpr wps_cons ?_ | with_reducible refine Eq.mpr wps_pass ?_ | with_reducible refine Eq.mpr wps_nil ?_ | with_reducible refine Eq.mpr wps_set ?_ | with_reducible refine Eq.mpr wps_do ?_ | with_reducible refine Eq.mpr wps_ret ?_ | with_reducible refine Eq.mpr wps_retN ?_ | with_reducible refine Eq.mpr wps_brk ?_ | with_reducible refine Eq.mpr wps_cnt ?_ | with_reducible refine Eq.mpr wps_if ?_ | with_reducible refine Eq.mpr wps_asg ?_ | with_reducible refine Eq.mpr wps_put ?_ | with_reducible refine Eq.mpr wps_dput ?_ | with_reducible refine Eq.mpr wps_aug ?_ | with_reducible refine Eq.mpr wps_par ?_ | with_reducible refine Eq.mpr wps_for ?_ | with_reducible refine Eq.mpr wps_wh ?_ | simp only [wp_bd, wp_lc, ql_nx, ql_ct, ql_bk, ql_rt, iSeq, iEnu, Mir.iRev, chkR, chkT, chkO, lstO, wp_some, wp_ite, wp_none, bd_some, eVar, eC, eOp, eUn, eFn, eMt, aNil, aCons, eTup, eLst, eAnd, eOr, eNot, eIf, eIsi, eChain, bTest, bTruth, bAnd, bOr, bNot, bYes, eSl, pNo, pAt, eDnew, eDin, eDget, eDget2, tgM_name, tgM_tup, tgMs_nil, tgMs_name, tgMs_tup, List.getElem?_cons_succ, List.getElem?_cons_zero, List.set_cons_succ, List.set_cons_zero, List.map_cons, List.map_nil, List.length_cons, List.length_nil, List.replicate, List.nil_append, List.cons_append, if_true, if_false, Bool.false_eq_true, Bool.true_eq_false, Nat.reduceAdd, Nat.reduceSub, Nat.reduceLeDiff, Nat.zero_add, Bool.not_true, Bool.not_false, ii, addI, subI, negI, int1, eqI, neI, eqS, neS, ix0, ix1, ix2, ix3, decide_eq_true_eq, Bool.not_eq_true', decide_eq_false_iff_not, truB, truN, keyI, keyS, lenT, wipeM]
      have hl1 : B1.length = B.length := by have := congrArg List.length hs; simpa using this
      refine h B1 a (a + 1) s3 ⟨by omega, fun x hx => ?_⟩ wf a3 (by rw [offs_eq hs]; exact b3) (Nat.le_refl _) (by omega) (by omega) T3 ?_
      · obtain ⟨i, hi⟩ := List.mem_iff_getElem?.mp hx
        have h1 : (B1.map Bk.sz)[i]? = some x.sz := by rw [List.getElem?_map, hi]; rfl
        rw [hs] at h1
        obtain ⟨y, hy, e⟩ := List.mem_map.mp (List.mem_of_getElem? h1)
        have := hB y hy
        unfold Bk.sz at e
        omega
      · exact Fr.new (L' := [a, a + 1]) f0 (by simpa using f3) (fun i hi => by simp at hi; omega)
end Cg

set_option Elab.async false
set_option linter.all false
set_option maxRecDepth 100000
namespace Cg
open PySem PySem.Spec PyProof.Rows L2 Mir
/-! ### the words that are alive -/
def pw (B : List Bk) (i : Nat) : Int := 4 * (off B i : Int) + 1
theorem pw_inj {B : List Bk} {i j : Nat} (hi : i < B.length) (hj : j < B.length) (h : pw B i = pw B j) : i = j := by
  unfold pw at h
  exact off_inj hi hj (by omega)
theorem fs_len {B : List Bk} (sm : Sm B) {i : Nat} {x : Bk} (h : B[i]? = some x) : x.fs.length ≤ 96 := by
  have := sm.sz x (List.mem_of_getElem? h)
  unfold Bk.sz at this
  omega
theorem fs_cut {B : List Bk} {i : Nat} {x : Bk} (h : B[i]? = some x) : ((wi (flat B)).drop (off B i + 4)).take (off B i + 4 + x.fs.length - (off B i + 4)) = wi x.fs := by
  rw [Nat.add_sub_cancel_left, ← List.map_drop, ← List.map_take]
  congr 1
  have h1 := flat_cut h
  have h2 : (flat B).drop (off B i + 4) = ((flat B).drop (off B i)).drop 4 := by rw [List.drop_drop]
  have h3 : ((flat B).drop (off B i + 4)).take x.fs.length = (((flat B).drop (off B i)).take x.sz).drop 4 := by
    rw [h2, List.drop_take]
    congr 1
    unfold Bk.sz
    omega
  rw [h3, h1]
  rfl
theorem live_ok {B : List Bk} {rt : List Int} {n rr : Nat} {s : Sto} {R : W → Sto → Prop} (hn : s[n]? = some (.lst (wi (flat B)))) (hr : s[rr]? = some (.lst (wi rt))) (sm : Sm B) (wf : Wf B) (gr : ∀ w ∈ rt, Gw B w) (hl : rt.length ≤ 1000)
    (h : ∀ (S : List Nat) (q : Nat) (s' : Sto), S.Nodup → (∀ i, i ∈ S ↔ Rch B rt i) → s'[q]? = some (.lst (wi (S.map (pw B)))) → s.length ≤ q → Fr [] s s' → R (.ref q) s') : Wp (FLawLive [.ref n, .ref rr] s) R := by
  unfold FLawLive
  rw [wp_mkF (by rfl)]
  unfold BLawLive
  have ln := gltn hn
  have lr := gltn hr
  have hcn : (s ++ [O.lst []]).length = s.length + 1 := by simp
  repeat first | with_reducible refine Eq.mpr wps_cons ?_ | with_reducible refine Eq.mpr wps_pass ?_ | with_reducible refine Eq.mpr wps_nil ?_ | with_reducible refine Eq.mpr wps_set ?_ | with_reducible refine Eq.mpr wps_do ?_ | with_reducible refine Eq.mpr wps_ret ?_ | with_reducible refine Eq.mpr wps_retN ?_ | with_reducible refine Eq.mpr wps_brk ?_ | with_reducible refine Eq.mpr wps_cnt ?_ | with_reducible refine Eq.mpr wps_if ?_ | with_reducible refine Eq.mpr wps_asg ?_ | with_reducible refine Eq.mpr wps_put ?_ | with_reducible refine Eq.mpr wps_dput ?_ | with_reducible refine Eq.mpr wps_aug ?_ | with_reducible refine Eq.mpr wps_par ?_ | with_reducible refine Eq.mpr wps_for ?_ | with_reducible refine Eq.mpr wps_wh ?_ | simp only [wp_bd, wp_lc, ql_nx, ql_ct, ql_bk, ql_rt, iSeq, iEnu, Mir.iRev, chkR, chkT, chkO, lstO, wp_some, wp_ite, wp_none, bd_some, eVar, eC, eOp, eUn, eFn, eMt, aNil, aCons, eTup, eLst, eAnd, eOr, eNot, eIf, eIsi, eChain, bTest, bTruth, bAnd, bOr, bNot, bYes, eSl, pNo, pAt, eDnew, eDin, eDget, eDget2, tgM_name, tgM_tup, tgMs_nil, tgMs_name, tgMs_tup, List.getElem?_cons_succ, List.getElem?_cons_zero, List.set_cons_succ, List.set_cons_zero, List.map_cons, List.map_nil, List.length_cons, List.length_nil, List.replicate, List.nil_append, List.cons_append, if_true, if_false, Bool.false_eq_true, Bool.true_eq_false, Nat.reduceAdd, Nat.reduceSub, Nat.reduceLeDiff, Nat.zero_add, Bool.not_true, Bool.not_false, ii, addI, subI, negI, int1, eqI, neI, eqS, neS, ix0, ix1, ix2, ix3, decide_eq_true_eq, Bool.not_eq_true', decide_eq_false_iff_not, truB, truN, keyI, keyS, lenT, wipeM, listL (gapp (t := [O.lst []]) hr), hcn]
  have n0 : (s ++ [O.lst []] ++ [O.lst (wi rt)])[n]? = some (.lst (wi (flat B))) := gapp (gapp hn)
  have a0 : (s ++ [O.lst []] ++ [O.lst (wi rt)])[s.length]? = some (.lst (wi (([] : List Nat).map (pw B)))) := gapp gnew
  have b0 : (s ++ [O.lst []] ++ [O.lst (wi rt)])[s.length + 1]? = some (.lst (wi rt)) := by rw [← hcn]; exact gnew
  have f0 : Fr [] s (s ++ [O.lst []] ++ [O.lst (wi rt)]) := Fr.app.trans Fr.app
  generalize s ++ [O.lst []] ++ [O.lst (wi rt)] = s0 at n0 a0 b0 f0 ⊢
  generalize ea : s.length = a at *
  refine wp_wh (fun m ρ s' => ∃ (S : List Nat) (T : List Int) (x4 x5 : Option W), ρ = [some (.ref n), some (.ref rr), some (.ref a), some (.ref (a + 1)), x4, x5] ∧ m = (B.length - S.length) * 97 + T.length ∧ S.Nodup ∧ (∀ i ∈ S, Rch B rt i) ∧ (∀ w ∈ T, Gw B w ∧ ∀ i, Ptr B w i → Rch B rt i) ∧ (∀ w ∈ rt, ∀ i, Ptr B w i → i ∈ S ∨ w ∈ T) ∧ (∀ i ∈ S, ∀ x, B[i]? = some x → ∀ w ∈ x.fs, ∀ j, Ptr B w j → j ∈ S ∨ w ∈ T) ∧ s'[a]? = some (.lst (wi (S.map (pw B)))) ∧ s'[a + 1]? = some (.lst (wi T)) ∧ Fr [a, a + 1] s0 s' ∧ T.length ≤ 1000 + S.length * 96) ?_ 100000 (B.length * 97 + rt.length) _ _ (by have := sm.len; omega) ?_
  · rintro m ρ s1 ⟨S, T, x4, x5, rfl, hm, nd, rch, tg, cr, cf, a1, b1, f1, ht⟩
    have n1 := f1.at_ _ _ (by simp; omega) n0
    have hSl : S.length ≤ B.length := nd_len nd fun i hi => (rch i hi).lt
    have hll : (wi T).length = T.length := List.length_map _
    repeat first | with_reducible refine Eq.mpr wps_cons ?_ | with_reducible refine Eq.mpr wps_pass ?_ | with_reducible refine Eq.mpr wps_nil ?_ | with_reducible refine Eq.mpr wps_set ?_ | with_reducible refine Eq.mpr wps_do ?_ | with_reducible refine Eq.mpr wps_ret ?_ | with_reducible refine Eq.mpr wps_retN ?_ | with_reducible refine Eq.mpr wps_brk ?_ | with_reducible refine Eq.mpr wps_cnt ?_ | with_reducible refine Eq.mpr wps_if ?_ | with_reducible refine Eq.mpr wps_asg ?_ | with_reducible refine Eq.mpr wps_put ?_ | with_reducible refine Eq.mpr wps_dput ?_ | with_reducible refine Eq.mpr wps_aug ?_ | with_reducible refine Eq.mpr wps_par ?_ | with_reducible refine Eq.mpr wps_for ?_ | with_reducible refine Eq.mpr wps_wh ?_ | simp only [wp_bd, wp_lc, ql_nx, ql_ct, ql_bk, ql_rt, iSeq, iEnu, Mir.iRev, chkR, chkT, chkO, lstO, wp_some, wp_ite, wp_none, bd_some, eVar, eC, eOp, eUn, eFn, eMt, aNil, aCons, eTup, eLst, eAnd, eOr, eNot, eIf, eIsi, eChain, bTest, bTruth, bAnd, bOr, bNot, bYes, eSl, pNo, pAt, eDnew, eDin, eDget, eDget2, tgM_name, tgM_tup, tgMs_nil, tgMs_name, tgMs_tup, List.getElem?_cons_succ, List.getElem?_cons_zero, List.set_cons_succ, List.set_cons_zero, List.map_cons, List.map_nil, List.length_cons, List.length_nil, List.replicate, List.nil_append, List.cons_append, if_true, if_false, Bool.false_eq_true, Bool.true_eq_false, Nat.reduceAdd, Nat.reduceSub, Nat.reduceLeDiff, Nat.zero_add, Bool.not_true, Bool.not_false, ii, addI, subI, negI, int1, eqI, neI, eqS, neS, ix0, ix1, ix2, ix3, decide_eq_true_eq, Bool.not_eq_true', decide_eq_false_iff_not, truB, truN, keyI, keyS, lenT, wipeM, lenL b1, hll]
    rcases List.eq_nil_or_concat T with rfl | ⟨T', w, rfl⟩
    · rw [if_neg (by simp)]
      repeat first | with_reducible refine Eq.mpr wps_cons ?_ | with_reducible refine Eq.mpr wps_pass ?_ | with_reducible refine Eq.mpr wps_nil ?_ | with_reducible refine Eq.mpr wps_set ?_ | with_reducible refine Eq.mpr wps_do ?_ | with_reducible refine Eq.mpr wps_ret ?_ | with_reducible refine Eq.mpr wps_retN ?_ | with_reducible refine Eq.mpr wps_brk ?_ | with_reducible refine Eq.mpr wps_cnt ?_ | with_reducible refine Eq.mpr wps_if ?_ | with_reducible refine Eq.mpr wps_asg ?_ | with_reducible refine Eq.mpr wps_put ?_ | with_reducible refine Eq.mpr wps_dput ?_ | with_reducible refine Eq.mpr wps_aug ?_ | with_reducible refine Eq.mpr wps_par ?_ | with_reducible refine Eq.mpr wps_for ?_ | with_reducible refine Eq.mpr wps_wh ?_ | simp only [wp_bd, wp_lc, ql_nx, ql_ct, ql_bk, ql_rt, iSeq, iEnu, Mir.iRev, chkR, chkT, chkO, lstO, wp_some, wp_ite, wp_none, bd_some, eVar, eC, eOp, eUn, eFn, eMt, aNil, aCons, eTup, eLst, eAnd, eOr, eNot, eIf, eIsi, eChain, bTest, bTruth, bAnd, bOr, bNot, bYes, eSl, pNo, pAt, eDnew, eDin, eDget, eDget2, tgM_name, tgM_tup, tgMs_nil, tgMs_name, tgMs_tup, List.getElem?_cons_succ, List.getElem?_cons_zero, List.set_cons_succ, List.set_cons_zero, List.map_cons, List.map_nil, List.length_cons, List.length_nil, List.replicate, List.nil_append, List.cons_append, if_true, if_false, Bool.false_eq_true, Bool.true_eq_false, Nat.reduceAdd, Nat.reduceSub, Nat.reduceLeDiff, Nat.zero_add, Bool.not_true, Bool.not_false, ii, addI, subI, negI, int1, eqI, neI, eqS, neS, ix0, ix1, ix2, ix3, decide_eq_true_eq, Bool.not_eq_true', decide_eq_false_iff_not, truB, truN, keyI, keyS, lenT, wipeM]
      refine h S a s1 nd (fun i => ⟨rch i, fun hi => Rch.sub (fun w hw i p => ?_) (fun i hi x hx w hw j p => ?_) hi⟩) a1 (by omega) (Fr.new (L' := [a, a + 1]) f0 (by simpa using f1) (fun i hi => by simp at hi; omega))
      · rcases cr w hw i p with q | q
        · exact q
        · cases q
      · rcases cf i hi x hx w hw j p with q | q
        · exact q
        · cases q
    · rw [List.concat_eq_append] at *
      rw [if_pos (by simp; try omega)]
      have b1' : s1[a + 1]? = some (.lst (wi T' ++ [.int w])) := by rw [b1]; simp
      repeat first | with_reducible refine Eq.mpr wps_cons ?_ | with_reducible refine Eq.mpr wps_pass ?_ | with_reducible refine Eq.mpr wps_nil ?_ | with_reducible refine Eq.mpr wps_set ?_ | with_reducible refine Eq.mpr wps_do ?_ | with_reducible refine Eq.mpr wps_ret ?_ | with_reducible refine Eq.mpr wps_retN ?_ | with_reducible refine Eq.mpr wps_brk ?_ | with_reducible refine Eq.mpr wps_cnt ?_ | with_reducible refine Eq.mpr wps_if ?_ | with_reducible refine Eq.mpr wps_asg ?_ | with_reducible refine Eq.mpr wps_put ?_ | with_reducible refine Eq.mpr wps_dput ?_ | with_reducible refine Eq.mpr wps_aug ?_ | with_reducible refine Eq.mpr wps_par ?_ | with_reducible refine Eq.mpr wps_for ?_ | with_reducible refine Eq.mpr wps_wh ?_ | simp only [wp_bd, wp_lc, ql_nx, ql_ct, ql_bk, ql_rt, iSeq, iEnu, Mir.iRev, chkR, chkT, chkO, lstO, wp_some, wp_ite, wp_none, bd_some, eVar, eC, eOp, eUn, eFn, eMt, aNil, aCons, eTup, eLst, eAnd, eOr, eNot, eIf, eIsi, eChain, bTest, bTruth, bAnd, bOr, bNot, bYes, eSl, pNo, pAt, eDnew, eDin, eDget, eDget2, tgM_name, tgM_tup, tgMs_nil, tgMs_name, tgMs_tup, List.getElem?_cons_succ, List.getElem?_cons_zero, List.set_cons_succ, List.set_cons_zero, List.map_cons, List.map_nil, List.length_cons, List.length_nil, List.replicate, List.nil_append, List.cons_append, if_true, if_false, Bool.false_eq_true, Bool.true_eq_false, Nat.reduceAdd, Nat.reduceSub, Nat.reduceLeDiff, Nat.zero_add, Bool.not_true, Bool.not_false, ii, addI, subI, negI, int1, eqI, neI, eqS, neS, ix0, ix1, ix2, ix3, decide_eq_true_eq, Bool.not_eq_true', decide_eq_false_iff_not, truB, truN, keyI, keyS, lenT, wipeM, isLR b1, popL b1']
      have a2 : (s1.set (a + 1) (.lst (wi T')))[a]? = some (.lst (wi (S.map (pw B)))) := by rw [getne (by omega)]; exact a1
      have b2 : (s1.set (a + 1) (.lst (wi T')))[a + 1]? = some (.lst (wi T')) := getset b1
      have n2 : (s1.set (a + 1) (.lst (wi T')))[n]? = some (.lst (wi (flat B))) := by rw [getne (by omega)]; exact n1
      have f2 : Fr [a, a + 1] s0 (s1.set (a + 1) (.lst (wi T'))) := f1.trans (Fr.set (by simp))
      generalize s1.set (a + 1) (.lst (wi T')) = s2 at a2 b2 n2 f2 ⊢
      obtain ⟨gw, rw'⟩ := tg w (by simp)
      rw [List.length_append, List.length_singleton] at hm ht
      have keep : ∀ v, v ∈ T' ++ [w] → v ∈ T' ∨ v = w := fun v hv => by simpa using hv
      repeat first | with_reducible refine Eq.mpr wps_cons ?_ | with_reducible refine Eq.mpr wps_pass ?_ | with_reducible refine Eq.mpr wps_nil ?_ | with_reducible refine Eq.mpr wps_set ?_ | with_reducible refine Eq.mpr wps_do ?_ | with_reducible refine Eq.mpr wps_ret ?_ | with_reducible refine Eq.mpr wps_retN ?_ | with_reducible refine Eq.mpr wps_brk ?_ | with_reducible refine Eq.mpr wps_cnt ?_ | with_reducible refine Eq.mpr wps_if ?_ | with_reducible refine Eq.mpr wps_asg ?_ | with_reducible refine Eq.mpr wps_put ?_ | with_reducible refine Eq.mpr wps_dput ?_ | with_reducible refine Eq.mpr wps_aug ?_ | with_reducible refine Eq.mpr wps_par ?_ | with_reducible refine Eq.mpr wps_for ?_ | with_reducible refine Eq.mpr wps_wh ?_ | simp only [wp_bd, wp_lc, ql_nx, ql_ct, ql_bk, ql_rt, iSeq, iEnu, Mir.iRev, chkR, chkT, chkO, lstO, wp_some, wp_ite, wp_none, bd_some, eVar, eC, eOp, eUn, eFn, eMt, aNil, aCons, eTup, eLst, eAnd, eOr, eNot, eIf, eIsi, eChain, bTest, bTruth, bAnd, bOr, bNot, bYes, eSl, pNo, pAt, eDnew, eDin, eDget, eDget2, tgM_name, tgM_tup, tgMs_nil, tgMs_name, tgMs_tup, List.getElem?_cons_succ, List.getElem?_cons_zero, List.set_cons_succ, List.set_cons_zero, List.map_cons, List.map_nil, List.length_cons, List.length_nil, List.replicate, List.nil_append, List.cons_append, if_true, if_false, Bool.false_eq_true, Bool.true_eq_false, Nat.reduceAdd, Nat.reduceSub, Nat.reduceLeDiff, Nat.zero_add, Bool.not_true, Bool.not_false, ii, addI, subI, negI, int1, eqI, neI, eqS, neS, ix0, ix1, ix2, ix3, decide_eq_true_eq, Bool.not_eq_true', decide_eq_false_iff_not, truB, truN, keyI, keyS, lenT, wipeM, modR (i := w) (j := 4) (by decide), inInts a2]
      by_cases h4 : w % 4 = 1
      · rw [if_pos h4]
        obtain ⟨i, hp⟩ := gw h4
        by_cases hin : w ∈ S.map (pw B)
        · rw [if_neg (by simpa using hin)]
          repeat first | with_reducible refine Eq.mpr wps_cons ?_ | with_reducible refine Eq.mpr wps_pass ?_ | with_reducible refine Eq.mpr wps_nil ?_ | with_reducible refine Eq.mpr wps_set ?_ | with_reducible refine Eq.mpr wps_do ?_ | with_reducible refine Eq.mpr wps_ret ?_ | with_reducible refine Eq.mpr wps_retN ?_ | with_reducible refine Eq.mpr wps_brk ?_ | with_reducible refine Eq.mpr wps_cnt ?_ | with_reducible refine Eq.mpr wps_if ?_ | with_reducible refine Eq.mpr wps_asg ?_ | with_reducible refine Eq.mpr wps_put ?_ | with_reducible refine Eq.mpr wps_dput ?_ | with_reducible refine Eq.mpr wps_aug ?_ | with_reducible refine Eq.mpr wps_par ?_ | with_reducible refine Eq.mpr wps_for ?_ | with_reducible refine Eq.mpr wps_wh ?_ | simp only [wp_bd, wp_lc, ql_nx, ql_ct, ql_bk, ql_rt, iSeq, iEnu, Mir.iRev, chkR, chkT, chkO, lstO, wp_some, wp_ite, wp_none, bd_some, eVar, eC, eOp, eUn, eFn, eMt, aNil, aCons, eTup, eLst, eAnd, eOr, eNot, eIf, eIsi, eChain, bTest, bTruth, bAnd, bOr, bNot, bYes, eSl, pNo, pAt, eDnew, eDin, eDget, eDget2, tgM_name, tgM_tup, tgMs_nil, tgMs_name, tgMs_tup, List.getElem?_cons_succ, List.getElem?_cons_zero, List.set_cons_succ, List.set_cons_zero, List.map_cons, List.map_nil, List.length_cons, List.length_nil, List.replicate, List.nil_append, List.cons_append, if_true, if_false, Bool.false_eq_true, Bool.true_eq_false, Nat.reduceAdd, Nat.reduceSub, Nat.reduceLeDiff, Nat.zero_add, Bool.not_true, Bool.not_false, ii, addI, subI, negI, int1, eqI, neI, eqS, neS, ix0, ix1, ix2, ix3, decide_eq_true_eq, Bool.not_eq_true', decide_eq_false_iff_not, truB, truN, keyI, keyS, lenT, wipeM]
          obtain ⟨k, hk, ek⟩ := List.mem_map.mp hin
          have hki : k = i := pw_inj (rch k hk).lt hp.1 (by rw [ek]; exact hp.2)
          subst hki
          refine ⟨(B.length - S.length) * 97 + T'.length, by omega, S, T', some (.int w), x5, rfl, rfl, nd, rch, fun v hv => tg v (by simp [hv]), fun v hv j p => ?_, fun j hj x hx v hv j' p => ?_, a2, b2, f2, by omega⟩
          · rcases cr v hv j p with q | q
            · exact .inl q
            · rcases keep v q with q | q
              · exact .inr q
              · subst q; rw [p.uniq hp]; exact .inl hk
          · rcases cf j hj x hx v hv j' p with q | q
            · exact .inl q
            · rcases keep v q with q | q
              · exact .inr q
              · subst q; rw [p.uniq hp]; exact .inl hk
        · rw [if_pos (by simpa using hin)]
          have hiS : i ∉ S := fun q => hin (List.mem_map.mpr ⟨i, q, hp.2.symm⟩)
          have nd' : (S ++ [i]).Nodup := by
            rw [List.nodup_append]
            refine ⟨nd, by simp, fun a ha b hb => ?_⟩
            rw [List.mem_singleton.mp hb]
            rintro rfl
            exact hiS ha
          have rch' : ∀ k ∈ S ++ [i], Rch B rt k := fun k hk => by
            rcases List.mem_append.mp hk with hk | hk
            · exact rch k hk
            · rw [List.mem_singleton.mp hk]; exact rw' i hp
          have hSl' := nd_len nd' fun k hk => (rch' k hk).lt
          rw [List.length_append, List.length_singleton] at hSl'
          repeat first | with_reducible refine Eq.mpr wps_cons ?_ | with_reducible refine Eq.mpr wps_pass ?_ | with_reducible refine Eq.mpr wps_nil ?_ | with_reducible refine Eq.mpr wps_set ?_ | with_reducible refine Eq.mpr wps_do ?_ | with_reducible refine Eq.mpr wps_ret ?_ | with_reducible refine Eq.mpr wps_retN ?_ | with_reducible refine Eq.mpr wps_brk ?_ | with_reducible refine Eq.mpr wps_cnt ?_ | with_reducible refine Eq.mpr wps_if ?_ | with_reducible refine Eq.mpr wps_asg ?_ | with_reducible refine Eq.mpr wps_put ?_ | with_reducible refine Eq.mpr wps_dput ?_ | with_reducible refine Eq.mpr wps_aug ?_ | with_reducible refine Eq.mpr wps_par ?_ | with_reducible refine Eq.mpr wps_for ?_ | with_reducible refine Eq.mpr wps_wh ?_ | simp only [wp_bd, wp_lc, ql_nx, ql_ct, ql_bk, ql_rt, iSeq, iEnu, Mir.iRev, chkR, chkT, chkO, lstO, wp_some, wp_ite, wp_none, bd_some, eVar, eC, eOp, eUn, eFn, eMt, aNil, aCons, eTup, eLst, eAnd, eOr, eNot, eIf, eIsi, eChain, bTest, bTruth, bAnd, bOr, bNot, bYes, eSl, pNo, pAt, eDnew, eDin, eDget, eDget2, tgM_name, tgM_tup, tgMs_nil, tgMs_name, tgMs_tup, List.getElem?_cons_succ, List.getElem?_cons_zero, List.set_cons_succ, List.set_cons_zero, List.map_cons, List.map_nil, List.length_cons, List.length_nil, List.replicate, List.nil_append, List.cons_append, if_true, if_false, Bool.false_eq_true, Bool.true_eq_false, Nat.reduceAdd, Nat.reduceSub, Nat.reduceLeDiff, Nat.zero_add, Bool.not_true, Bool.not_false, ii, addI, subI, negI, int1, eqI, neI, eqS, neS, ix0, ix1, ix2, ix3, decide_eq_true_eq, Bool.not_eq_true', decide_eq_false_iff_not, truB, truN, keyI, keyS, lenT, wipeM, isLR a2, appL a2 (by rw [List.length_map, List.length_map]; have := sm.len; omega)]
          have ew : wi (S.map (pw B)) ++ [.int w] = wi ((S ++ [i]).map (pw B)) := by
            have : w = pw B i := hp.2
            rw [this]; simp
          rw [ew]
          have a3 : (s2.set a (.lst (wi ((S ++ [i]).map (pw B)))))[a]? = some (.lst (wi ((S ++ [i]).map (pw B)))) := getset a2
          have b3 : (s2.set a (.lst (wi ((S ++ [i]).map (pw B)))))[a + 1]? = some (.lst (wi T')) := by rw [getne (by omega)]; exact b2
          have n3 : (s2.set a (.lst (wi ((S ++ [i]).map (pw B)))))[n]? = some (.lst (wi (flat B))) := by rw [getne (by omega)]; exact n2
          have f3 : Fr [a, a + 1] s0 (s2.set a (.lst (wi ((S ++ [i]).map (pw B))))) := f2.trans (Fr.set (by simp))
          generalize s2.set a (.lst (wi ((S ++ [i]).map (pw B)))) = s3 at a3 b3 n3 f3 ⊢
          obtain ⟨x, hx⟩ : ∃ x, B[i]? = some x := ⟨_, List.getElem?_eq_getElem hp.1⟩
          have e4 : (off B i : Int) + 4 = ((off B i + 4 : Nat) : Int) := by omega
          have e3 : (off B i : Int) + 3 = ((off B i + 3 : Nat) : Int) := by omega
          have e5 : ((off B i + 4 : Nat) : Int) + (x.fs.length : Int) = ((off B i + 4 + x.fs.length : Nat) : Int) := by omega
          have fl := fs_len sm hx
          have hT1 : T'.length + x.fs.length ≤ 100000 := by have := sm.len; omega
          repeat first | with_reducible refine Eq.mpr wps_cons ?_ | with_reducible refine Eq.mpr wps_pass ?_ | with_reducible refine Eq.mpr wps_nil ?_ | with_reducible refine Eq.mpr wps_set ?_ | with_reducible refine Eq.mpr wps_do ?_ | with_reducible refine Eq.mpr wps_ret ?_ | with_reducible refine Eq.mpr wps_retN ?_ | with_reducible refine Eq.mpr wps_brk ?_ | with_reducible refine Eq.mpr wps_cnt ?_ | with_reducible refine Eq.mpr wps_if ?_ | with_reducible refine Eq.mpr wps_asg ?_ | with_reducible refine Eq.mpr wps_put ?_ | with_reducible refine Eq.mpr wps_dput ?_ | with_reducible refine Eq.mpr wps_aug ?_ | with_reducible refine Eq.mpr wps_par ?_ | with_reducible refine Eq.mpr wps_for ?_ | with_reducible refine Eq.mpr wps_wh ?_ | simp only [wp_bd, wp_lc, ql_nx, ql_ct, ql_bk, ql_rt, iSeq, iEnu, Mir.iRev, chkR, chkT, chkO, lstO, wp_some, wp_ite, wp_none, bd_some, eVar, eC, eOp, eUn, eFn, eMt, aNil, aCons, eTup, eLst, eAnd, eOr, eNot, eIf, eIsi, eChain, bTest, bTruth, bAnd, bOr, bNot, bYes, eSl, pNo, pAt, eDnew, eDin, eDget, eDget2, tgM_name, tgM_tup, tgMs_nil, tgMs_name, tgMs_tup, List.getElem?_cons_succ, List.getElem?_cons_zero, List.set_cons_succ, List.set_cons_zero, List.map_cons, List.map_nil, List.length_cons, List.length_nil, List.replicate, List.nil_append, List.cons_append, if_true, if_false, Bool.false_eq_true, Bool.true_eq_false, Nat.reduceAdd, Nat.reduceSub, Nat.reduceLeDiff, Nat.zero_add, Bool.not_true, Bool.not_false, ii, addI, subI, negI, int1, eqI, neI, eqS, neS, ix0, ix1, ix2, ix3, decide_eq_true_eq, Bool.not_eq_true', decide_eq_false_iff_not, truB, truN, keyI, keyS, lenT, wipeM, divR (i := w) (j := 4) (by decide) (by decide), hp.div, isLR b3, e4, e3, ixI n3 (cnt_at hx), e5, slL n3, fs_cut hx]
          have b4 := gapp (t := [O.lst (wi x.fs)]) b3
          have k4 : (s3 ++ [O.lst (wi x.fs)])[s3.length]? = some (.lst (wi x.fs)) := gnew
          repeat first | with_reducible refine Eq.mpr wps_cons ?_ | with_reducible refine Eq.mpr wps_pass ?_ | with_reducible refine Eq.mpr wps_nil ?_ | with_reducible refine Eq.mpr wps_set ?_ | with_reducible refine Eq.mpr wps_do ?_ | with_reducible refine Eq.mpr wps_ret ?_ | with_reducible refine Eq.mpr wps_retN ?_ | with_reducible refine Eq.mpr wps_brk ?_ | with_reducible refine Eq.mpr wps_cnt ?_ | with_reducible refine Eq.mpr wps_if ?_ | with_reducible refine Eq.mpr wps_asg ?_ | with_reducible refine Eq.mpr wps_put ?_ | with_reducible refine Eq.mpr wps_dput ?_ | with_reducible refine Eq.mpr wps_aug ?_ | with_reducible refine Eq.mpr wps_par ?_ | with_reducible refine Eq.mpr wps_for ?_ | with_reducible refine Eq.mpr wps_wh ?_ | simp only [wp_bd, wp_lc, ql_nx, ql_ct, ql_bk, ql_rt, iSeq, iEnu, Mir.iRev, chkR, chkT, chkO, lstO, wp_some, wp_ite, wp_none, bd_some, eVar, eC, eOp, eUn, eFn, eMt, aNil, aCons, eTup, eLst, eAnd, eOr, eNot, eIf, eIsi, eChain, bTest, bTruth, bAnd, bOr, bNot, bYes, eSl, pNo, pAt, eDnew, eDin, eDget, eDget2, tgM_name, tgM_tup, tgMs_nil, tgMs_name, tgMs_tup, List.getElem?_cons_succ, List.getElem?_cons_zero, List.set_cons_succ, List.set_cons_zero, List.map_cons, List.map_nil, List.length_cons, List.length_nil, List.replicate, List.nil_append, List.cons_append, if_true, if_false, Bool.false_eq_true, Bool.true_eq_false, Nat.reduceAdd, Nat.reduceSub, Nat.reduceLeDiff, Nat.zero_add, Bool.not_true, Bool.not_false, ii, addI, subI, negI, int1, eqI, neI, eqS, neS, ix0, ix1, ix2, ix3, decide_eq_true_eq, Bool.not_eq_true', decide_eq_false_iff_not, truB, truN, keyI, keyS, lenT, wipeM, extL b4 k4 (by rw [List.length_map, List.length_map]; exact hT1)]
          have et : wi T' ++ wi x.fs = wi (T' ++ x.fs) := List.map_append.symm
          rw [et]
          refine ⟨(B.length - (S ++ [i]).length) * 97 + (T' ++ x.fs).length, by rw [List.length_append, List.length_append, List.length_singleton]; omega, S ++ [i], T' ++ x.fs, _, _, rfl, rfl, nd', rch', fun v hv => ?_, fun v hv j p => ?_, fun j hj y hy v hv j' p => ?_, by rw [getne (by omega)]; exact gapp a3, getset b4, f3.trans (Fr.app.trans (Fr.set (by simp))), by rw [List.length_append, List.length_append, List.length_singleton]; omega⟩
          · rcases List.mem_append.mp hv with hv | hv
            · exact tg v (by simp [hv])
            · exact ⟨wf x (List.mem_of_getElem? hx) v hv, fun j p => .step (rw' i hp) hx hv p⟩
          · rcases cr v hv j p with q | q
            · exact .inl (by simp [q])
            · rcases keep v q with q | q
              · exact .inr (by simp [q])
              · subst q; rw [p.uniq hp]; exact .inl (by simp)
          · rcases List.mem_append.mp hj with hj | hj
            · rcases cf j hj y hy v hv j' p with q | q
              · exact .inl (by simp [q])
              · rcases keep v q with q | q
                · exact .inr (by simp [q])
                · subst q; rw [p.uniq hp]; exact .inl (by simp)
            · rw [List.mem_singleton.mp hj, hx] at hy
              cases hy
              exact .inr (by simp [hv])
      · rw [if_neg h4]
        have np : ∀ i, ¬ Ptr B w i := fun i p => h4 p.mod
        repeat first | with_reducible refine Eq.mpr wps_cons ?_ | with_reducible refine Eq.mpr wps_pass ?_ | with_reducible refine Eq.mpr wps_nil ?_ | with_reducible refine Eq.mpr wps_set ?_ | with_reducible refine Eq.mpr wps_do ?_ | with_reducible refine Eq.mpr wps_ret ?_ | with_reducible refine Eq.mpr wps_retN ?_ | with_reducible refine Eq.mpr wps_brk ?_ | with_reducible refine Eq.mpr wps_cnt ?_ | with_reducible refine Eq.mpr wps_if ?_ | with_reducible refine Eq.mpr wps_asg ?_ | with_reducible refine Eq.mpr wps_put ?_ | with_reducible refine Eq.mpr wps_dput ?_ | with_reducible refine Eq.mpr wps_aug ?_ | with_reducible refine Eq.mpr wps_par ?_ | with_reducible refine Eq.mpr wps_for ?_ | with_reducible refine Eq.mpr wps_wh ?_ | simp only [wp_bd, wp_lc, ql_nx, ql_ct, ql_bk, ql_rt, iSeq, iEnu, Mir.iRev, chkR, chkT, chkO, lstO, wp_some, wp_ite, wp_none, bd_some, eVar, eC, eOp, eUn, eFn, eMt, aNil, aCons, eTup, eLst, eAnd, eOr, eNot, eIf, eIsi, eChain, bTest, bTruth, bAnd, bOr, bNot, bYes, eSl, pNo, pAt, eDnew, eDin, eDget, eDget2, tgM_name, tgM_tup, tgMs_nil, tgMs_name, tgMs_tup, List.getElem?_cons_succ, List.getElem?_cons_zero, List.set_cons_succ, List.set_cons_zero, List.map_cons, List.map_nil, List.length_cons, List.length_nil, List.replicate, List.nil_append, List.cons_append, if_true, if_false, Bool.false_eq_true, Bool.true_eq_false, Nat.reduceAdd, Nat.reduceSub, Nat.reduceLeDiff, Nat.zero_add, Bool.not_true, Bool.not_false, ii, addI, subI, negI, int1, eqI, neI, eqS, neS, ix0, ix1, ix2, ix3, decide_eq_true_eq, Bool.not_eq_true', decide_eq_false_iff_not, truB, truN, keyI, keyS, lenT, wipeM]
        refine ⟨(B.length - S.length) * 97 + T'.length, by omega, S, T', some (.int w), x5, rfl, rfl, nd, rch, fun v hv => tg v (by simp [hv]), fun v hv j p => ?_, fun j hj x hx v hv j' p => ?_, a2, b2, f2, by omega⟩
        · rcases cr v hv j p with q | q
          · exact .inl q
          · rcases keep v q with q | q
            · exact .inr q
            · subst q; exact absurd p (np _)
        · rcases cf j hj x hx v hv j' p with q | q
          · exact .inl q
          · rcases keep v q with q | q
            · exact .inr q
            · subst q; exact absurd p (np _)
  · exact ⟨[], rt, none, none, rfl, by simp, .nil, fun _ h => (by cases h), fun w hw => ⟨gr w hw, fun i p => .root hw p⟩, fun w hw i p => .inr hw, fun _ h => (by cases h), a0, b0, Fr.refl, by simp; try omega⟩
end Cg

set_option Elab.async false
set_option linter.all false
set_option maxRecDepth 100000
namespace Cg
open PySem PySem.Spec PyProof.Rows L2 Mir
/-! ### after a collection -/
theorem tot_sum : ∀ l : List Nat, ((l.map fun n : Nat => (n : Int)).sum) = (tot l : Int)
  | [] => rfl
  | x :: r => by rw [List.map_cons, List.sum_cons, tot_sum r, tot]; omega
theorem Don.ln {B C : List Bk} {rt rt' : List Int} {ms : List Nat} (h : Don B rt ms C rt') : (flat C).length = tot (ms.map (szAt B)) := by
  rw [flat_len, h.sc.szs fun i hi => ((h.rch i).mp hi).lt]
theorem noff_off {B C : List Bk} {ms : List Nat} (h : C.map Bk.sz = ms.map (szAt B)) (j : Nat) : noff B ms j = off C j := by
  unfold noff off; rw [h]
theorem Fwd.gw {B C : List Bk} {ms : List Nat} {w w' : Int} (hs : C.map Bk.sz = ms.map (szAt B)) (h : Fwd B ms w w') : Gw C w' := by
  rcases h with ⟨h, rfl⟩ | ⟨i, j, h1, h2, h3⟩
  · exact fun q => absurd q h
  · refine fun _ => ⟨j, ?_, by rw [h3, noff_off hs]⟩
    have := congrArg List.length hs
    have := (List.getElem?_eq_some_iff.mp h2).1
    simp at *
    omega
/-- a field of the copy comes from a field of the block -/
theorem Don.fld {B C : List Bk} {rt rt' : List Int} {ms : List Nat} (h : Don B rt ms C rt') {j i : Nat} (hj : ms[j]? = some i) : ∃ x, C[j]? = some x ∧ x.fs.length = (bat B i).fs.length ∧ ∀ (q : Nat) (w w' : Int), (bat B i).fs[q]? = some w → x.fs[q]? = some w' → Fwd B ms w w' := by
  obtain ⟨x, hx, _, h2, h3⟩ := h.sc.at_ j i hj
  exact ⟨x, hx, h2, fun q w w' e e' => (h3 q w w' e e').1 (.inl (List.getElem?_eq_some_iff.mp hj).1)⟩
theorem Don.wf {B C : List Bk} {rt rt' : List Int} {ms : List Nat} (h : Don B rt ms C rt') : Wf C := by
  intro x hx w hw
  have hs := h.sc.szs fun i hi => ((h.rch i).mp hi).lt
  obtain ⟨j, hj⟩ := List.mem_iff_getElem?.mp hx
  have hjl : j < ms.length := by rw [← h.sc.len]; exact (List.getElem?_eq_some_iff.mp hj).1
  obtain ⟨y, hy, h2, h3⟩ := Don.fld h (List.getElem?_eq_getElem hjl)
  rw [hj] at hy; cases hy
  obtain ⟨q, hq⟩ := List.mem_iff_getElem?.mp hw
  have hl := (List.getElem?_eq_some_iff.mp hq).1
  exact Fwd.gw hs (h3 q _ w (List.getElem?_eq_getElem (by omega)) hq)
theorem Don.gr {B C : List Bk} {rt rt' : List Int} {ms : List Nat} (h : Don B rt ms C rt') : ∀ w ∈ rt', Gw C w := by
  intro w hw
  have hs := h.sc.szs fun i hi => ((h.rch i).mp hi).lt
  obtain ⟨q, hq⟩ := List.mem_iff_getElem?.mp hw
  have hl := (List.getElem?_eq_some_iff.mp hq).1
  exact Fwd.gw hs (h.rts q _ w (List.getElem?_eq_getElem (by rw [← h.len]; exact hl)) hq)
theorem Don.sm {B C : List Bk} {rt rt' : List Int} {ms : List Nat} (h : Don B rt ms C rt') (sm : Sm B) : Sm C := by
  have hs := h.sc.szs fun i hi => ((h.rch i).mp hi).lt
  refine ⟨?_, fun x hx => ?_⟩
  · rw [h.sc.len]
    have := nd_len h.nd fun i hi => ((h.rch i).mp hi).lt
    have := sm.len
    omega
  · have : x.sz ∈ ms.map (szAt B) := by rw [← hs]; exact List.mem_map_of_mem hx
    obtain ⟨i, _, e⟩ := List.mem_map.mp this
    rw [← e]
    exact szAt_le sm i
theorem Fwd.ptr {B C : List Bk} {ms : List Nat} {w w' : Int} {i : Nat} (nd : ms.Nodup) (hs : C.map Bk.sz = ms.map (szAt B)) (h : Fwd B ms w w') (p : Ptr B w i) : ∃ j, ms[j]? = some i ∧ Ptr C w' j := by
  rcases h with ⟨h, rfl⟩ | ⟨k, j, h1, h2, h3⟩
  · exact absurd p.mod h
  · obtain rfl := p.uniq h1
    refine ⟨j, h2, ?_, by rw [h3, noff_off hs]⟩
    have := congrArg List.length hs
    have := (List.getElem?_eq_some_iff.mp h2).1
    simp at *
    omega
theorem nd_ix {ms : List Nat} (nd : ms.Nodup) {j k i : Nat} (h1 : ms[j]? = some i) (h2 : ms[k]? = some i) : j = k := by
  obtain ⟨hj, e1⟩ := List.getElem?_eq_some_iff.mp h1
  obtain ⟨hk, e2⟩ := List.getElem?_eq_some_iff.mp h2
  exact (List.getElem_inj nd).mp (e1.trans e2.symm)
/-- all blocks of the copy are reached in it -/
theorem Don.again {B C : List Bk} {rt rt' : List Int} {ms : List Nat} (h : Don B rt ms C rt') {j : Nat} (hj : j < C.length) : Rch C rt' j := by
  have hs := h.sc.szs fun i hi => ((h.rch i).mp hi).lt
  have key : ∀ i, Rch B rt i → ∀ j, ms[j]? = some i → Rch C rt' j := by
    intro i hi
    induction hi with
    | @root w i hw p =>
      intro j hj
      obtain ⟨q, hq⟩ := List.mem_iff_getElem?.mp hw
      have hl := (List.getElem?_eq_some_iff.mp hq).1
      have e := List.getElem?_eq_getElem (l := rt') (i := q) (by rw [h.len]; exact hl)
      obtain ⟨k, hk, pk⟩ := Fwd.ptr h.nd hs (h.rts q w _ hq e) p
      rw [nd_ix h.nd hj hk]
      exact .root (List.mem_of_getElem? e) pk
    | @step a i x w ha hx hw p ih =>
      intro j hj
      obtain ⟨ja, hja⟩ := List.mem_iff_getElem?.mp ((h.rch a).mpr ha)
      obtain ⟨y, hy, h2, h3⟩ := Don.fld h hja
      have ex : bat B a = x := by have := bat_eq ha.lt; rw [hx] at this; exact (Option.some.inj this).symm
      rw [ex] at h2 h3
      obtain ⟨q, hq⟩ := List.mem_iff_getElem?.mp hw
      have hl := (List.getElem?_eq_some_iff.mp hq).1
      have e := List.getElem?_eq_getElem (l := y.fs) (i := q) (by omega)
      obtain ⟨k, hk, pk⟩ := Fwd.ptr h.nd hs (h3 q w _ hq e) p
      rw [nd_ix h.nd hj hk]
      exact .step (ih ja hja) hy (List.mem_of_getElem? e) pk
  have hjl : j < ms.length := by rw [← h.sc.len]; exact hj
  have e := List.getElem?_eq_getElem hjl
  exact key _ ((h.rch _).mp (List.mem_of_getElem? e)) j e
theorem reach_ok {B : List Bk} {rt : List Int} {n rr : Nat} {s : Sto} {R : W → Sto → Prop} (hn : s[n]? = some (.lst (wi (flat B)))) (hr : s[rr]? = some (.lst (wi rt))) (sm : Sm B) (wf : Wf B) (gr : ∀ w ∈ rt, Gw B w) (hl : rt.length ≤ 1000)
    (h : ∀ ms C rt' s', Don B rt ms C rt' → Fr [] s s' → R (.int ((flat C).length : Int)) s') : Wp (FReachable [.ref n, .ref rr] s) R := by
  unfold FReachable
  rw [wp_mkF (by rfl)]
  unfold BReachable
  repeat first | with_reducible refine Eq.mpr wps_cons ?_ | with_reducible refine Eq.mpr wps_pass ?_ | with_reducible refine Eq.mpr wps_nil ?_ | with_reducible refine Eq.mpr wps_set ?_ | with_reducible refine Eq.mpr wps_do ?_ | with_reducible refine Eq.mpr wps_ret ?_ | with_reducible refine Eq.mpr wps_retN ?_ | with_reducible refine Eq.mpr wps_brk ?_ | with_reducible refine Eq.mpr wps_cnt ?_ | with_reducible refine Eq.mpr wps_if ?_ | with_reducible refine Eq.mpr wps_asg ?_ | with_reducible refine Eq.mpr wps_put ?_ | with_reducible refine Eq.mpr wps_dput ?_ | with_reducible refine Eq.mpr wps_aug ?_ | with_reducible refine Eq.mpr wps_par ?_ | with_reducible refine Eq.mpr wps_for ?_ | with_reducible refine Eq.mpr wps_wh ?_ | simp only [wp_bd, wp_lc, ql_nx, ql_ct, ql_bk, ql_rt, iSeq, iEnu, Mir.iRev, chkR, chkT, chkO, lstO, wp_some, wp_ite, wp_none, bd_some, eVar, eC, eOp, eUn, eFn, eMt, aNil, aCons, eTup, eLst, eAnd, eOr, eNot, eIf, eIsi, eChain, bTest, bTruth, bAnd, bOr, bNot, bYes, eSl, pNo, pAt, eDnew, eDin, eDget, eDget2, tgM_name, tgM_tup, tgMs_nil, tgMs_name, tgMs_tup, List.getElem?_cons_succ, List.getElem?_cons_zero, List.set_cons_succ, List.set_cons_zero, List.map_cons, List.map_nil, List.length_cons, List.length_nil, List.replicate, List.nil_append, List.cons_append, if_true, if_false, Bool.false_eq_true, Bool.true_eq_false, Nat.reduceAdd, Nat.reduceSub, Nat.reduceLeDiff, Nat.zero_add, Bool.not_true, Bool.not_false, ii, addI, subI, negI, int1, eqI, neI, eqS, neS, ix0, ix1, ix2, ix3, decide_eq_true_eq, Bool.not_eq_true', decide_eq_false_iff_not, truB, truN, keyI, keyS, lenT, wipeM]
  refine (collect_ok hn hr sm wf gr hl).mono ?_
  rintro v s1 ⟨ms, C, rt', c, k, rfl, hc, hk, lc, lk, ck, f, d⟩
  repeat first | with_reducible refine Eq.mpr wps_cons ?_ | with_reducible refine Eq.mpr wps_pass ?_ | with_reducible refine Eq.mpr wps_nil ?_ | with_reducible refine Eq.mpr wps_set ?_ | with_reducible refine Eq.mpr wps_do ?_ | with_reducible refine Eq.mpr wps_ret ?_ | with_reducible refine Eq.mpr wps_retN ?_ | with_reducible refine Eq.mpr wps_brk ?_ | with_reducible refine Eq.mpr wps_cnt ?_ | with_reducible refine Eq.mpr wps_if ?_ | with_reducible refine Eq.mpr wps_asg ?_ | with_reducible refine Eq.mpr wps_put ?_ | with_reducible refine Eq.mpr wps_dput ?_ | with_reducible refine Eq.mpr wps_aug ?_ | with_reducible refine Eq.mpr wps_par ?_ | with_reducible refine Eq.mpr wps_for ?_ | with_reducible refine Eq.mpr wps_wh ?_ | simp only [wp_bd, wp_lc, ql_nx, ql_ct, ql_bk, ql_rt, iSeq, iEnu, Mir.iRev, chkR, chkT, chkO, lstO, wp_some, wp_ite, wp_none, bd_some, eVar, eC, eOp, eUn, eFn, eMt, aNil, aCons, eTup, eLst, eAnd, eOr, eNot, eIf, eIsi, eChain, bTest, bTruth, bAnd, bOr, bNot, bYes, eSl, pNo, pAt, eDnew, eDin, eDget, eDget2, tgM_name, tgM_tup, tgMs_nil, tgMs_name, tgMs_tup, List.getElem?_cons_succ, List.getElem?_cons_zero, List.set_cons_succ, List.set_cons_zero, List.map_cons, List.map_nil, List.length_cons, List.length_nil, List.replicate, List.nil_append, List.cons_append, if_true, if_false, Bool.false_eq_true, Bool.true_eq_false, Nat.reduceAdd, Nat.reduceSub, Nat.reduceLeDiff, Nat.zero_add, Bool.not_true, Bool.not_false, ii, addI, subI, negI, int1, eqI, neI, eqS, neS, ix0, ix1, ix2, ix3, decide_eq_true_eq, Bool.not_eq_true', decide_eq_false_iff_not, truB, truN, keyI, keyS, lenT, wipeM, lenL hc]
  have := h ms C rt' s1 d f
  simpa using this
end Cg

set_option Elab.async false
set_option linter.all false
set_option maxRecDepth 100000
namespace K73
open PySem PySem.Spec PyProof.Rows L2 Mir
def topS (i : Nat) : Stmt := PySem.Challenge.pw_shapewright_k73_collection_keeps_what_is.main.body.getD i (.Pass ⟨0, 0, 0, 0⟩)
abbrev sWordOfBlock : Stmt := topS 2
theorem scWordOfBlock : FnScope ["address"] ["address"] (defScope sWordOfBlock) := ⟨rfl, rfl, rfl, by decide +kernel, rfl, by decide +kernel, by decide +kernel⟩
abbrev sNamesBlock : Stmt := topS 3
theorem scNamesBlock : FnScope ["word"] ["word"] (defScope sNamesBlock) := ⟨rfl, rfl, rfl, by decide +kernel, rfl, by decide +kernel, by decide +kernel⟩
abbrev sAddressOf : Stmt := topS 4
theorem scAddressOf : FnScope ["word"] ["word"] (defScope sAddressOf) := ⟨rfl, rfl, rfl, by decide +kernel, rfl, by decide +kernel, by decide +kernel⟩
abbrev sBlockLength : Stmt := topS 5
theorem scBlockLength : FnScope ["words", "address"] ["words", "address"] (defScope sBlockLength) := ⟨rfl, rfl, rfl, by decide +kernel, rfl, by decide +kernel, by decide +kernel⟩
abbrev sCollect : Stmt := topS 7
theorem scCollect : FnScope ["words", "roots", "copied", "moved", "new_roots", "address", "after", "place", "word"] ["words", "roots"] (defScope sCollect) := ⟨rfl, rfl, rfl, by decide +kernel, rfl, by decide +kernel, by decide +kernel⟩
abbrev sMovedWord : Stmt := topS 8
theorem scMovedWord : FnScope ["words", "word", "copied", "moved", "address"] ["words", "word", "copied", "moved"] (defScope sMovedWord) := ⟨rfl, rfl, rfl, by decide +kernel, rfl, by decide +kernel, by decide +kernel⟩
abbrev sLawMix : Stmt := topS 10
theorem scLawMix : FnScope ["number"] ["number"] (defScope sLawMix) := ⟨rfl, rfl, rfl, by decide +kernel, rfl, by decide +kernel, by decide +kernel⟩
abbrev sLawTape : Stmt := topS 11
theorem scLawTape : FnScope ["script", "budget"] ["script", "budget"] (defScope sLawTape) := ⟨rfl, rfl, rfl, by decide +kernel, rfl, by decide +kernel, by decide +kernel⟩
abbrev sLawTake : Stmt := topS 12
theorem scLawTake : FnScope ["tape", "many", "cell", "digit"] ["tape", "many"] (defScope sLawTake) := ⟨rfl, rfl, rfl, by decide +kernel, rfl, by decide +kernel, by decide +kernel⟩
abbrev sLawWords : Stmt := topS 13
theorem scLawWords : FnScope ["tape", "words", "blocks", "k", "count", "i", "at"] ["tape"] (defScope sLawWords) := ⟨rfl, rfl, rfl, by decide +kernel, rfl, by decide +kernel, by decide +kernel⟩
abbrev sLawWord : Stmt := topS 14
theorem scLawWord : FnScope ["tape", "blocks", "draw"] ["tape", "blocks"] (defScope sLawWord) := ⟨rfl, rfl, rfl, by decide +kernel, rfl, by decide +kernel, by decide +kernel⟩
abbrev sLawLive : Stmt := topS 15
theorem scLawLive : FnScope ["words", "roots", "seen", "todo", "word", "at"] ["words", "roots"] (defScope sLawLive) := ⟨rfl, rfl, rfl, by decide +kernel, rfl, by decide +kernel, by decide +kernel⟩
abbrev sLawBegins : Stmt := topS 16
theorem scLawBegins : FnScope ["space", "begins", "at", "turn"] ["space"] (defScope sLawBegins) := ⟨rfl, rfl, rfl, by decide +kernel, rfl, by decide +kernel, by decide +kernel⟩
abbrev sLawSame : Stmt := topS 17
theorem scLawSame : FnScope ["words", "space", "roots", "moved", "begins", "pairs", "todo", "old", "new", "at", "to", "k", "i"] ["words", "space", "roots", "moved", "begins"] (defScope sLawSame) := ⟨rfl, rfl, rfl, by decide +kernel, rfl, by decide +kernel, by decide +kernel⟩
abbrev sLaw : Stmt := topS 18
theorem scLaw : FnScope ["script", "tape", "words", "blocks", "roots", "given", "handed", "told", "space", "moved", "begins", "pairs", "olds", "news", "k", "pair", "at"] ["script"] (defScope sLaw) := ⟨rfl, rfl, rfl, by decide +kernel, rfl, by decide +kernel, by decide +kernel⟩
noncomputable def BWordOfBlock : FS := (sRet (eOp gAdd (eOp gMul (eC (.int 4)) (eVar 0)) (eC (.int 1))))
noncomputable def FWordOfBlock : List W → Sto → Rz W := mkF 1 1 BWordOfBlock
noncomputable def BNamesBlock : FS := (sRet (eOp gEq (eOp gMod (eVar 0) (eC (.int 4))) (eC (.int 1))))
noncomputable def FNamesBlock : List W → Sto → Rz W := mkF 1 1 BNamesBlock
noncomputable def BAddressOf : FS := (sRet (eOp gDiv (eVar 0) (eC (.int 4))))
noncomputable def FAddressOf : List W → Sto → Rz W := mkF 1 1 BAddressOf
noncomputable def BBlockLength : FS := (sRet (eOp gAdd (eC (.int 4)) (eOp gIx (eVar 0) (eOp gSub (eOp gAdd (eVar 1) (eC (.int 4))) (eC (.int 1))))))
noncomputable def FBlockLength : List W → Sto → Rz W := mkF 2 2 BBlockLength
noncomputable def BMovedWord : FS := (sCons (sIf (bNot (bTruth (eFn FNamesBlock (aCons (eVar 1) aNil)))) (sRet (eVar 1)) sNil)
    (sCons (sSet 4 (eFn FAddressOf (aCons (eVar 1) aNil)))
    (sCons (sIf (bTest (eDin true (eVar 4) (eVar 3))) (sCons (sDput (eVar 3) (eVar 4) (eFn gLen (aCons (eVar 2) aNil)))
    (sDo (eMt isL gExtend (eVar 2) (aCons (eSl gSlA (eVar 0) (pAt (eVar 4)) (pAt (eOp gAdd (eVar 4) (eFn FBlockLength (aCons (eVar 0) (aCons (eVar 4) aNil)))))) aNil)))) sNil)
    (sRet (eFn FWordOfBlock (aCons (eDget (eVar 3) (eVar 4)) aNil))))))
noncomputable def FMovedWord : List W → Sto → Rz W := mkF 4 5 BMovedWord
noncomputable def BCollect : FS := (sCons (sSet 2 (eLst aNil))
    (sCons (sSet 3 eDnew)
    (sCons (sSet 4 (eLc [8] (iSeq (eVar 1)) (.name 8) bYes (eFn FMovedWord (aCons (eVar 0) (aCons (eVar 8) (aCons (eVar 2) (aCons (eVar 3) aNil)))))))
    (sCons (sSet 5 (eC (.int 0)))
    (sCons (sWh (fun _ _ => 100000) (bTest (eOp gLt (eVar 5) (eFn gLen (aCons (eVar 2) aNil)))) (sCons (sSet 6 (eOp gAdd (eVar 5) (eFn FBlockLength (aCons (eVar 2) (aCons (eVar 5) aNil)))))
    (sCons (sFor (iRng2 (eOp gAdd (eVar 5) (eC (.int 4))) (eVar 6)) (.name 7) (sPut (eVar 2) (eVar 7) (eFn FMovedWord (aCons (eVar 0) (aCons (eOp gIx (eVar 2) (eVar 7)) (aCons (eVar 2) (aCons (eVar 3) aNil)))))))
    (sSet 5 (eVar 6)))))
    (sRet (eTup (aCons (eVar 2) (aCons (eVar 4) aNil)))))))))
noncomputable def FCollect : List W → Sto → Rz W := mkF 2 9 BCollect
noncomputable def BLawMix : FS := (sCons (sSet 0 (eOp gMod (eFn gInt1 (aCons (eOp gAdd (eOp gMul (eVar 0) (eC (.int 6364136223846793005))) (eC (.int 1442695040888963407))) aNil)) (eC (.int 18446744073709551616))))
    (sRet (eOp gMod (eFn gInt1 (aCons (eOp gAdd (eOp gDivW (eOp gMul (eVar 0) (eVar 0)) (eC (.int 4294967296))) (eOp gMul (eVar 0) (eC (.int 69621)))) aNil)) (eC (.int 18446744073709551557)))))
noncomputable def FLawMix : List W → Sto → Rz W := mkF 1 1 BLawMix
noncomputable def BLawTape : FS := (sRet (eLst (aCons (eFn gList (aCons (eVar 0) aNil)) (aCons (eC (.int 0)) (aCons (eC (.int 0)) (aCons (eC (.int 1)) (aCons (eVar 1) aNil)))))))
noncomputable def FLawTape : List W → Sto → Rz W := mkF 2 2 BLawTape
noncomputable def BLawTake : FS := (sCons (sIf (bTest (eOp gLt (eOp gIx (eVar 0) (eC (.int 2))) (eVar 1))) (sIf (bTest (eOp gLt (eOp gIx (eVar 0) (eC (.int 1))) (eFn gLen (aCons (eOp gIx (eVar 0) (eC (.int 0))) aNil)))) (sCons (sSet 2 (eOp gIx (eOp gIx (eVar 0) (eC (.int 0))) (eOp gIx (eVar 0) (eC (.int 1)))))
    (sCons (sSet 2 (eIf (bTest (eOp gGe (eVar 2) (eC (.int 0)))) (eOp gMul (eC (.int 2)) (eVar 2)) (eOp gSub (eOp gMul (eUn gNeg (eC (.int 2))) (eVar 2)) (eC (.int 1)))))
    (sCons (sPut (eVar 0) (eC (.int 1)) (eOp gAdd (eOp gIx (eVar 0) (eC (.int 1))) (eC (.int 1))))
    (sCons (sPut (eVar 0) (eC (.int 3)) (eFn FLawMix (aCons (eOp gAdd (eOp gIx (eVar 0) (eC (.int 3))) (eVar 2)) aNil)))
    (sPut (eVar 0) (eC (.int 2)) (eIf (bTest (eOp gGe (eVar 2) (eOp gPow (eC (.int 10)) (eC (.int 18))))) (eVar 2) (eFn FLawMix (aCons (eFn FLawMix (aCons (eVar 2) aNil)) aNil)))))))) (sCons (sPut (eVar 0) (eC (.int 3)) (eFn FLawMix (aCons (eOp gAdd (eOp gIx (eVar 0) (eC (.int 3))) (eC (.int 1))) aNil)))
    (sPut (eVar 0) (eC (.int 2)) (eOp gIx (eVar 0) (eC (.int 3)))))) sNil)
    (sCons (sSet 3 (eOp gMod (eFn gInt1 (aCons (eOp gIx (eVar 0) (eC (.int 2))) aNil)) (eVar 1)))
    (sCons (sPut (eVar 0) (eC (.int 2)) (eOp gDiv (eOp gIx (eVar 0) (eC (.int 2))) (eVar 1)))
    (sRet (eVar 3)))))
noncomputable def FLawTake : List W → Sto → Rz W := mkF 2 4 BLawTake
noncomputable def BLawWord : FS := (sCons (sSet 2 (eFn FLawTake (aCons (eVar 0) (aCons (eC (.int 4)) aNil))))
    (sCons (sIf (bAnd (bTest (eOp gGt (eVar 2) (eC (.int 1)))) (bTest (eOp gGt (eFn gLen (aCons (eVar 1) aNil)) (eC (.int 0))))) (sRet (eOp gAdd (eOp gMul (eC (.int 4)) (eOp gIx (eVar 1) (eFn FLawTake (aCons (eVar 0) (aCons (eFn gLen (aCons (eVar 1) aNil)) aNil))))) (eC (.int 1)))) sNil)
    (sCons (sIf (bTest (eOp gEq (eVar 2) (eC (.int 1)))) (sRet (eOp gAdd (eOp gMul (eC (.int 4)) (eOp gAdd (eOp gMul (eC (.int 16)) (eFn FLawTake (aCons (eVar 0) (aCons (eC (.int 5)) aNil)))) (eFn FLawTake (aCons (eVar 0) (aCons (eC (.int 12)) aNil))))) (eC (.int 2)))) sNil)
    (sRet (eIf (bTest (eOp gEq (eFn FLawTake (aCons (eVar 0) (aCons (eC (.int 3)) aNil))) (eC (.int 0)))) (eC (.int 3)) (eOp gMul (eC (.int 4)) (eOp gSub (eFn FLawTake (aCons (eVar 0) (aCons (eC (.int 100)) aNil))) (eC (.int 50)))))))))
noncomputable def FLawWord : List W → Sto → Rz W := mkF 2 3 BLawWord
noncomputable def BLawWords : FS := (sCons (sSet 1 (eLst aNil))
    (sCons (sSet 2 (eLst aNil))
    (sCons (sFor (iRng1 (eFn FLawTake (aCons (eVar 0) (aCons (eC (.int 9)) aNil)))) (.name 3) (sCons (sDo (eMt isL gAppend (eVar 2) (aCons (eFn gLen (aCons (eVar 1) aNil)) aNil)))
    (sCons (sSet 4 (eFn FLawTake (aCons (eVar 0) (aCons (eC (.int 4)) aNil))))
    (sCons (sDo (eMt isL gExtend (eVar 1) (aCons (eLst (aCons (eFn FLawTake (aCons (eVar 0) (aCons (eC (.int 7)) aNil))) (aCons (eFn FLawTake (aCons (eVar 0) (aCons (eC (.int 9)) aNil))) (aCons (eFn FLawTake (aCons (eVar 0) (aCons (eC (.int 12)) aNil))) (aCons (eVar 4) aNil))))) aNil)))
    (sDo (eMt isL gExtend (eVar 1) (aCons (eLc [5] (iRng1 (eVar 4)) (.name 5) bYes (eC (.int 0))) aNil)))))))
    (sCons (sFor (iSeq (eVar 2)) (.name 6) (sFor (iRng1 (eOp gIx (eVar 1) (eOp gAdd (eVar 6) (eC (.int 3))))) (.name 5) (sPut (eVar 1) (eOp gAdd (eOp gAdd (eVar 6) (eC (.int 4))) (eVar 5)) (eFn FLawWord (aCons (eVar 0) (aCons (eVar 2) aNil))))))
    (sRet (eTup (aCons (eVar 1) (aCons (eVar 2) aNil))))))))
noncomputable def FLawWords : List W → Sto → Rz W := mkF 1 7 BLawWords
noncomputable def BLawLive : FS := (sCons (sSet 2 (eLst aNil))
    (sCons (sSet 3 (eFn gList (aCons (eVar 1) aNil)))
    (sCons (sWh (fun _ _ => 100000) (bTest (eOp gGt (eFn gLen (aCons (eVar 3) aNil)) (eC (.int 0)))) (sCons (sSet 4 (eMt isL gPop (eVar 3) aNil))
    (sIf (bAnd (bTest (eOp gEq (eOp gMod (eVar 4) (eC (.int 4))) (eC (.int 1)))) (bTest (eOp gNotIn (eVar 4) (eVar 2)))) (sCons (sDo (eMt isL gAppend (eVar 2) (aCons (eVar 4) aNil)))
    (sCons (sSet 5 (eOp gDiv (eVar 4) (eC (.int 4))))
    (sDo (eMt isL gExtend (eVar 3) (aCons (eSl gSlA (eVar 0) (pAt (eOp gAdd (eVar 5) (eC (.int 4)))) (pAt (eOp gAdd (eOp gAdd (eVar 5) (eC (.int 4))) (eOp gIx (eVar 0) (eOp gAdd (eVar 5) (eC (.int 3))))))) aNil))))) sNil)))
    (sRet (eVar 2)))))
noncomputable def FLawLive : List W → Sto → Rz W := mkF 2 6 BLawLive
noncomputable def BLawBegins : FS := (sCons (sSet 1 (eLst aNil))
    (sCons (sSet 2 (eC (.int 0)))
    (sCons (sFor (iRng1 (eOp gAdd (eFn gLen (aCons (eVar 0) aNil)) (eC (.int 1)))) (.name 3) (sCons (sIf (bTest (eOp gEq (eVar 2) (eFn gLen (aCons (eVar 0) aNil)))) (sRet (eVar 1)) sNil)
    (sCons (sIf (bOr (bTest (eOp gGt (eOp gAdd (eVar 2) (eC (.int 4))) (eFn gLen (aCons (eVar 0) aNil)))) (bOr (bNot (bTruth (eIsi "int" (eOp gIx (eVar 0) (eOp gAdd (eVar 2) (eC (.int 3))))))) (bTest (eOp gLt (eOp gIx (eVar 0) (eOp gAdd (eVar 2) (eC (.int 3)))) (eC (.int 0)))))) (sRet (eC .non)) sNil)
    (sCons (sDo (eMt isL gAppend (eVar 1) (aCons (eVar 2) aNil)))
    (sSet 2 (eOp gAdd (eOp gAdd (eVar 2) (eC (.int 4))) (eOp gIx (eVar 0) (eOp gAdd (eVar 2) (eC (.int 3))))))))))
    (sRet (eC .non)))))
noncomputable def FLawBegins : List W → Sto → Rz W := mkF 1 4 BLawBegins
noncomputable def BLawSame : FS := (sCons (sSet 5 (eLst aNil))
    (sCons (sSet 6 (eLc [11] (iRng1 (eFn gLen (aCons (eVar 2) aNil))) (.name 11) bYes (eTup (aCons (eOp gIx (eVar 2) (eVar 11)) (aCons (eOp gIx (eVar 3) (eVar 11)) aNil)))))
    (sCons (sWh (fun _ _ => 100000) (bTest (eOp gGt (eFn gLen (aCons (eVar 6) aNil)) (eC (.int 0)))) (sCons (sAsg (.tup [(.name 7), (.name 8)]) (eMt isL gPop (eVar 6) aNil))
    (sCons (sIf (bOr (bNot (bTruth (eIsi "int" (eVar 8)))) (bTruth (eIsi "bool" (eVar 8)))) (sRet (eC .non)) sNil)
    (sIf (bOr (bTest (eOp gNe (eOp gMod (eVar 7) (eC (.int 4))) (eC (.int 1)))) (bTest (eOp gNe (eOp gMod (eVar 8) (eC (.int 4))) (eC (.int 1))))) (sIf (bTest (eOp gNe (eVar 7) (eVar 8))) (sRet (eC .non)) sNil) (sIf (bTest (eOp gNotIn (eTup (aCons (eVar 7) (aCons (eVar 8) aNil))) (eVar 5))) (sCons (sDo (eMt isL gAppend (eVar 5) (aCons (eTup (aCons (eVar 7) (aCons (eVar 8) aNil))) aNil)))
    (sCons (sSet 9 (eOp gDiv (eVar 7) (eC (.int 4))))
    (sCons (sSet 10 (eOp gDiv (eVar 8) (eC (.int 4))))
    (sCons (sIf (bOr (bTest (eOp gNotIn (eVar 10) (eVar 4))) (bTest (eOp gNe (eSl gSlA (eVar 1) (pAt (eVar 10)) (pAt (eOp gAdd (eVar 10) (eC (.int 4))))) (eSl gSlA (eVar 0) (pAt (eVar 9)) (pAt (eOp gAdd (eVar 9) (eC (.int 4)))))))) (sRet (eC .non)) sNil)
    (sDo (eMt isL gExtend (eVar 6) (aCons (eLc [12] (iRng1 (eOp gIx (eVar 0) (eOp gAdd (eVar 9) (eC (.int 3))))) (.name 12) bYes (eTup (aCons (eOp gIx (eVar 0) (eOp gAdd (eOp gAdd (eVar 9) (eC (.int 4))) (eVar 12))) (aCons (eOp gIx (eVar 1) (eOp gAdd (eOp gAdd (eVar 10) (eC (.int 4))) (eVar 12))) aNil)))) aNil))))))) sNil)))))
    (sRet (eVar 5)))))
noncomputable def FLawSame : List W → Sto → Rz W := mkF 5 13 BLawSame
noncomputable def BLaw : FS := (sCons (sSet 1 (eFn FLawTape (aCons (eVar 0) (aCons (eC (.int 0)) aNil))))
    (sCons (sAsg (.tup [(.name 2), (.name 3)]) (eFn FLawWords (aCons (eVar 1) aNil)))
    (sCons (sSet 4 (eLc [14] (iRng1 (eFn FLawTake (aCons (eVar 1) (aCons (eC (.int 7)) aNil)))) (.name 14) bYes (eFn FLawWord (aCons (eVar 1) (aCons (eVar 3) aNil)))))
    (sCons (sSet 5 (eFn gList (aCons (eVar 2) aNil)))
    (sCons (sSet 6 (eFn gList (aCons (eVar 4) aNil)))
    (sCons (sSet 7 (eFn FCollect (aCons (eVar 5) (aCons (eVar 6) aNil))))
    (sCons (sIf (bOr (bTest (eOp gNe (eVar 5) (eVar 2))) (bOr (bTest (eOp gNe (eVar 6) (eVar 4))) (bOr (bNot (bTruth (eIsi "tuple" (eVar 7)))) (bTest (eOp gNe (eFn gLen (aCons (eVar 7) aNil)) (eC (.int 2))))))) (sRet (eC (.bl false))) sNil)
    (sCons (sAsg (.tup [(.name 8), (.name 9)]) (eVar 7))
    (sCons (sIf (bOr (bNot (bTruth (eIsi "list" (eVar 8)))) (bOr (bNot (bTruth (eIsi "list" (eVar 9)))) (bTest (eOp gNe (eFn gLen (aCons (eVar 9) aNil)) (eFn gLen (aCons (eVar 4) aNil)))))) (sRet (eC (.bl false))) sNil)
    (sCons (sSet 10 (eFn FLawBegins (aCons (eVar 8) aNil)))
    (sCons (sIf (bTest (eOp gIs (eVar 10) (eC .non))) (sRet (eC (.bl false))) sNil)
    (sCons (sSet 11 (eFn FLawSame (aCons (eVar 2) (aCons (eVar 8) (aCons (eVar 4) (aCons (eVar 9) (aCons (eVar 10) aNil)))))))
    (sCons (sIf (bTest (eOp gIs (eVar 11) (eC .non))) (sRet (eC (.bl false))) sNil)
    (sCons (sSet 12 (eFn gSorted (aCons (eLc [15] (iSeq (eVar 11)) (.name 15) bYes (eOp gIx (eVar 15) (eC (.int 0)))) aNil)))
    (sCons (sSet 13 (eFn gSorted (aCons (eLc [15] (iSeq (eVar 11)) (.name 15) bYes (eOp gIx (eVar 15) (eC (.int 1)))) aNil)))
    (sCons (sIf (bOr (bTest (eOp gNe (eVar 12) (eFn gSorted (aCons (eFn FLawLive (aCons (eVar 2) (aCons (eVar 4) aNil))) aNil)))) (bTest (eOp gNe (eVar 13) (eLc [16] (iSeq (eVar 10)) (.name 16) bYes (eOp gAdd (eOp gMul (eC (.int 4)) (eVar 16)) (eC (.int 1))))))) (sRet (eC (.bl false))) sNil)
    (sRet (eOp gEq (eFn gLen (aCons (eVar 11) aNil)) (eFn gLen (aCons (eVar 10) aNil))))))))))))))))))))
noncomputable def FLaw : List W → Sto → Rz W := mkF 1 17 BLaw
end K73

set_option Elab.async false
set_option linter.all false
set_option maxRecDepth 100000
namespace K73
open PySem PySem.Spec PyProof.Rows L2 Mir
theorem okWordOfBlock {P : Program} {w : World} {K : PySem.W.Frag} {mg : Str → Option Value} {base : Heap} {f : Addr} {fd : FuncData} {k : Nat} (F : Fun K "word_of_block" "word_of_block" sWordOfBlock f fd) (hb : Binds K fd ["address"] []) (hm : mg "word_of_block" = some (.ref f)) : Own P w K mg base (k + 1) "word_of_block" ["address"] FWordOfBlock :=
  own_of F scWordOfBlock hb hm fun cdv A outer s H E hr =>
    (mss_one (ms_ret (m_op op_addA f_add (m_op op_mulA f_mul m_int (m_var 0)) m_int)))
theorem okNamesBlock {P : Program} {w : World} {K : PySem.W.Frag} {mg : Str → Option Value} {base : Heap} {f : Addr} {fd : FuncData} {k : Nat} (F : Fun K "names_block" "names_block" sNamesBlock f fd) (hb : Binds K fd ["word"] []) (hm : mg "names_block" = some (.ref f)) : Own P w K mg base (k + 1) "names_block" ["word"] FNamesBlock :=
  own_of F scNamesBlock hb hm fun cdv A outer s H E hr =>
    (mss_one (ms_ret (m_cmp (op_eqA hr.units) f_eq (m_op op_mod f_mod (m_var 0) m_int) m_int (nomark _))))
theorem okAddressOf {P : Program} {w : World} {K : PySem.W.Frag} {mg : Str → Option Value} {base : Heap} {f : Addr} {fd : FuncData} {k : Nat} (F : Fun K "address_of" "address_of" sAddressOf f fd) (hb : Binds K fd ["word"] []) (hm : mg "address_of" = some (.ref f)) : Own P w K mg base (k + 1) "address_of" ["word"] FAddressOf :=
  own_of F scAddressOf hb hm fun cdv A outer s H E hr =>
    (mss_one (ms_ret (m_op op_fdiv f_div (m_var 0) m_int)))
theorem okBlockLength {P : Program} {w : World} {K : PySem.W.Frag} {mg : Str → Option Value} {base : Heap} {f : Addr} {fd : FuncData} {k : Nat} (F : Fun K "block_length" "block_length" sBlockLength f fd) (hb : Binds K fd ["words", "address"] []) (hm : mg "block_length" = some (.ref f)) (c_HEADER : Cst K mg "HEADER" (.int 4)) : Own P w K mg base (k + 1) "block_length" ["words", "address"] FBlockLength :=
  own_of F scBlockLength hb hm fun cdv A outer s H E hr =>
    (mss_one (ms_ret (m_op op_addA f_add (m_glob c_HEADER rfl) (m_ix ix_seq f_ix (m_var 0) (m_op op_sub f_sub (m_op op_addA f_add (m_var 1) (m_glob c_HEADER rfl)) m_int) (fun _ _ => rfl)))))
theorem okMovedWord {P : Program} {w : World} {K : PySem.W.Frag} {mg : Str → Option Value} {base : Heap} {f : Addr} {fd : FuncData} {k : Nat} (F : Fun K "moved_word" "moved_word" sMovedWord f fd) (hb : Binds K fd ["words", "word", "copied", "moved"] []) (hm : mg "moved_word" = some (.ref f)) (OWordOfBlock : Own P w K mg base k "word_of_block" ["address"] FWordOfBlock) (OBlockLength : Own P w K mg base k "block_length" ["words", "address"] FBlockLength) (OAddressOf : Own P w K mg base k "address_of" ["word"] FAddressOf) (ONamesBlock : Own P w K mg base k "names_block" ["word"] FNamesBlock) (nb_len : mg "len" = none) : Own P w K mg base (k + 1) "moved_word" ["words", "word", "copied", "moved"] FMovedWord :=
  own_of F scMovedWord hb hm fun cdv A outer s H E hr =>
    (mss_cons (ms_if (mt_not (mt_truth (m_call ONamesBlock hr rfl (ma_cons (m_var 1) ma_nil)))) (mss_one (ms_ret (m_var 1))) mss_nil)
    (mss_cons (ms_set (i := 4) scMovedWord.nd rfl (.inl rfl) (m_call OAddressOf hr rfl (ma_cons (m_var 1) ma_nil)))
    (mss_cons (ms_if (mt_dnotin (hu_of hr) (m_var 4) (m_var 3)) (mss_cons (ms_dput (hu_of hr) (m_var 3) (m_var 4) (m_callB call_lenA f_len rfl nb_len (by decide +kernel) (ma_cons (m_var 2) ma_nil)))
    (mss_one (ms_expr (m_extend (m_var 2) (ma_cons (m_slice sl_any f_sl (m_var 0) (mp_some (m_var 4)) (mp_some (m_op op_addA f_add (m_var 4) (m_call OBlockLength hr rfl (ma_cons (m_var 0) (ma_cons (m_var 4) ma_nil)))))) ma_nil))))) mss_nil)
    (mss_one (ms_ret (m_call OWordOfBlock hr rfl (ma_cons (m_dget (hu_of hr) (m_var 3) (m_var 4) (fun _ _ => rfl)) ma_nil)))))))
theorem okCollect {P : Program} {w : World} {K : PySem.W.Frag} {mg : Str → Option Value} {base : Heap} {f : Addr} {fd : FuncData} {k : Nat} (F : Fun K "collect" "collect" sCollect f fd) (hb : Binds K fd ["words", "roots"] []) (hm : mg "collect" = some (.ref f)) (OMovedWord : Own P w K mg base k "moved_word" ["words", "word", "copied", "moved"] FMovedWord) (OBlockLength : Own P w K mg base k "block_length" ["words", "address"] FBlockLength) (nb_len : mg "len" = none) (nb_range : mg "range" = none) (c_HEADER : Cst K mg "HEADER" (.int 4)) : Own P w K mg base (k + 1) "collect" ["words", "roots"] FCollect :=
  own_of F scCollect hb hm fun cdv A outer s H E hr =>
    (mss_cons (ms_set (i := 2) scCollect.nd rfl (.inr rfl) (m_lst ma_nil))
    (mss_cons (ms_set (i := 3) scCollect.nd rfl (.inr rfl) m_dnew)
    (mss_cons (ms_setLc (i := 4) (own := [("word", 8)]) (t := (.name 8)) (u := bYes) (f := (eFn FMovedWord (aCons (eVar 0) (aCons (eVar 8) (aCons (eVar 2) (aCons (eVar 3) aNil)))))) (by decide) rfl scCollect.nd rfl rfl (sw_true rfl rfl rfl (by decide +kernel)) (mi_seq (m_var 1)) (blkOk_by (own := [("word", 8)]) (N := ["words", "roots", "copied", "moved", "new_roots", "address", "after", "place", "word"]) (sc := defScope sCollect) (by decide +kernel)) (fun _ _ _ _ _ => (pg_name (i := 8) scCollect.nd rfl (.inl rfl))) (fun _ _ _ _ _ => mts_nil) (fun _ _ _ _ _ => (m_call OMovedWord hr rfl (ma_cons (m_var 0) (ma_cons (m_var 8) (ma_cons (m_var 2) (ma_cons (m_var 3) ma_nil)))))))
    (mss_cons (ms_set (i := 5) scCollect.nd rfl (.inl rfl) m_int)
    (mss_cons (ms_while (n := (fun _ _ => 100000)) PassesOwn.never (mt_cmp op_lt f_lt (m_var 5) (m_callB call_lenA f_len rfl nb_len (by decide +kernel) (ma_cons (m_var 2) ma_nil)) (nomark _)) (mss_cons (ms_set (i := 6) scCollect.nd rfl (.inl rfl) (m_op op_addA f_add (m_var 5) (m_call OBlockLength hr rfl (ma_cons (m_var 2) (ma_cons (m_var 5) ma_nil)))))
    (mss_cons (ms_for (t := (.name 7)) PassesOwn.never rfl (mi_rng2 rfl nb_range (m_op op_addA f_add (m_var 5) (m_glob c_HEADER rfl)) (m_var 6)) (pg_name (i := 7) scCollect.nd rfl (.inl rfl)) (mss_one (ms_put (m_call OMovedWord hr rfl (ma_cons (m_var 0) (ma_cons (m_ix ix_seq f_ix (m_var 2) (m_var 7) (fun _ _ => rfl)) (ma_cons (m_var 2) (ma_cons (m_var 3) ma_nil))))) (m_var 2) (m_var 7))))
    (mss_one (ms_set (i := 5) scCollect.nd rfl (.inl rfl) (m_var 6))))))
    (mss_one (ms_ret (m_tup (ma_cons (m_var 2) (ma_cons (m_var 4) ma_nil))))))))))
theorem okLawMix {P : Program} {w : World} {K : PySem.W.Frag} {mg : Str → Option Value} {base : Heap} {f : Addr} {fd : FuncData} {k : Nat} (F : Fun K "_law_mix" "_law_mix" sLawMix f fd) (hb : Binds K fd ["number"] []) (hm : mg "_law_mix" = some (.ref f)) (nb_int : mg "int" = none) : Own P w K mg base (k + 1) "_law_mix" ["number"] FLawMix :=
  own_of F scLawMix hb hm fun cdv A outer s H E hr =>
    (mss_cons (ms_set (i := 0) scLawMix.nd rfl (.inl rfl) (m_op op_mod f_mod (m_callTy call_int1 f_int1 rfl nb_int (by decide +kernel) (ma_cons (m_op op_addA f_add (m_op op_mulA f_mul (m_var 0) m_int) m_int) ma_nil)) m_int))
    (mss_one (ms_ret (m_op op_mod f_mod (m_callTy call_int1 f_int1 rfl nb_int (by decide +kernel) (ma_cons (m_op op_addA f_add (m_op op_fdivW f_divW (m_op op_mulA f_mul (m_var 0) (m_var 0)) m_int) (m_op op_mulA f_mul (m_var 0) m_int)) ma_nil)) m_int))))
theorem okLawTape {P : Program} {w : World} {K : PySem.W.Frag} {mg : Str → Option Value} {base : Heap} {f : Addr} {fd : FuncData} {k : Nat} (F : Fun K "_law_tape" "_law_tape" sLawTape f fd) (hb : Binds K fd ["script", "budget"] []) (hm : mg "_law_tape" = some (.ref f)) (nb_list : mg "list" = none) : Own P w K mg base (k + 1) "_law_tape" ["script", "budget"] FLawTape :=
  own_of F scLawTape hb hm fun cdv A outer s H E hr =>
    (mss_one (ms_ret (m_lst (ma_cons (m_callTy call_list_of f_list rfl nb_list (by decide +kernel) (ma_cons (m_var 0) ma_nil)) (ma_cons m_int (ma_cons m_int (ma_cons m_int (ma_cons (m_var 1) ma_nil))))))))
theorem okLawTake {P : Program} {w : World} {K : PySem.W.Frag} {mg : Str → Option Value} {base : Heap} {f : Addr} {fd : FuncData} {k : Nat} (F : Fun K "_law_take" "_law_take" sLawTake f fd) (hb : Binds K fd ["tape", "many"] []) (hm : mg "_law_take" = some (.ref f)) (OLawMix : Own P w K mg base k "_law_mix" ["number"] FLawMix) (nb_int : mg "int" = none) (nb_len : mg "len" = none) : Own P w K mg base (k + 1) "_law_take" ["tape", "many"] FLawTake :=
  own_of F scLawTake hb hm fun cdv A outer s H E hr =>
    (mss_cons (ms_if (mt_cmp op_lt f_lt (m_ix ix_seq f_ix (m_var 0) m_int (fun _ _ => rfl)) (m_var 1) (nomark _)) (mss_one (ms_if (mt_cmp op_lt f_lt (m_ix ix_seq f_ix (m_var 0) m_int (fun _ _ => rfl)) (m_callB call_lenA f_len rfl nb_len (by decide +kernel) (ma_cons (m_ix ix_seq f_ix (m_var 0) m_int (fun _ _ => rfl)) ma_nil)) (nomark _)) (mss_cons (ms_set (i := 2) scLawTake.nd rfl (.inl rfl) (m_ix ix_seq f_ix (m_ix ix_seq f_ix (m_var 0) m_int (fun _ _ => rfl)) (m_ix ix_seq f_ix (m_var 0) m_int (fun _ _ => rfl)) (fun _ _ => rfl)))
    (mss_cons (ms_set (i := 2) scLawTake.nd rfl (.inl rfl) (m_if (mt_cmp op_ge f_ge (m_var 2) m_int (nomark _)) (m_op op_mulA f_mul m_int (m_var 2)) (m_op op_sub f_sub (m_op op_mulA f_mul (m_un un_neg f_neg m_int) (m_var 2)) m_int)))
    (mss_cons (ms_put (m_op op_addA f_add (m_ix ix_seq f_ix (m_var 0) m_int (fun _ _ => rfl)) m_int) (m_var 0) m_int)
    (mss_cons (ms_put (m_call OLawMix hr rfl (ma_cons (m_op op_addA f_add (m_ix ix_seq f_ix (m_var 0) m_int (fun _ _ => rfl)) (m_var 2)) ma_nil)) (m_var 0) m_int)
    (mss_one (ms_put (m_if (mt_cmp op_ge f_ge (m_var 2) (m_op op_pow f_pow m_int m_int) (nomark _)) (m_var 2) (m_call OLawMix hr rfl (ma_cons (m_call OLawMix hr rfl (ma_cons (m_var 2) ma_nil)) ma_nil))) (m_var 0) m_int)))))) (mss_cons (ms_put (m_call OLawMix hr rfl (ma_cons (m_op op_addA f_add (m_ix ix_seq f_ix (m_var 0) m_int (fun _ _ => rfl)) m_int) ma_nil)) (m_var 0) m_int)
    (mss_one (ms_put (m_ix ix_seq f_ix (m_var 0) m_int (fun _ _ => rfl)) (m_var 0) m_int))))) mss_nil)
    (mss_cons (ms_set (i := 3) scLawTake.nd rfl (.inl rfl) (m_op op_mod f_mod (m_callTy call_int1 f_int1 rfl nb_int (by decide +kernel) (ma_cons (m_ix ix_seq f_ix (m_var 0) m_int (fun _ _ => rfl)) ma_nil)) (m_var 1)))
    (mss_cons (ms_put (m_op op_fdiv f_div (m_ix ix_seq f_ix (m_var 0) m_int (fun _ _ => rfl)) (m_var 1)) (m_var 0) m_int)
    (mss_one (ms_ret (m_var 3))))))
theorem okLawWord {P : Program} {w : World} {K : PySem.W.Frag} {mg : Str → Option Value} {base : Heap} {f : Addr} {fd : FuncData} {k : Nat} (F : Fun K "_law_word" "_law_word" sLawWord f fd) (hb : Binds K fd ["tape", "blocks"] []) (hm : mg "_law_word" = some (.ref f)) (OLawTake : Own P w K mg base k "_law_take" ["tape", "many"] FLawTake) (nb_len : mg "len" = none) : Own P w K mg base (k + 1) "_law_word" ["tape", "blocks"] FLawWord :=
  own_of F scLawWord hb hm fun cdv A outer s H E hr =>
    (mss_cons (ms_set (i := 2) scLawWord.nd rfl (.inl rfl) (m_call OLawTake hr rfl (ma_cons (m_var 0) (ma_cons m_int ma_nil))))
    (mss_cons (ms_if (PW.pt (mw_and (mt_cmp op_gt f_gt (m_var 2) m_int (nomark _)) (mw_and1 (mt_cmp op_gt f_gt (m_callB call_lenA f_len rfl nb_len (by decide +kernel) (ma_cons (m_var 1) ma_nil)) m_int (nomark _))))) (mss_one (ms_ret (m_op op_addA f_add (m_op op_mulA f_mul m_int (m_ix ix_seq f_ix (m_var 1) (m_call OLawTake hr rfl (ma_cons (m_var 0) (ma_cons (m_callB call_lenA f_len rfl nb_len (by decide +kernel) (ma_cons (m_var 1) ma_nil)) ma_nil))) (fun _ _ => rfl))) m_int))) mss_nil)
    (mss_cons (ms_if (mt_cmp (op_eqA hr.units) f_eq (m_var 2) m_int (nomark _)) (mss_one (ms_ret (m_op op_addA f_add (m_op op_mulA f_mul m_int (m_op op_addA f_add (m_op op_mulA f_mul m_int (m_call OLawTake hr rfl (ma_cons (m_var 0) (ma_cons m_int ma_nil)))) (m_call OLawTake hr rfl (ma_cons (m_var 0) (ma_cons m_int ma_nil))))) m_int))) mss_nil)
    (mss_one (ms_ret (m_if (mt_cmp (op_eqA hr.units) f_eq (m_call OLawTake hr rfl (ma_cons (m_var 0) (ma_cons m_int ma_nil))) m_int (nomark _)) m_int (m_op op_mulA f_mul m_int (m_op op_sub f_sub (m_call OLawTake hr rfl (ma_cons (m_var 0) (ma_cons m_int ma_nil))) m_int))))))))
theorem okLawWords {P : Program} {w : World} {K : PySem.W.Frag} {mg : Str → Option Value} {base : Heap} {f : Addr} {fd : FuncData} {k : Nat} (F : Fun K "_law_words" "_law_words" sLawWords f fd) (hb : Binds K fd ["tape"] []) (hm : mg "_law_words" = some (.ref f)) (OLawWord : Own P w K mg base k "_law_word" ["tape", "blocks"] FLawWord) (OLawTake : Own P w K mg base k "_law_take" ["tape", "many"] FLawTake) (nb_len : mg "len" = none) (nb_range : mg "range" = none) : Own P w K mg base (k + 1) "_law_words" ["tape"] FLawWords :=
  own_of F scLawWords hb hm fun cdv A outer s H E hr =>
    (mss_cons (ms_set (i := 1) scLawWords.nd rfl (.inl rfl) (m_lst ma_nil))
    (mss_cons (ms_set (i := 2) scLawWords.nd rfl (.inl rfl) (m_lst ma_nil))
    (mss_cons (ms_for (t := (.name 3)) PassesOwn.never rfl (mi_rng1 rfl nb_range (m_call OLawTake hr rfl (ma_cons (m_var 0) (ma_cons m_int ma_nil)))) (pg_name (i := 3) scLawWords.nd rfl (.inl rfl)) (mss_cons (ms_expr (m_append (m_var 2) (ma_cons (m_callB call_lenA f_len rfl nb_len (by decide +kernel) (ma_cons (m_var 1) ma_nil)) ma_nil)))
    (mss_cons (ms_set (i := 4) scLawWords.nd rfl (.inl rfl) (m_call OLawTake hr rfl (ma_cons (m_var 0) (ma_cons m_int ma_nil))))
    (mss_cons (ms_expr (m_extend (m_var 1) (ma_cons (m_lst (ma_cons (m_call OLawTake hr rfl (ma_cons (m_var 0) (ma_cons m_int ma_nil))) (ma_cons (m_call OLawTake hr rfl (ma_cons (m_var 0) (ma_cons m_int ma_nil))) (ma_cons (m_call OLawTake hr rfl (ma_cons (m_var 0) (ma_cons m_int ma_nil))) (ma_cons (m_var 4) ma_nil))))) ma_nil)))
    (mss_one (ms_expr (m_extend (m_var 1) (ma_cons (m_lc (own := [("i", 5)]) (t := (.name 5)) (u := bYes) (f := (eC (.int 0))) (by decide) rfl scLawWords.nd (mi_rng1 rfl nb_range (m_var 4)) (blkOk_by (own := [("i", 5)]) (N := ["tape", "words", "blocks", "k", "count", "i", "at"]) (sc := defScope sLawWords) (by decide +kernel)) (fun _ _ _ _ _ => (pg_name (i := 5) scLawWords.nd rfl (.inl rfl))) (fun _ _ _ _ _ => mts_nil) (fun _ _ _ _ _ => m_int)) ma_nil))))))))
    (mss_cons (ms_for (t := (.name 6)) PassesOwn.never rfl (mi_seq (m_var 2)) (pg_name (i := 6) scLawWords.nd rfl (.inl rfl)) (mss_one (ms_for (t := (.name 5)) PassesOwn.never rfl (mi_rng1 rfl nb_range (m_ix ix_seq f_ix (m_var 1) (m_op op_addA f_add (m_var 6) m_int) (fun _ _ => rfl))) (pg_name (i := 5) scLawWords.nd rfl (.inl rfl)) (mss_one (ms_put (m_call OLawWord hr rfl (ma_cons (m_var 0) (ma_cons (m_var 2) ma_nil))) (m_var 1) (m_op op_addA f_add (m_op op_addA f_add (m_var 6) m_int) (m_var 5)))))))
    (mss_one (ms_ret (m_tup (ma_cons (m_var 1) (ma_cons (m_var 2) ma_nil)))))))))
theorem okLawLive {P : Program} {w : World} {K : PySem.W.Frag} {mg : Str → Option Value} {base : Heap} {f : Addr} {fd : FuncData} {k : Nat} (F : Fun K "_law_live" "_law_live" sLawLive f fd) (hb : Binds K fd ["words", "roots"] []) (hm : mg "_law_live" = some (.ref f)) (nb_len : mg "len" = none) (nb_list : mg "list" = none) : Own P w K mg base (k + 1) "_law_live" ["words", "roots"] FLawLive :=
  own_of F scLawLive hb hm fun cdv A outer s H E hr =>
    (mss_cons (ms_set (i := 2) scLawLive.nd rfl (.inl rfl) (m_lst ma_nil))
    (mss_cons (ms_set (i := 3) scLawLive.nd rfl (.inl rfl) (m_callTy call_list_of f_list rfl nb_list (by decide +kernel) (ma_cons (m_var 1) ma_nil)))
    (mss_cons (ms_while (n := (fun _ _ => 100000)) PassesOwn.never (mt_cmp op_gt f_gt (m_callB call_lenA f_len rfl nb_len (by decide +kernel) (ma_cons (m_var 3) ma_nil)) m_int (nomark _)) (mss_cons (ms_set (i := 4) scLawLive.nd rfl (.inl rfl) (m_pop (m_var 3)))
    (mss_one (ms_if (PW.pt (mw_and (mt_cmp (op_eqA hr.units) f_eq (m_op op_mod f_mod (m_var 4) m_int) m_int (nomark _)) (mw_and1 (mt_cmp (op_notInA (hu65 hr)) f_notIn (m_var 4) (m_var 2) (by with_unfolding_all rfl))))) (mss_cons (ms_expr (m_append (m_var 2) (ma_cons (m_var 4) ma_nil)))
    (mss_cons (ms_set (i := 5) scLawLive.nd rfl (.inl rfl) (m_op op_fdiv f_div (m_var 4) m_int))
    (mss_one (ms_expr (m_extend (m_var 3) (ma_cons (m_slice sl_any f_sl (m_var 0) (mp_some (m_op op_addA f_add (m_var 5) m_int)) (mp_some (m_op op_addA f_add (m_op op_addA f_add (m_var 5) m_int) (m_ix ix_seq f_ix (m_var 0) (m_op op_addA f_add (m_var 5) m_int) (fun _ _ => rfl))))) ma_nil)))))) mss_nil))))
    (mss_one (ms_ret (m_var 2))))))
theorem okLawBegins {P : Program} {w : World} {K : PySem.W.Frag} {mg : Str → Option Value} {base : Heap} {f : Addr} {fd : FuncData} {k : Nat} (F : Fun K "_law_begins" "_law_begins" sLawBegins f fd) (hb : Binds K fd ["space"] []) (hm : mg "_law_begins" = some (.ref f)) (nb_int : mg "int" = none) (nb_isinstance : mg "isinstance" = none) (nb_len : mg "len" = none) (nb_range : mg "range" = none) : Own P w K mg base (k + 1) "_law_begins" ["space"] FLawBegins :=
  own_of F scLawBegins hb hm fun cdv A outer s H E hr =>
    (mss_cons (ms_set (i := 1) scLawBegins.nd rfl (.inl rfl) (m_lst ma_nil))
    (mss_cons (ms_set (i := 2) scLawBegins.nd rfl (.inl rfl) m_int)
    (mss_cons (ms_for (t := (.name 3)) PassesOwn.never rfl (mi_rng1 rfl nb_range (m_op op_addA f_add (m_callB call_lenA f_len rfl nb_len (by decide +kernel) (ma_cons (m_var 0) ma_nil)) m_int)) (pg_name (i := 3) scLawBegins.nd rfl (.inl rfl)) (mss_cons (ms_if (mt_cmp (op_eqA hr.units) f_eq (m_var 2) (m_callB call_lenA f_len rfl nb_len (by decide +kernel) (ma_cons (m_var 0) ma_nil)) (nomark _)) (mss_one (ms_ret (m_var 1))) mss_nil)
    (mss_cons (ms_if (PW.pt (mw_or (mt_cmp op_gt f_gt (m_op op_addA f_add (m_var 2) m_int) (m_callB call_lenA f_len rfl nb_len (by decide +kernel) (ma_cons (m_var 0) ma_nil)) (nomark _)) (mw_or (mt_not (mt_truth (m_isi kit_int rfl nb_isinstance rfl nb_int (by decide +kernel) (m_ix ix_seq f_ix (m_var 0) (m_op op_addA f_add (m_var 2) m_int) (fun _ _ => rfl))))) (mw_or1 (mt_cmp op_lt f_lt (m_ix ix_seq f_ix (m_var 0) (m_op op_addA f_add (m_var 2) m_int) (fun _ _ => rfl)) m_int (nomark _)))))) (mss_one (ms_ret m_non)) mss_nil)
    (mss_cons (ms_expr (m_append (m_var 1) (ma_cons (m_var 2) ma_nil)))
    (mss_one (ms_set (i := 2) scLawBegins.nd rfl (.inl rfl) (m_op op_addA f_add (m_op op_addA f_add (m_var 2) m_int) (m_ix ix_seq f_ix (m_var 0) (m_op op_addA f_add (m_var 2) m_int) (fun _ _ => rfl)))))))))
    (mss_one (ms_ret m_non)))))
theorem okLawSame {P : Program} {w : World} {K : PySem.W.Frag} {mg : Str → Option Value} {base : Heap} {f : Addr} {fd : FuncData} {k : Nat} (F : Fun K "_law_same" "_law_same" sLawSame f fd) (hb : Binds K fd ["words", "space", "roots", "moved", "begins"] []) (hm : mg "_law_same" = some (.ref f)) (nb_bool : mg "bool" = none) (nb_int : mg "int" = none) (nb_isinstance : mg "isinstance" = none) (nb_len : mg "len" = none) (nb_range : mg "range" = none) : Own P w K mg base (k + 1) "_law_same" ["words", "space", "roots", "moved", "begins"] FLawSame :=
  own_of F scLawSame hb hm fun cdv A outer s H E hr =>
    (mss_cons (ms_set (i := 5) scLawSame.nd rfl (.inl rfl) (m_lst ma_nil))
    (mss_cons (ms_setLc (i := 6) (own := [("k", 11)]) (t := (.name 11)) (u := bYes) (f := (eTup (aCons (eOp gIx (eVar 2) (eVar 11)) (aCons (eOp gIx (eVar 3) (eVar 11)) aNil)))) (by decide) rfl scLawSame.nd rfl rfl (sw_true rfl rfl rfl (by decide +kernel)) (mi_rng1 rfl nb_range (m_callB call_lenA f_len rfl nb_len (by decide +kernel) (ma_cons (m_var 2) ma_nil))) (blkOk_by (own := [("k", 11)]) (N := ["words", "space", "roots", "moved", "begins", "pairs", "todo", "old", "new", "at", "to", "k", "i"]) (sc := defScope sLawSame) (by decide +kernel)) (fun _ _ _ _ _ => (pg_name (i := 11) scLawSame.nd rfl (.inl rfl))) (fun _ _ _ _ _ => mts_nil) (fun _ _ _ _ _ => (m_tup (ma_cons (m_ix ix_seq f_ix (m_var 2) (m_var 11) (fun _ _ => rfl)) (ma_cons (m_ix ix_seq f_ix (m_var 3) (m_var 11) (fun _ _ => rfl)) ma_nil)))))
    (mss_cons (ms_while (n := (fun _ _ => 100000)) PassesOwn.never (mt_cmp op_gt f_gt (m_callB call_lenA f_len rfl nb_len (by decide +kernel) (ma_cons (m_var 6) ma_nil)) m_int (nomark _)) (mss_cons (ms_asg (t := (.tup [(.name 7), (.name 8)])) (m_pop (m_var 6)) (pg_tup rfl (pgs_cons (pg_name (i := 7) scLawSame.nd rfl (.inl rfl)) (pgs_cons (pg_name (i := 8) scLawSame.nd rfl (.inl rfl)) pgs_nil))))
    (mss_cons (ms_if (PW.pt (mw_or (mt_not (mt_truth (m_isi kit_int rfl nb_isinstance rfl nb_int (by decide +kernel) (m_var 8)))) (mw_or1 (mt_truth (m_isi kit_bool rfl nb_isinstance rfl nb_bool (by decide +kernel) (m_var 8)))))) (mss_one (ms_ret m_non)) mss_nil)
    (mss_one (ms_if (PW.pt (mw_or (mt_cmp (op_neA hr.units) f_ne (m_op op_mod f_mod (m_var 7) m_int) m_int (nomark _)) (mw_or1 (mt_cmp (op_neA hr.units) f_ne (m_op op_mod f_mod (m_var 8) m_int) m_int (nomark _))))) (mss_one (ms_if (mt_cmp (op_neA hr.units) f_ne (m_var 7) (m_var 8) (nomark _)) (mss_one (ms_ret m_non)) mss_nil)) (mss_one (ms_if (mt_cmp (op_notInA (hu65 hr)) f_notIn (m_tup (ma_cons (m_var 7) (ma_cons (m_var 8) ma_nil))) (m_var 5) (by with_unfolding_all rfl)) (mss_cons (ms_expr (m_append (m_var 5) (ma_cons (m_tup (ma_cons (m_var 7) (ma_cons (m_var 8) ma_nil))) ma_nil)))
    (mss_cons (ms_set (i := 9) scLawSame.nd rfl (.inr rfl) (m_op op_fdiv f_div (m_var 7) m_int))
    (mss_cons (ms_set (i := 10) scLawSame.nd rfl (.inr rfl) (m_op op_fdiv f_div (m_var 8) m_int))
    (mss_cons (ms_if (PW.pt (mw_or (mt_cmp (op_notInA (hu65 hr)) f_notIn (m_var 10) (m_var 4) (by with_unfolding_all rfl)) (mw_or1 (mt_cmp (op_neA hr.units) f_ne (m_slice sl_any f_sl (m_var 1) (mp_some (m_var 10)) (mp_some (m_op op_addA f_add (m_var 10) m_int))) (m_slice sl_any f_sl (m_var 0) (mp_some (m_var 9)) (mp_some (m_op op_addA f_add (m_var 9) m_int))) (nomark _))))) (mss_one (ms_ret m_non)) mss_nil)
    (mss_one (ms_expr (m_extend (m_var 6) (ma_cons (m_lc (own := [("i", 12)]) (t := (.name 12)) (u := bYes) (f := (eTup (aCons (eOp gIx (eVar 0) (eOp gAdd (eOp gAdd (eVar 9) (eC (.int 4))) (eVar 12))) (aCons (eOp gIx (eVar 1) (eOp gAdd (eOp gAdd (eVar 10) (eC (.int 4))) (eVar 12))) aNil)))) (by decide) rfl scLawSame.nd (mi_rng1 rfl nb_range (m_ix ix_seq f_ix (m_var 0) (m_op op_addA f_add (m_var 9) m_int) (fun _ _ => rfl))) (blkOk_by (own := [("i", 12)]) (N := ["words", "space", "roots", "moved", "begins", "pairs", "todo", "old", "new", "at", "to", "k", "i"]) (sc := defScope sLawSame) (by decide +kernel)) (fun _ _ _ _ _ => (pg_name (i := 12) scLawSame.nd rfl (.inl rfl))) (fun _ _ _ _ _ => mts_nil) (fun _ _ _ _ _ => (m_tup (ma_cons (m_ix ix_seq f_ix (m_var 0) (m_op op_addA f_add (m_op op_addA f_add (m_var 9) m_int) (m_var 12)) (fun _ _ => rfl)) (ma_cons (m_ix ix_seq f_ix (m_var 1) (m_op op_addA f_add (m_op op_addA f_add (m_var 10) m_int) (m_var 12)) (fun _ _ => rfl)) ma_nil))))) ma_nil)))))))) mss_nil)))))))
    (mss_one (ms_ret (m_var 5))))))
theorem okLaw {P : Program} {w : World} {K : PySem.W.Frag} {mg : Str → Option Value} {base : Heap} {f : Addr} {fd : FuncData} {k : Nat} (F : Fun K "law" "law" sLaw f fd) (OLawLive : Own P w K mg base k "_law_live" ["words", "roots"] FLawLive) (OLawSame : Own P w K mg base k "_law_same" ["words", "space", "roots", "moved", "begins"] FLawSame) (OLawBegins : Own P w K mg base k "_law_begins" ["space"] FLawBegins) (OCollect : Own P w K mg base k "collect" ["words", "roots"] FCollect) (OLawTake : Own P w K mg base k "_law_take" ["tape", "many"] FLawTake) (OLawWord : Own P w K mg base k "_law_word" ["tape", "blocks"] FLawWord) (OLawWords : Own P w K mg base k "_law_words" ["tape"] FLawWords) (OLawTape : Own P w K mg base k "_law_tape" ["script", "budget"] FLawTape) (nb_isinstance : mg "isinstance" = none) (nb_len : mg "len" = none) (nb_list : mg "list" = none) (nb_range : mg "range" = none) (nb_sorted : mg "sorted" = none) (nb_tuple : mg "tuple" = none) : FnOk P w K mg base CX0 (k + 1) f fd ["script"] (spF K 1 FLaw) :=
  fnm_of F scLaw fun cdv A outer s H E hr =>
    (mss_cons (ms_set (i := 1) scLaw.nd rfl (.inr rfl) (m_call OLawTape hr rfl (ma_cons (m_var 0) (ma_cons m_int ma_nil))))
    (mss_cons (ms_asg (t := (.tup [(.name 2), (.name 3)])) (m_call OLawWords hr rfl (ma_cons (m_var 1) ma_nil)) (pg_tup rfl (pgs_cons (pg_name (i := 2) scLaw.nd rfl (.inl rfl)) (pgs_cons (pg_name (i := 3) scLaw.nd rfl (.inr rfl)) pgs_nil))))
    (mss_cons (ms_setLc (i := 4) (own := [("k", 14)]) (t := (.name 14)) (u := bYes) (f := (eFn FLawWord (aCons (eVar 1) (aCons (eVar 3) aNil)))) (by decide) rfl scLaw.nd rfl rfl (sw_true rfl rfl rfl (by decide +kernel)) (mi_rng1 rfl nb_range (m_call OLawTake hr rfl (ma_cons (m_var 1) (ma_cons m_int ma_nil)))) (blkOk_by (own := [("k", 14)]) (N := ["script", "tape", "words", "blocks", "roots", "given", "handed", "told", "space", "moved", "begins", "pairs", "olds", "news", "k", "pair", "at"]) (sc := defScope sLaw) (by decide +kernel)) (fun _ _ _ _ _ => (pg_name (i := 14) scLaw.nd rfl (.inl rfl))) (fun _ _ _ _ _ => mts_nil) (fun _ _ _ _ _ => (m_call OLawWord hr rfl (ma_cons (m_var 1) (ma_cons (m_var 3) ma_nil)))))
    (mss_cons (ms_set (i := 5) scLaw.nd rfl (.inl rfl) (m_callTy call_list_of f_list rfl nb_list (by decide +kernel) (ma_cons (m_var 2) ma_nil)))
    (mss_cons (ms_set (i := 6) scLaw.nd rfl (.inl rfl) (m_callTy call_list_of f_list rfl nb_list (by decide +kernel) (ma_cons (m_var 4) ma_nil)))
    (mss_cons (ms_set (i := 7) scLaw.nd rfl (.inl rfl) (m_call OCollect hr rfl (ma_cons (m_var 5) (ma_cons (m_var 6) ma_nil))))
    (mss_cons (ms_if (PW.pt (mw_or (mt_cmp (op_neA hr.units) f_ne (m_var 5) (m_var 2) (nomark _)) (mw_or (mt_cmp (op_neA hr.units) f_ne (m_var 6) (m_var 4) (nomark _)) (mw_or (mt_not (mt_truth (m_isi kit_tuple rfl nb_isinstance rfl nb_tuple (by decide +kernel) (m_var 7)))) (mw_or1 (mt_cmp (op_neA hr.units) f_ne (m_callB call_lenA f_len rfl nb_len (by decide +kernel) (ma_cons (m_var 7) ma_nil)) m_int (nomark _))))))) (mss_one (ms_ret m_bl)) mss_nil)
    (mss_cons (ms_asg (t := (.tup [(.name 8), (.name 9)])) (m_var 7) (pg_tup rfl (pgs_cons (pg_name (i := 8) scLaw.nd rfl (.inl rfl)) (pgs_cons (pg_name (i := 9) scLaw.nd rfl (.inl rfl)) pgs_nil))))
    (mss_cons (ms_if (PW.pt (mw_or (mt_not (mt_truth (m_isi kit_list rfl nb_isinstance rfl nb_list (by decide +kernel) (m_var 8)))) (mw_or (mt_not (mt_truth (m_isi kit_list rfl nb_isinstance rfl nb_list (by decide +kernel) (m_var 9)))) (mw_or1 (mt_cmp (op_neA hr.units) f_ne (m_callB call_lenA f_len rfl nb_len (by decide +kernel) (ma_cons (m_var 9) ma_nil)) (m_callB call_lenA f_len rfl nb_len (by decide +kernel) (ma_cons (m_var 4) ma_nil)) (nomark _)))))) (mss_one (ms_ret m_bl)) mss_nil)
    (mss_cons (ms_set (i := 10) scLaw.nd rfl (.inl rfl) (m_call OLawBegins hr rfl (ma_cons (m_var 8) ma_nil)))
    (mss_cons (ms_if (mt_cmp op_isA f_is (m_var 10) m_non (nomark _)) (mss_one (ms_ret m_bl)) mss_nil)
    (mss_cons (ms_set (i := 11) scLaw.nd rfl (.inl rfl) (m_call OLawSame hr rfl (ma_cons (m_var 2) (ma_cons (m_var 8) (ma_cons (m_var 4) (ma_cons (m_var 9) (ma_cons (m_var 10) ma_nil)))))))
    (mss_cons (ms_if (mt_cmp op_isA f_is (m_var 11) m_non (nomark _)) (mss_one (ms_ret m_bl)) mss_nil)
    (mss_cons (ms_set (i := 12) scLaw.nd rfl (.inl rfl) (m_callB cr_sortedI f_sorted rfl nb_sorted (by decide +kernel) (ma_cons (m_lc (own := [("pair", 15)]) (t := (.name 15)) (u := bYes) (f := (eOp gIx (eVar 15) (eC (.int 0)))) (by decide) rfl scLaw.nd (mi_seq (m_var 11)) (blkOk_by (own := [("pair", 15)]) (N := ["script", "tape", "words", "blocks", "roots", "given", "handed", "told", "space", "moved", "begins", "pairs", "olds", "news", "k", "pair", "at"]) (sc := defScope sLaw) (by decide +kernel)) (fun _ _ _ _ _ => (pg_name (i := 15) scLaw.nd rfl (.inl rfl))) (fun _ _ _ _ _ => mts_nil) (fun _ _ _ _ _ => (m_ix ix_seq f_ix (m_var 15) m_int (fun _ _ => rfl)))) ma_nil)))
    (mss_cons (ms_set (i := 13) scLaw.nd rfl (.inl rfl) (m_callB cr_sortedI f_sorted rfl nb_sorted (by decide +kernel) (ma_cons (m_lc (own := [("pair", 15)]) (t := (.name 15)) (u := bYes) (f := (eOp gIx (eVar 15) (eC (.int 1)))) (by decide) rfl scLaw.nd (mi_seq (m_var 11)) (blkOk_by (own := [("pair", 15)]) (N := ["script", "tape", "words", "blocks", "roots", "given", "handed", "told", "space", "moved", "begins", "pairs", "olds", "news", "k", "pair", "at"]) (sc := defScope sLaw) (by decide +kernel)) (fun _ _ _ _ _ => (pg_name (i := 15) scLaw.nd rfl (.inl rfl))) (fun _ _ _ _ _ => mts_nil) (fun _ _ _ _ _ => (m_ix ix_seq f_ix (m_var 15) m_int (fun _ _ => rfl)))) ma_nil)))
    (mss_cons (ms_if (PW.pt (mw_or (mt_cmp (op_neA hr.units) f_ne (m_var 12) (m_callB cr_sortedI f_sorted rfl nb_sorted (by decide +kernel) (ma_cons (m_call OLawLive hr rfl (ma_cons (m_var 2) (ma_cons (m_var 4) ma_nil))) ma_nil)) (nomark _)) (mw_or1 (mt_cmp (op_neA hr.units) f_ne (m_var 13) (m_lc (own := [("at", 16)]) (t := (.name 16)) (u := bYes) (f := (eOp gAdd (eOp gMul (eC (.int 4)) (eVar 16)) (eC (.int 1)))) (by decide) rfl scLaw.nd (mi_seq (m_var 10)) (blkOk_by (own := [("at", 16)]) (N := ["script", "tape", "words", "blocks", "roots", "given", "handed", "told", "space", "moved", "begins", "pairs", "olds", "news", "k", "pair", "at"]) (sc := defScope sLaw) (by decide +kernel)) (fun _ _ _ _ _ => (pg_name (i := 16) scLaw.nd rfl (.inl rfl))) (fun _ _ _ _ _ => mts_nil) (fun _ _ _ _ _ => (m_op op_addA f_add (m_op op_mulA f_mul m_int (m_var 16)) m_int))) (nomark _))))) (mss_one (ms_ret m_bl)) mss_nil)
    (mss_one (ms_ret (m_cmp (op_eqA hr.units) f_eq (m_callB call_lenA f_len rfl nb_len (by decide +kernel) (ma_cons (m_var 11) ma_nil)) (m_callB call_lenA f_len rfl nb_len (by decide +kernel) (ma_cons (m_var 10) ma_nil)) (nomark _))))))))))))))))))))
end K73

set_option Elab.async false
set_option linter.all false
set_option maxRecDepth 100000
namespace K73
open PySem PySem.Spec PyProof.Rows L2 Mir Cg
/-! ### pairs of ints -/
def pr (p : Int × Int) : W := .tup [.int p.1, .int p.2]
def wp2 (l : List (Int × Int)) : List W := l.map pr
def dp (p : Int × Int) : PyData := .tuple [.int p.1, .int p.2]
theorem any_pairs (a b : Int) : ∀ l : List (Int × Int), (l.map dp).any (fun z => PyData.eqv z (.tuple [.int a, .int b])) = decide ((a, b) ∈ l)
  | [] => rfl
  | (x, y) :: r => by
    rw [List.map_cons, List.any_cons, any_pairs a b r]
    simp only [dp, PyData.eqv, PyData.eqvAll, Bool.and_true]
    by_cases h1 : x = a
    · by_cases h2 : y = b
      · subst h1; subst h2; simp
      · have : ¬ (a, b) = (x, y) := fun e => h2 (Prod.mk.inj e).2.symm
        simp [h2, this]
    · have : ¬ (a, b) = (x, y) := fun e => h1 (Prod.mk.inj e).1.symm
      simp [h1, this]
theorem lay_pairs : ∀ l : List (Int × Int), PyData.canLayAll0 (l.map dp) = true
  | [] => rfl
  | (x, y) :: r => by simp only [List.map_cons, dp, PyData.canLayAll0, PyData.canLay0, lay_pairs r, Bool.and_self]
theorem dep_pairs : ∀ l : List (Int × Int), PyData.depthAll (l.map dp) ≤ 3
  | [] => by simp [PyData.depthAll]
  | (x, y) :: r => by
    have := dep_pairs r
    simp only [List.map_cons, dp, PyData.depthAll, PyData.depth]
    omega
theorem mapM_pairs (s : Sto) : ∀ l : List (Int × Int), (wp2 l).mapM (pyS s 2) = some (l.map dp)
  | [] => rfl
  | (x, y) :: r => by
    rw [wp2, List.map_cons, List.mapM_cons]
    have := mapM_pairs s r
    rw [wp2] at this
    rw [this]
    rfl
theorem inPairs {a b : Int} {l : List (Int × Int)} {q : Nat} {s : Sto} (h : s[q]? = some (.lst (wp2 l))) : gNotIn (.tup [.int a, .int b]) (.ref q) s = some (.bl (!decide ((a, b) ∈ l)), s) := by
  have h1 : pyS s 3 (.tup [.int a, .int b]) = some (.tuple [.int a, .int b]) := rfl
  have h2 : pyS s 3 (.ref q) = some (.list (l.map dp)) := by simp only [pyS, h, mapM_pairs, Option.map_some]
  have h3 : SeqAt.shaped (.tuple [.int a, .int b]) = true := by
    simp only [SeqAt.shaped, PyData.canLay0, PyData.canLayAll0, PyData.depth, PyData.depthAll]; rfl
  have h4 : SeqAt.shaped (.list (l.map dp)) = true := by
    have := dep_pairs l
    have hd : (PyData.list (l.map dp)).depth ≤ 64 := by rw [PyData.depth]; omega
    simp only [SeqAt.shaped, PyData.canLay0, lay_pairs, Bool.true_and, decide_eq_true hd]
  have hf : flatW (.tup [.int a, .int b]) = false := rfl
  have e : insW s (.tup [.int a, .int b]) (.ref q) = datIn s (.tup [.int a, .int b]) (.ref q) := by
    simp only [insW, seqOf, h, hf, Bool.false_eq_true, false_and, if_false]
  simp only [gNotIn, e, datIn, h1, h2, h3, h4, and_self, if_true, any_pairs]
/-! ### where the blocks of the copy begin -/
theorem begins_ok {C : List Bk} {n : Nat} {s : Sto} {R : W → Sto → Prop} (hn : s[n]? = some (.lst (wi (flat C)))) (sm : Sm C)
    (h : ∀ q s', s'[q]? = some (.lst (wi (offs C))) → s.length ≤ q → Fr [] s s' → R (.ref q) s') : Wp (FLawBegins [.ref n] s) R := by
  have ln := gltn hn
  have fl := flat_le sm
  have hl : (wi (flat C)).length = (flat C).length := List.length_map _
  unfold FLawBegins
  rw [wp_mkF (by rfl)]
  unfold BLawBegins
  repeat first | with_reducible refine Eq.mpr wps_cons ?_ | with_reducible refine Eq.mpr wps_pass ?_ | with_reducible refine Eq.mpr wps_nil ?_ | with_reducible refine Eq.mpr wps_set ?_ | with_reducible refine Eq.mpr wps_do ?_ | with_reducible refine Eq.mpr wps_ret ?_ | with_reducible refine Eq.mpr wps_retN ?_ | with_reducible refine Eq.mpr wps_brk ?_ | with_reducible refine Eq.mpr wps_cnt ?_ | with_reducible refine Eq.mpr wps_if ?_ | with_reducible refine Eq.mpr wps_asg ?_ | with_reducible refine Eq.mpr wps_put ?_ | with_reducible refine Eq.mpr wps_dput ?_ | with_reducible refine Eq.mpr wps_aug ?_ | with_reducible refine Eq.mpr wps_par ?_ | with_reducible refine Eq.mpr wps_for ?_ | with_reducible refine Eq.mpr wps_wh ?_ | simp only [wp_bd, wp_lc, ql_nx, ql_ct, ql_bk, ql_rt, iSeq, iEnu, Mir.iRev, chkR, chkT, chkO, lstO, wp_some, wp_ite, wp_none, bd_some, eVar, eC, eOp, eUn, eFn, eMt, aNil, aCons, eTup, eLst, eAnd, eOr, eNot, eIf, eIsi, eChain, bTest, bTruth, bAnd, bOr, bNot, bYes, eSl, pNo, pAt, eDnew, eDin, eDget, eDget2, tgM_name, tgM_tup, tgMs_nil, tgMs_name, tgMs_tup, List.getElem?_cons_succ, List.getElem?_cons_zero, List.set_cons_succ, List.set_cons_zero, List.map_cons, List.map_nil, List.length_cons, List.length_nil, List.replicate, List.nil_append, List.cons_append, if_true, if_false, Bool.false_eq_true, Bool.true_eq_false, Nat.reduceAdd, Nat.reduceSub, Nat.reduceLeDiff, Nat.zero_add, Bool.not_true, Bool.not_false, ii, addI, subI, negI, int1, eqI, neI, eqS, neS, ix0, ix1, ix2, ix3, decide_eq_true_eq, Bool.not_eq_true', decide_eq_false_iff_not, truB, truN, keyI, keyS, lenT, wipeM]
  have n0 : (s ++ [O.lst []])[n]? = some (.lst (wi (flat C))) := gapp hn
  have q0 : (s ++ [O.lst []])[s.length]? = some (.lst (wi ((offs C).take 0))) := gnew
  have f0 : Fr [] s (s ++ [O.lst []]) := Fr.app
  generalize s ++ [O.lst []] = s0 at n0 q0 f0 ⊢
  generalize eq : s.length = q at *
  refine wp_rng1 ?_
  repeat first | with_reducible refine Eq.mpr wps_cons ?_ | with_reducible refine Eq.mpr wps_pass ?_ | with_reducible refine Eq.mpr wps_nil ?_ | with_reducible refine Eq.mpr wps_set ?_ | with_reducible refine Eq.mpr wps_do ?_ | with_reducible refine Eq.mpr wps_ret ?_ | with_reducible refine Eq.mpr wps_retN ?_ | with_reducible refine Eq.mpr wps_brk ?_ | with_reducible refine Eq.mpr wps_cnt ?_ | with_reducible refine Eq.mpr wps_if ?_ | with_reducible refine Eq.mpr wps_asg ?_ | with_reducible refine Eq.mpr wps_put ?_ | with_reducible refine Eq.mpr wps_dput ?_ | with_reducible refine Eq.mpr wps_aug ?_ | with_reducible refine Eq.mpr wps_par ?_ | with_reducible refine Eq.mpr wps_for ?_ | with_reducible refine Eq.mpr wps_wh ?_ | simp only [wp_bd, wp_lc, ql_nx, ql_ct, ql_bk, ql_rt, iSeq, iEnu, Mir.iRev, chkR, chkT, chkO, lstO, wp_some, wp_ite, wp_none, bd_some, eVar, eC, eOp, eUn, eFn, eMt, aNil, aCons, eTup, eLst, eAnd, eOr, eNot, eIf, eIsi, eChain, bTest, bTruth, bAnd, bOr, bNot, bYes, eSl, pNo, pAt, eDnew, eDin, eDget, eDget2, tgM_name, tgM_tup, tgMs_nil, tgMs_name, tgMs_tup, List.getElem?_cons_succ, List.getElem?_cons_zero, List.set_cons_succ, List.set_cons_zero, List.map_cons, List.map_nil, List.length_cons, List.length_nil, List.replicate, List.nil_append, List.cons_append, if_true, if_false, Bool.false_eq_true, Bool.true_eq_false, Nat.reduceAdd, Nat.reduceSub, Nat.reduceLeDiff, Nat.zero_add, Bool.not_true, Bool.not_false, ii, addI, subI, negI, int1, eqI, neI, eqS, neS, ix0, ix1, ix2, ix3, decide_eq_true_eq, Bool.not_eq_true', decide_eq_false_iff_not, truB, truN, keyI, keyS, lenT, wipeM, lenL n0, hl]
  refine ⟨(flat C).length + 1, by rw [show ((flat C).length : Int) + 1 = (((flat C).length + 1 : Nat) : Int) by omega], by omega, ?_⟩
  refine wp_fo (fun k ρ s' => k ≤ C.length ∧ ∃ x3, ρ = [some (.ref n), some (.ref q), some (.int (off C k : Int)), x3] ∧ s'[q]? = some (.lst (wi ((offs C).take k))) ∧ Fr [q] s0 s') _ 0 _ _ ?_ ?_ ?_
  · exact ⟨Nat.zero_le _, none, rfl, q0, Fr.refl⟩
  · rintro k y ρ s1 hy ⟨hk, x3, rfl, q1, f1⟩
    rw [Nat.zero_add] at hk q1 ⊢
    refine ⟨trivial, _, rfl, ?_⟩
    have n1 := f1.at_ _ _ (by simp; omega) n0
    repeat first | with_reducible refine Eq.mpr wps_cons ?_ | with_reducible refine Eq.mpr wps_pass ?_ | with_reducible refine Eq.mpr wps_nil ?_ | with_reducible refine Eq.mpr wps_set ?_ | with_reducible refine Eq.mpr wps_do ?_ | with_reducible refine Eq.mpr wps_ret ?_ | with_reducible refine Eq.mpr wps_retN ?_ | with_reducible refine Eq.mpr wps_brk ?_ | with_reducible refine Eq.mpr wps_cnt ?_ | with_reducible refine Eq.mpr wps_if ?_ | with_reducible refine Eq.mpr wps_asg ?_ | with_reducible refine Eq.mpr wps_put ?_ | with_reducible refine Eq.mpr wps_dput ?_ | with_reducible refine Eq.mpr wps_aug ?_ | with_reducible refine Eq.mpr wps_par ?_ | with_reducible refine Eq.mpr wps_for ?_ | with_reducible refine Eq.mpr wps_wh ?_ | simp only [wp_bd, wp_lc, ql_nx, ql_ct, ql_bk, ql_rt, iSeq, iEnu, Mir.iRev, chkR, chkT, chkO, lstO, wp_some, wp_ite, wp_none, bd_some, eVar, eC, eOp, eUn, eFn, eMt, aNil, aCons, eTup, eLst, eAnd, eOr, eNot, eIf, eIsi, eChain, bTest, bTruth, bAnd, bOr, bNot, bYes, eSl, pNo, pAt, eDnew, eDin, eDget, eDget2, tgM_name, tgM_tup, tgMs_nil, tgMs_name, tgMs_tup, List.getElem?_cons_succ, List.getElem?_cons_zero, List.set_cons_succ, List.set_cons_zero, List.map_cons, List.map_nil, List.length_cons, List.length_nil, List.replicate, List.nil_append, List.cons_append, if_true, if_false, Bool.false_eq_true, Bool.true_eq_false, Nat.reduceAdd, Nat.reduceSub, Nat.reduceLeDiff, Nat.zero_add, Bool.not_true, Bool.not_false, ii, addI, subI, negI, int1, eqI, neI, eqS, neS, ix0, ix1, ix2, ix3, decide_eq_true_eq, Bool.not_eq_true', decide_eq_false_iff_not, truB, truN, keyI, keyS, lenT, wipeM, lenL n1, hl]
    by_cases hkl : k = C.length
    · subst hkl
      rw [off_all]
      rw [if_pos rfl]
      repeat first | with_reducible refine Eq.mpr wps_cons ?_ | with_reducible refine Eq.mpr wps_pass ?_ | with_reducible refine Eq.mpr wps_nil ?_ | with_reducible refine Eq.mpr wps_set ?_ | with_reducible refine Eq.mpr wps_do ?_ | with_reducible refine Eq.mpr wps_ret ?_ | with_reducible refine Eq.mpr wps_retN ?_ | with_reducible refine Eq.mpr wps_brk ?_ | with_reducible refine Eq.mpr wps_cnt ?_ | with_reducible refine Eq.mpr wps_if ?_ | with_reducible refine Eq.mpr wps_asg ?_ | with_reducible refine Eq.mpr wps_put ?_ | with_reducible refine Eq.mpr wps_dput ?_ | with_reducible refine Eq.mpr wps_aug ?_ | with_reducible refine Eq.mpr wps_par ?_ | with_reducible refine Eq.mpr wps_for ?_ | with_reducible refine Eq.mpr wps_wh ?_ | simp only [wp_bd, wp_lc, ql_nx, ql_ct, ql_bk, ql_rt, iSeq, iEnu, Mir.iRev, chkR, chkT, chkO, lstO, wp_some, wp_ite, wp_none, bd_some, eVar, eC, eOp, eUn, eFn, eMt, aNil, aCons, eTup, eLst, eAnd, eOr, eNot, eIf, eIsi, eChain, bTest, bTruth, bAnd, bOr, bNot, bYes, eSl, pNo, pAt, eDnew, eDin, eDget, eDget2, tgM_name, tgM_tup, tgMs_nil, tgMs_name, tgMs_tup, List.getElem?_cons_succ, List.getElem?_cons_zero, List.set_cons_succ, List.set_cons_zero, List.map_cons, List.map_nil, List.length_cons, List.length_nil, List.replicate, List.nil_append, List.cons_append, if_true, if_false, Bool.false_eq_true, Bool.true_eq_false, Nat.reduceAdd, Nat.reduceSub, Nat.reduceLeDiff, Nat.zero_add, Bool.not_true, Bool.not_false, ii, addI, subI, negI, int1, eqI, neI, eqS, neS, ix0, ix1, ix2, ix3, decide_eq_true_eq, Bool.not_eq_true', decide_eq_false_iff_not, truB, truN, keyI, keyS, lenT, wipeM]
      refine h q s1 ?_ (Nat.le_refl _) ?_
      · rw [q1, List.take_of_length_le (by rw [offs_len]; exact Nat.le_refl _)]
      · exact Fr.new (L' := [q]) f0 (by simpa using f1) (fun i hi => by simp at hi; omega)
    · have hkl : k < C.length := by omega
      have hx := bat_eq hkl
      have he := off_end hx
      have hp := sz_pos (bat C k)
      rw [if_neg (by omega)]
      have e3 : (off C k : Int) + 3 = ((off C k + 3 : Nat) : Int) := by omega
      have ib : isiT "int" "int" = true := by decide
      repeat first | with_reducible refine Eq.mpr wps_cons ?_ | with_reducible refine Eq.mpr wps_pass ?_ | with_reducible refine Eq.mpr wps_nil ?_ | with_reducible refine Eq.mpr wps_set ?_ | with_reducible refine Eq.mpr wps_do ?_ | with_reducible refine Eq.mpr wps_ret ?_ | with_reducible refine Eq.mpr wps_retN ?_ | with_reducible refine Eq.mpr wps_brk ?_ | with_reducible refine Eq.mpr wps_cnt ?_ | with_reducible refine Eq.mpr wps_if ?_ | with_reducible refine Eq.mpr wps_asg ?_ | with_reducible refine Eq.mpr wps_put ?_ | with_reducible refine Eq.mpr wps_dput ?_ | with_reducible refine Eq.mpr wps_aug ?_ | with_reducible refine Eq.mpr wps_par ?_ | with_reducible refine Eq.mpr wps_for ?_ | with_reducible refine Eq.mpr wps_wh ?_ | simp only [wp_bd, wp_lc, ql_nx, ql_ct, ql_bk, ql_rt, iSeq, iEnu, Mir.iRev, chkR, chkT, chkO, lstO, wp_some, wp_ite, wp_none, bd_some, eVar, eC, eOp, eUn, eFn, eMt, aNil, aCons, eTup, eLst, eAnd, eOr, eNot, eIf, eIsi, eChain, bTest, bTruth, bAnd, bOr, bNot, bYes, eSl, pNo, pAt, eDnew, eDin, eDget, eDget2, tgM_name, tgM_tup, tgMs_nil, tgMs_name, tgMs_tup, List.getElem?_cons_succ, List.getElem?_cons_zero, List.set_cons_succ, List.set_cons_zero, List.map_cons, List.map_nil, List.length_cons, List.length_nil, List.replicate, List.nil_append, List.cons_append, if_true, if_false, Bool.false_eq_true, Bool.true_eq_false, Nat.reduceAdd, Nat.reduceSub, Nat.reduceLeDiff, Nat.zero_add, Bool.not_true, Bool.not_false, ii, addI, subI, negI, int1, eqI, neI, eqS, neS, ix0, ix1, ix2, ix3, decide_eq_true_eq, Bool.not_eq_true', decide_eq_false_iff_not, truB, truN, keyI, keyS, lenT, wipeM, lenL n1, hl]
      rw [if_neg (by omega)]
      repeat first | with_reducible refine Eq.mpr wps_cons ?_ | with_reducible refine Eq.mpr wps_pass ?_ | with_reducible refine Eq.mpr wps_nil ?_ | with_reducible refine Eq.mpr wps_set ?_ | with_reducible refine Eq.mpr wps_do ?_ | with_reducible refine Eq.mpr wps_ret ?_ | with_reducible refine Eq.mpr wps_retN ?_ | with_reducible refine Eq.mpr wps_brk ?_ | with_reducible refine Eq.mpr wps_cnt ?_ | with_reducible refine Eq.mpr wps_if ?_ | with_reducible refine Eq.mpr wps_asg ?_ | with_reducible refine Eq.mpr wps_put ?_ | with_reducible refine Eq.mpr wps_dput ?_ | with_reducible refine Eq.mpr wps_aug ?_ | with_reducible refine Eq.mpr wps_par ?_ | with_reducible refine Eq.mpr wps_for ?_ | with_reducible refine Eq.mpr wps_wh ?_ | simp only [wp_bd, wp_lc, ql_nx, ql_ct, ql_bk, ql_rt, iSeq, iEnu, Mir.iRev, chkR, chkT, chkO, lstO, wp_some, wp_ite, wp_none, bd_some, eVar, eC, eOp, eUn, eFn, eMt, aNil, aCons, eTup, eLst, eAnd, eOr, eNot, eIf, eIsi, eChain, bTest, bTruth, bAnd, bOr, bNot, bYes, eSl, pNo, pAt, eDnew, eDin, eDget, eDget2, tgM_name, tgM_tup, tgMs_nil, tgMs_name, tgMs_tup, List.getElem?_cons_succ, List.getElem?_cons_zero, List.set_cons_succ, List.set_cons_zero, List.map_cons, List.map_nil, List.length_cons, List.length_nil, List.replicate, List.nil_append, List.cons_append, if_true, if_false, Bool.false_eq_true, Bool.true_eq_false, Nat.reduceAdd, Nat.reduceSub, Nat.reduceLeDiff, Nat.zero_add, Bool.not_true, Bool.not_false, ii, addI, subI, negI, int1, eqI, neI, eqS, neS, ix0, ix1, ix2, ix3, decide_eq_true_eq, Bool.not_eq_true', decide_eq_false_iff_not, truB, truN, keyI, keyS, lenT, wipeM, e3, ixI n1 (cnt_at hx), tyW, ib]
      rw [if_neg (by omega)]
      have hq : (wi ((offs C).take k)).length ≤ 100000 := by
        rw [List.length_map, List.length_take]; have := sm.len; omega
      repeat first | with_reducible refine Eq.mpr wps_cons ?_ | with_reducible refine Eq.mpr wps_pass ?_ | with_reducible refine Eq.mpr wps_nil ?_ | with_reducible refine Eq.mpr wps_set ?_ | with_reducible refine Eq.mpr wps_do ?_ | with_reducible refine Eq.mpr wps_ret ?_ | with_reducible refine Eq.mpr wps_retN ?_ | with_reducible refine Eq.mpr wps_brk ?_ | with_reducible refine Eq.mpr wps_cnt ?_ | with_reducible refine Eq.mpr wps_if ?_ | with_reducible refine Eq.mpr wps_asg ?_ | with_reducible refine Eq.mpr wps_put ?_ | with_reducible refine Eq.mpr wps_dput ?_ | with_reducible refine Eq.mpr wps_aug ?_ | with_reducible refine Eq.mpr wps_par ?_ | with_reducible refine Eq.mpr wps_for ?_ | with_reducible refine Eq.mpr wps_wh ?_ | simp only [wp_bd, wp_lc, ql_nx, ql_ct, ql_bk, ql_rt, iSeq, iEnu, Mir.iRev, chkR, chkT, chkO, lstO, wp_some, wp_ite, wp_none, bd_some, eVar, eC, eOp, eUn, eFn, eMt, aNil, aCons, eTup, eLst, eAnd, eOr, eNot, eIf, eIsi, eChain, bTest, bTruth, bAnd, bOr, bNot, bYes, eSl, pNo, pAt, eDnew, eDin, eDget, eDget2, tgM_name, tgM_tup, tgMs_nil, tgMs_name, tgMs_tup, List.getElem?_cons_succ, List.getElem?_cons_zero, List.set_cons_succ, List.set_cons_zero, List.map_cons, List.map_nil, List.length_cons, List.length_nil, List.replicate, List.nil_append, List.cons_append, if_true, if_false, Bool.false_eq_true, Bool.true_eq_false, Nat.reduceAdd, Nat.reduceSub, Nat.reduceLeDiff, Nat.zero_add, Bool.not_true, Bool.not_false, ii, addI, subI, negI, int1, eqI, neI, eqS, neS, ix0, ix1, ix2, ix3, decide_eq_true_eq, Bool.not_eq_true', decide_eq_false_iff_not, truB, truN, keyI, keyS, lenT, wipeM, isLR q1, appL q1 hq]
      have e4 : wi ((offs C).take k) ++ [.int (off C k : Int)] = wi ((offs C).take (k + 1)) := by
        rw [List.take_add_one, offs_get hkl]; simp
      rw [e4]
      have n2 : (s1.set q (.lst (wi ((offs C).take (k + 1)))))[n]? = some (.lst (wi (flat C))) := by rw [getne (by omega)]; exact n1
      repeat first | with_reducible refine Eq.mpr wps_cons ?_ | with_reducible refine Eq.mpr wps_pass ?_ | with_reducible refine Eq.mpr wps_nil ?_ | with_reducible refine Eq.mpr wps_set ?_ | with_reducible refine Eq.mpr wps_do ?_ | with_reducible refine Eq.mpr wps_ret ?_ | with_reducible refine Eq.mpr wps_retN ?_ | with_reducible refine Eq.mpr wps_brk ?_ | with_reducible refine Eq.mpr wps_cnt ?_ | with_reducible refine Eq.mpr wps_if ?_ | with_reducible refine Eq.mpr wps_asg ?_ | with_reducible refine Eq.mpr wps_put ?_ | with_reducible refine Eq.mpr wps_dput ?_ | with_reducible refine Eq.mpr wps_aug ?_ | with_reducible refine Eq.mpr wps_par ?_ | with_reducible refine Eq.mpr wps_for ?_ | with_reducible refine Eq.mpr wps_wh ?_ | simp only [wp_bd, wp_lc, ql_nx, ql_ct, ql_bk, ql_rt, iSeq, iEnu, Mir.iRev, chkR, chkT, chkO, lstO, wp_some, wp_ite, wp_none, bd_some, eVar, eC, eOp, eUn, eFn, eMt, aNil, aCons, eTup, eLst, eAnd, eOr, eNot, eIf, eIsi, eChain, bTest, bTruth, bAnd, bOr, bNot, bYes, eSl, pNo, pAt, eDnew, eDin, eDget, eDget2, tgM_name, tgM_tup, tgMs_nil, tgMs_name, tgMs_tup, List.getElem?_cons_succ, List.getElem?_cons_zero, List.set_cons_succ, List.set_cons_zero, List.map_cons, List.map_nil, List.length_cons, List.length_nil, List.replicate, List.nil_append, List.cons_append, if_true, if_false, Bool.false_eq_true, Bool.true_eq_false, Nat.reduceAdd, Nat.reduceSub, Nat.reduceLeDiff, Nat.zero_add, Bool.not_true, Bool.not_false, ii, addI, subI, negI, int1, eqI, neI, eqS, neS, ix0, ix1, ix2, ix3, decide_eq_true_eq, Bool.not_eq_true', decide_eq_false_iff_not, truB, truN, keyI, keyS, lenT, wipeM, e3, ixI n2 (cnt_at hx)]
      refine ⟨by omega, some y, ?_, getset q1, f1.trans (Fr.set (by simp))⟩
      have e5 : (off C k : Int) + 4 + ((bat C k).fs.length : Int) = (off C (k + 1) : Int) := by rw [off_step hx]; unfold Bk.sz; omega
      rw [e5]
  · rintro ρ s1 ⟨hk, x3, rfl, q1, f1⟩
    exfalso
    have h1 : C.length * 1 ≤ (flat C).length := by
      rw [flat_len]
      have : ∀ l : List Bk, l.length ≤ tot (l.map Bk.sz) := by
        intro l
        induction l with
        | nil => exact Nat.le_refl _
        | cons x r ih => rw [List.map_cons, tot, List.length_cons]; have := sz_pos x; omega
      have := this C
      omega
    simp at hk
    omega
theorem hd_cut {B : List Bk} {i : Nat} {x : Bk} (h : B[i]? = some x) : ((wi (flat B)).drop (off B i)).take (off B i + 4 - off B i) = wi x.hd := by
  rw [Nat.add_sub_cancel_left, ← List.map_drop, ← List.map_take]
  congr 1
  have h3 : ((flat B).drop (off B i)).take 4 = (((flat B).drop (off B i)).take x.sz).take 4 := by
    rw [List.take_take, Nat.min_eq_left (sz_pos x)]
  rw [h3, flat_cut h]
  rfl
def mj (ms : List Nat) (j : Nat) : Nat := (ms[j]?).getD 0
def pj (B C : List Bk) (ms : List Nat) (j : Nat) : Int × Int := (pw B (mj ms j), pw C j)
theorem zip_get {a b : List Int} {k : Nat} {x y : Int} (h1 : a[k]? = some x) (h2 : b[k]? = some y) : (List.zip a b)[k]? = some (x, y) := List.getElem?_zip_eq_some.mpr ⟨h1, h2⟩
theorem same_ok {B C : List Bk} {rt rt' : List Int} {ms : List Nat} {n c r k q : Nat} {s : Sto} {R : W → Sto → Prop} (hn : s[n]? = some (.lst (wi (flat B)))) (hc : s[c]? = some (.lst (wi (flat C)))) (hr : s[r]? = some (.lst (wi rt))) (hk : s[k]? = some (.lst (wi rt'))) (hq : s[q]? = some (.lst (wi (offs C)))) (sm : Sm B) (d : Don B rt ms C rt') (hl : rt.length ≤ 1000)
    (h : ∀ (PS : List Nat) (p : Nat) (s' : Sto), PS.Nodup → (∀ j, j ∈ PS ↔ j < C.length) → s'[p]? = some (.lst (wp2 (PS.map (pj B C ms)))) → s.length ≤ p → Fr [] s s' → R (.ref p) s') : Wp (FLawSame [.ref n, .ref c, .ref r, .ref k, .ref q] s) R := by
  have smC := Don.sm d sm
  have hs := d.sc.szs fun i hi => ((d.rch i).mp hi).lt
  have lns := gltn hn; have lcs := gltn hc; have lrs := gltn hr; have lks := gltn hk; have lqs := gltn hq
  unfold FLawSame
  rw [wp_mkF (by rfl)]
  unfold BLawSame
  repeat first | with_reducible refine Eq.mpr wps_cons ?_ | with_reducible refine Eq.mpr wps_pass ?_ | with_reducible refine Eq.mpr wps_nil ?_ | with_reducible refine Eq.mpr wps_set ?_ | with_reducible refine Eq.mpr wps_do ?_ | with_reducible refine Eq.mpr wps_ret ?_ | with_reducible refine Eq.mpr wps_retN ?_ | with_reducible refine Eq.mpr wps_brk ?_ | with_reducible refine Eq.mpr wps_cnt ?_ | with_reducible refine Eq.mpr wps_if ?_ | with_reducible refine Eq.mpr wps_asg ?_ | with_reducible refine Eq.mpr wps_put ?_ | with_reducible refine Eq.mpr wps_dput ?_ | with_reducible refine Eq.mpr wps_aug ?_ | with_reducible refine Eq.mpr wps_par ?_ | with_reducible refine Eq.mpr wps_for ?_ | with_reducible refine Eq.mpr wps_wh ?_ | simp only [wp_bd, wp_lc, ql_nx, ql_ct, ql_bk, ql_rt, iSeq, iEnu, Mir.iRev, chkR, chkT, chkO, lstO, wp_some, wp_ite, wp_none, bd_some, eVar, eC, eOp, eUn, eFn, eMt, aNil, aCons, eTup, eLst, eAnd, eOr, eNot, eIf, eIsi, eChain, bTest, bTruth, bAnd, bOr, bNot, bYes, eSl, pNo, pAt, eDnew, eDin, eDget, eDget2, tgM_name, tgM_tup, tgMs_nil, tgMs_name, tgMs_tup, List.getElem?_cons_succ, List.getElem?_cons_zero, List.set_cons_succ, List.set_cons_zero, List.map_cons, List.map_nil, List.length_cons, List.length_nil, List.replicate, List.nil_append, List.cons_append, if_true, if_false, Bool.false_eq_true, Bool.true_eq_false, Nat.reduceAdd, Nat.reduceSub, Nat.reduceLeDiff, Nat.zero_add, Bool.not_true, Bool.not_false, ii, addI, subI, negI, int1, eqI, neI, eqS, neS, ix0, ix1, ix2, ix3, decide_eq_true_eq, Bool.not_eq_true', decide_eq_false_iff_not, truB, truN, keyI, keyS, lenT, wipeM]
  have n0 : (s ++ [O.lst []])[n]? = some (.lst (wi (flat B))) := gapp hn
  have c0 : (s ++ [O.lst []])[c]? = some (.lst (wi (flat C))) := gapp hc
  have r0 : (s ++ [O.lst []])[r]? = some (.lst (wi rt)) := gapp hr
  have k0 : (s ++ [O.lst []])[k]? = some (.lst (wi rt')) := gapp hk
  have q0 : (s ++ [O.lst []])[q]? = some (.lst (wi (offs C))) := gapp hq
  have p0 : (s ++ [O.lst []])[s.length]? = some (.lst (wp2 (([] : List Nat).map (pj B C ms)))) := gnew
  have f0 : Fr [] s (s ++ [O.lst []]) := Fr.app
  have l0 : (s ++ [O.lst []]).length = s.length + 1 := by simp
  generalize s ++ [O.lst []] = s0 at n0 c0 r0 k0 q0 p0 f0 l0 ⊢
  generalize ep : s.length = p at *
  refine wp_rng1 ?_
  have hll : (wi rt).length = rt.length := List.length_map _
  repeat first | with_reducible refine Eq.mpr wps_cons ?_ | with_reducible refine Eq.mpr wps_pass ?_ | with_reducible refine Eq.mpr wps_nil ?_ | with_reducible refine Eq.mpr wps_set ?_ | with_reducible refine Eq.mpr wps_do ?_ | with_reducible refine Eq.mpr wps_ret ?_ | with_reducible refine Eq.mpr wps_retN ?_ | with_reducible refine Eq.mpr wps_brk ?_ | with_reducible refine Eq.mpr wps_cnt ?_ | with_reducible refine Eq.mpr wps_if ?_ | with_reducible refine Eq.mpr wps_asg ?_ | with_reducible refine Eq.mpr wps_put ?_ | with_reducible refine Eq.mpr wps_dput ?_ | with_reducible refine Eq.mpr wps_aug ?_ | with_reducible refine Eq.mpr wps_par ?_ | with_reducible refine Eq.mpr wps_for ?_ | with_reducible refine Eq.mpr wps_wh ?_ | simp only [wp_bd, wp_lc, ql_nx, ql_ct, ql_bk, ql_rt, iSeq, iEnu, Mir.iRev, chkR, chkT, chkO, lstO, wp_some, wp_ite, wp_none, bd_some, eVar, eC, eOp, eUn, eFn, eMt, aNil, aCons, eTup, eLst, eAnd, eOr, eNot, eIf, eIsi, eChain, bTest, bTruth, bAnd, bOr, bNot, bYes, eSl, pNo, pAt, eDnew, eDin, eDget, eDget2, tgM_name, tgM_tup, tgMs_nil, tgMs_name, tgMs_tup, List.getElem?_cons_succ, List.getElem?_cons_zero, List.set_cons_succ, List.set_cons_zero, List.map_cons, List.map_nil, List.length_cons, List.length_nil, List.replicate, List.nil_append, List.cons_append, if_true, if_false, Bool.false_eq_true, Bool.true_eq_false, Nat.reduceAdd, Nat.reduceSub, Nat.reduceLeDiff, Nat.zero_add, Bool.not_true, Bool.not_false, ii, addI, subI, negI, int1, eqI, neI, eqS, neS, ix0, ix1, ix2, ix3, decide_eq_true_eq, Bool.not_eq_true', decide_eq_false_iff_not, truB, truN, keyI, keyS, lenT, wipeM, lenL r0, hll]
  refine ⟨rt.length, rfl, by omega, by simp; omega, ?_⟩
  have zl : (List.zip rt rt').length = rt.length := by rw [List.length_zip, d.len, Nat.min_self]
  refine wp_lcf (fun i acc s' => s' = s0 ∧ acc = wp2 ((List.zip rt rt').take i)) _ 0 [] s0 ⟨rfl, rfl⟩ ?_ ?_
  · rintro i y acc s' hy ⟨rfl, rfl⟩
    refine ⟨trivial, _, rfl, ?_⟩
    have hi : i < rt.length := by have := (List.getElem?_eq_some_iff.mp hy).1; simp at this; exact this
    rw [List.getElem?_map, List.getElem?_range hi] at hy
    obtain rfl := (Option.some.inj hy).symm
    have e1 := List.getElem?_eq_getElem hi
    have e2 := List.getElem?_eq_getElem (l := rt') (i := i) (by rw [d.len]; exact hi)
    repeat first | with_reducible refine Eq.mpr wps_cons ?_ | with_reducible refine Eq.mpr wps_pass ?_ | with_reducible refine Eq.mpr wps_nil ?_ | with_reducible refine Eq.mpr wps_set ?_ | with_reducible refine Eq.mpr wps_do ?_ | with_reducible refine Eq.mpr wps_ret ?_ | with_reducible refine Eq.mpr wps_retN ?_ | with_reducible refine Eq.mpr wps_brk ?_ | with_reducible refine Eq.mpr wps_cnt ?_ | with_reducible refine Eq.mpr wps_if ?_ | with_reducible refine Eq.mpr wps_asg ?_ | with_reducible refine Eq.mpr wps_put ?_ | with_reducible refine Eq.mpr wps_dput ?_ | with_reducible refine Eq.mpr wps_aug ?_ | with_reducible refine Eq.mpr wps_par ?_ | with_reducible refine Eq.mpr wps_for ?_ | with_reducible refine Eq.mpr wps_wh ?_ | simp only [wp_bd, wp_lc, ql_nx, ql_ct, ql_bk, ql_rt, iSeq, iEnu, Mir.iRev, chkR, chkT, chkO, lstO, wp_some, wp_ite, wp_none, bd_some, eVar, eC, eOp, eUn, eFn, eMt, aNil, aCons, eTup, eLst, eAnd, eOr, eNot, eIf, eIsi, eChain, bTest, bTruth, bAnd, bOr, bNot, bYes, eSl, pNo, pAt, eDnew, eDin, eDget, eDget2, tgM_name, tgM_tup, tgMs_nil, tgMs_name, tgMs_tup, List.getElem?_cons_succ, List.getElem?_cons_zero, List.set_cons_succ, List.set_cons_zero, List.map_cons, List.map_nil, List.length_cons, List.length_nil, List.replicate, List.nil_append, List.cons_append, if_true, if_false, Bool.false_eq_true, Bool.true_eq_false, Nat.reduceAdd, Nat.reduceSub, Nat.reduceLeDiff, Nat.zero_add, Bool.not_true, Bool.not_false, ii, addI, subI, negI, int1, eqI, neI, eqS, neS, ix0, ix1, ix2, ix3, decide_eq_true_eq, Bool.not_eq_true', decide_eq_false_iff_not, truB, truN, keyI, keyS, lenT, wipeM, ixI r0 e1, ixI k0 e2]
    refine ⟨trivial, ?_⟩
    rw [List.take_add_one, zip_get e1 e2]
    simp [wp2, pr]
  rintro acc s' ⟨rfl, rfl⟩
  refine ⟨trivial, fun ws e => ?_⟩
  rw [List.nil_append, Nat.zero_add, List.take_of_length_le (by simp [zl])] at e
  subst e
  repeat first | with_reducible refine Eq.mpr wps_cons ?_ | with_reducible refine Eq.mpr wps_pass ?_ | with_reducible refine Eq.mpr wps_nil ?_ | with_reducible refine Eq.mpr wps_set ?_ | with_reducible refine Eq.mpr wps_do ?_ | with_reducible refine Eq.mpr wps_ret ?_ | with_reducible refine Eq.mpr wps_retN ?_ | with_reducible refine Eq.mpr wps_brk ?_ | with_reducible refine Eq.mpr wps_cnt ?_ | with_reducible refine Eq.mpr wps_if ?_ | with_reducible refine Eq.mpr wps_asg ?_ | with_reducible refine Eq.mpr wps_put ?_ | with_reducible refine Eq.mpr wps_dput ?_ | with_reducible refine Eq.mpr wps_aug ?_ | with_reducible refine Eq.mpr wps_par ?_ | with_reducible refine Eq.mpr wps_for ?_ | with_reducible refine Eq.mpr wps_wh ?_ | simp only [wp_bd, wp_lc, ql_nx, ql_ct, ql_bk, ql_rt, iSeq, iEnu, Mir.iRev, chkR, chkT, chkO, lstO, wp_some, wp_ite, wp_none, bd_some, eVar, eC, eOp, eUn, eFn, eMt, aNil, aCons, eTup, eLst, eAnd, eOr, eNot, eIf, eIsi, eChain, bTest, bTruth, bAnd, bOr, bNot, bYes, eSl, pNo, pAt, eDnew, eDin, eDget, eDget2, tgM_name, tgM_tup, tgMs_nil, tgMs_name, tgMs_tup, List.getElem?_cons_succ, List.getElem?_cons_zero, List.set_cons_succ, List.set_cons_zero, List.map_cons, List.map_nil, List.length_cons, List.length_nil, List.replicate, List.nil_append, List.cons_append, if_true, if_false, Bool.false_eq_true, Bool.true_eq_false, Nat.reduceAdd, Nat.reduceSub, Nat.reduceLeDiff, Nat.zero_add, Bool.not_true, Bool.not_false, ii, addI, subI, negI, int1, eqI, neI, eqS, neS, ix0, ix1, ix2, ix3, decide_eq_true_eq, Bool.not_eq_true', decide_eq_false_iff_not, truB, truN, keyI, keyS, lenT, wipeM, l0]
  have n1 := gapp (t := [O.lst (wp2 (List.zip rt rt'))]) n0
  have c1 := gapp (t := [O.lst (wp2 (List.zip rt rt'))]) c0
  have q1 := gapp (t := [O.lst (wp2 (List.zip rt rt'))]) q0
  have p1 := gapp (t := [O.lst (wp2 (List.zip rt rt'))]) p0
  have t1 : (s' ++ [O.lst (wp2 (List.zip rt rt'))])[p + 1]? = some (.lst (wp2 (List.zip rt rt'))) := by rw [← l0]; exact gnew
  have f1 : Fr [] s (s' ++ [O.lst (wp2 (List.zip rt rt'))]) := f0.trans Fr.app
  clear n0 c0 r0 k0 q0 p0 f0
  generalize s' ++ [O.lst (wp2 (List.zip rt rt'))] = s1 at n1 c1 q1 p1 t1 f1 ⊢
  refine wp_wh (fun m ρ s' => ∃ (S : List Nat) (T : List (Int × Int)) (x7 x8 x9 x10 : Option W), ρ = [some (.ref n), some (.ref c), some (.ref r), some (.ref k), some (.ref q), some (.ref p), some (.ref (p + 1)), x7, x8, x9, x10, none, none] ∧ m = (C.length - S.length) * 97 + T.length ∧ S.Nodup ∧ (∀ j ∈ S, j < C.length) ∧ (∀ v ∈ T, Fwd B ms v.1 v.2) ∧ (∀ v ∈ List.zip rt rt', ∀ j, Ptr C v.2 j → j ∈ S ∨ v ∈ T) ∧ (∀ j ∈ S, ∀ v ∈ List.zip (bat B (mj ms j)).fs (bat C j).fs, ∀ j', Ptr C v.2 j' → j' ∈ S ∨ v ∈ T) ∧ s'[p]? = some (.lst (wp2 (S.map (pj B C ms)))) ∧ s'[p + 1]? = some (.lst (wp2 T)) ∧ Fr [p, p + 1] s1 s' ∧ T.length ≤ 1000 + S.length * 96) ?_ 100000 (C.length * 97 + rt.length) _ _ (by have := smC.len; omega) ?_
  · rintro m ρ s2 ⟨S, T, x7, x8, x9, x10, rfl, hm, nd, lt, tg, cr, cf, p2, t2, f2, ht⟩
    have n2 := f2.at_ _ _ (by simp; omega) n1
    have c2 := f2.at_ _ _ (by simp; omega) c1
    have q2 := f2.at_ _ _ (by simp; omega) q1
    have hSl := nd_len nd lt
    have htl : (wp2 T).length = T.length := List.length_map _
    repeat first | with_reducible refine Eq.mpr wps_cons ?_ | with_reducible refine Eq.mpr wps_pass ?_ | with_reducible refine Eq.mpr wps_nil ?_ | with_reducible refine Eq.mpr wps_set ?_ | with_reducible refine Eq.mpr wps_do ?_ | with_reducible refine Eq.mpr wps_ret ?_ | with_reducible refine Eq.mpr wps_retN ?_ | with_reducible refine Eq.mpr wps_brk ?_ | with_reducible refine Eq.mpr wps_cnt ?_ | with_reducible refine Eq.mpr wps_if ?_ | with_reducible refine Eq.mpr wps_asg ?_ | with_reducible refine Eq.mpr wps_put ?_ | with_reducible refine Eq.mpr wps_dput ?_ | with_reducible refine Eq.mpr wps_aug ?_ | with_reducible refine Eq.mpr wps_par ?_ | with_reducible refine Eq.mpr wps_for ?_ | with_reducible refine Eq.mpr wps_wh ?_ | simp only [wp_bd, wp_lc, ql_nx, ql_ct, ql_bk, ql_rt, iSeq, iEnu, Mir.iRev, chkR, chkT, chkO, lstO, wp_some, wp_ite, wp_none, bd_some, eVar, eC, eOp, eUn, eFn, eMt, aNil, aCons, eTup, eLst, eAnd, eOr, eNot, eIf, eIsi, eChain, bTest, bTruth, bAnd, bOr, bNot, bYes, eSl, pNo, pAt, eDnew, eDin, eDget, eDget2, tgM_name, tgM_tup, tgMs_nil, tgMs_name, tgMs_tup, List.getElem?_cons_succ, List.getElem?_cons_zero, List.set_cons_succ, List.set_cons_zero, List.map_cons, List.map_nil, List.length_cons, List.length_nil, List.replicate, List.nil_append, List.cons_append, if_true, if_false, Bool.false_eq_true, Bool.true_eq_false, Nat.reduceAdd, Nat.reduceSub, Nat.reduceLeDiff, Nat.zero_add, Bool.not_true, Bool.not_false, ii, addI, subI, negI, int1, eqI, neI, eqS, neS, ix0, ix1, ix2, ix3, decide_eq_true_eq, Bool.not_eq_true', decide_eq_false_iff_not, truB, truN, keyI, keyS, lenT, wipeM, lenL t2, htl]
    rcases List.eq_nil_or_concat T with rfl | ⟨T', v, rfl⟩
    · rw [if_neg (by simp)]
      repeat first | with_reducible refine Eq.mpr wps_cons ?_ | with_reducible refine Eq.mpr wps_pass ?_ | with_reducible refine Eq.mpr wps_nil ?_ | with_reducible refine Eq.mpr wps_set ?_ | with_reducible refine Eq.mpr wps_do ?_ | with_reducible refine Eq.mpr wps_ret ?_ | with_reducible refine Eq.mpr wps_retN ?_ | with_reducible refine Eq.mpr wps_brk ?_ | with_reducible refine Eq.mpr wps_cnt ?_ | with_reducible refine Eq.mpr wps_if ?_ | with_reducible refine Eq.mpr wps_asg ?_ | with_reducible refine Eq.mpr wps_put ?_ | with_reducible refine Eq.mpr wps_dput ?_ | with_reducible refine Eq.mpr wps_aug ?_ | with_reducible refine Eq.mpr wps_par ?_ | with_reducible refine Eq.mpr wps_for ?_ | with_reducible refine Eq.mpr wps_wh ?_ | simp only [wp_bd, wp_lc, ql_nx, ql_ct, ql_bk, ql_rt, iSeq, iEnu, Mir.iRev, chkR, chkT, chkO, lstO, wp_some, wp_ite, wp_none, bd_some, eVar, eC, eOp, eUn, eFn, eMt, aNil, aCons, eTup, eLst, eAnd, eOr, eNot, eIf, eIsi, eChain, bTest, bTruth, bAnd, bOr, bNot, bYes, eSl, pNo, pAt, eDnew, eDin, eDget, eDget2, tgM_name, tgM_tup, tgMs_nil, tgMs_name, tgMs_tup, List.getElem?_cons_succ, List.getElem?_cons_zero, List.set_cons_succ, List.set_cons_zero, List.map_cons, List.map_nil, List.length_cons, List.length_nil, List.replicate, List.nil_append, List.cons_append, if_true, if_false, Bool.false_eq_true, Bool.true_eq_false, Nat.reduceAdd, Nat.reduceSub, Nat.reduceLeDiff, Nat.zero_add, Bool.not_true, Bool.not_false, ii, addI, subI, negI, int1, eqI, neI, eqS, neS, ix0, ix1, ix2, ix3, decide_eq_true_eq, Bool.not_eq_true', decide_eq_false_iff_not, truB, truN, keyI, keyS, lenT, wipeM]
      refine h S p s2 nd (fun j => ⟨lt j, fun hj => ?_⟩) p2 (by omega) (Fr.new (L' := [p, p + 1]) f1 (by simpa using f2) (fun i hi => by simp at hi; omega))
      refine Rch.sub (fun w hw j pt => ?_) (fun i hi x hx w hw j pt => ?_) (Don.again d hj)
      · obtain ⟨z, hz⟩ := List.mem_iff_getElem?.mp hw
        have hzl := (List.getElem?_eq_some_iff.mp hz).1
        have e1 := List.getElem?_eq_getElem (l := rt) (i := z) (by rw [← d.len]; exact hzl)
        rcases cr _ (List.mem_of_getElem? (zip_get e1 hz)) j pt with q | q
        · exact q
        · cases q
      · have ex : bat C i = x := by have := bat_eq (lt i hi); rw [hx] at this; exact (Option.some.inj this).symm
        have hil : i < ms.length := by rw [← d.sc.len]; exact lt i hi
        have em : ms[i]? = some (mj ms i) := by unfold mj; rw [List.getElem?_eq_getElem hil]; rfl
        obtain ⟨y, hy, hyl, _⟩ := Don.fld d em
        rw [hx] at hy; cases hy
        obtain ⟨z, hz⟩ := List.mem_iff_getElem?.mp hw
        have hzl := (List.getElem?_eq_some_iff.mp hz).1
        have e1 := List.getElem?_eq_getElem (l := (bat B (mj ms i)).fs) (i := z) (by omega)
        have := cf i hi _ (List.mem_of_getElem? (zip_get e1 (by rw [ex]; exact hz))) j pt
        rcases this with q | q
        · exact q
        · cases q
    · rw [List.concat_eq_append] at *
      obtain ⟨old, new⟩ := v
      rw [if_pos (by simp; try omega)]
      have t2' : s2[p + 1]? = some (.lst (wp2 T' ++ [.tup [.int old, .int new]])) := by rw [t2]; simp [wp2, pr]
      have ib : isiT "int" "int" = true := by decide
      have ibb : isiT "int" "bool" = false := by decide
      repeat first | with_reducible refine Eq.mpr wps_cons ?_ | with_reducible refine Eq.mpr wps_pass ?_ | with_reducible refine Eq.mpr wps_nil ?_ | with_reducible refine Eq.mpr wps_set ?_ | with_reducible refine Eq.mpr wps_do ?_ | with_reducible refine Eq.mpr wps_ret ?_ | with_reducible refine Eq.mpr wps_retN ?_ | with_reducible refine Eq.mpr wps_brk ?_ | with_reducible refine Eq.mpr wps_cnt ?_ | with_reducible refine Eq.mpr wps_if ?_ | with_reducible refine Eq.mpr wps_asg ?_ | with_reducible refine Eq.mpr wps_put ?_ | with_reducible refine Eq.mpr wps_dput ?_ | with_reducible refine Eq.mpr wps_aug ?_ | with_reducible refine Eq.mpr wps_par ?_ | with_reducible refine Eq.mpr wps_for ?_ | with_reducible refine Eq.mpr wps_wh ?_ | simp only [wp_bd, wp_lc, ql_nx, ql_ct, ql_bk, ql_rt, iSeq, iEnu, Mir.iRev, chkR, chkT, chkO, lstO, wp_some, wp_ite, wp_none, bd_some, eVar, eC, eOp, eUn, eFn, eMt, aNil, aCons, eTup, eLst, eAnd, eOr, eNot, eIf, eIsi, eChain, bTest, bTruth, bAnd, bOr, bNot, bYes, eSl, pNo, pAt, eDnew, eDin, eDget, eDget2, tgM_name, tgM_tup, tgMs_nil, tgMs_name, tgMs_tup, List.getElem?_cons_succ, List.getElem?_cons_zero, List.set_cons_succ, List.set_cons_zero, List.map_cons, List.map_nil, List.length_cons, List.length_nil, List.replicate, List.nil_append, List.cons_append, if_true, if_false, Bool.false_eq_true, Bool.true_eq_false, Nat.reduceAdd, Nat.reduceSub, Nat.reduceLeDiff, Nat.zero_add, Bool.not_true, Bool.not_false, ii, addI, subI, negI, int1, eqI, neI, eqS, neS, ix0, ix1, ix2, ix3, decide_eq_true_eq, Bool.not_eq_true', decide_eq_false_iff_not, truB, truN, keyI, keyS, lenT, wipeM, isLR t2, popL t2', tyW, ib, ibb]
      have p3 : (s2.set (p + 1) (.lst (wp2 T')))[p]? = some (.lst (wp2 (S.map (pj B C ms)))) := by rw [getne (by omega)]; exact p2
      have t3 : (s2.set (p + 1) (.lst (wp2 T')))[p + 1]? = some (.lst (wp2 T')) := getset t2
      have n3 : (s2.set (p + 1) (.lst (wp2 T')))[n]? = some (.lst (wi (flat B))) := by rw [getne (by omega)]; exact n2
      have c3 : (s2.set (p + 1) (.lst (wp2 T')))[c]? = some (.lst (wi (flat C))) := by rw [getne (by omega)]; exact c2
      have q3 : (s2.set (p + 1) (.lst (wp2 T')))[q]? = some (.lst (wi (offs C))) := by rw [getne (by omega)]; exact q2
      have f3 : Fr [p, p + 1] s1 (s2.set (p + 1) (.lst (wp2 T'))) := f2.trans (Fr.set (by simp))
      generalize s2.set (p + 1) (.lst (wp2 T')) = s3 at p3 t3 n3 c3 q3 f3 ⊢
      rw [List.length_append, List.length_singleton] at hm ht
      have fw : Fwd B ms old new := tg (old, new) (by simp)
      have keep : ∀ v, v ∈ T' ++ [(old, new)] → v ∈ T' ∨ v = (old, new) := fun v hv => by simpa using hv
      repeat first | with_reducible refine Eq.mpr wps_cons ?_ | with_reducible refine Eq.mpr wps_pass ?_ | with_reducible refine Eq.mpr wps_nil ?_ | with_reducible refine Eq.mpr wps_set ?_ | with_reducible refine Eq.mpr wps_do ?_ | with_reducible refine Eq.mpr wps_ret ?_ | with_reducible refine Eq.mpr wps_retN ?_ | with_reducible refine Eq.mpr wps_brk ?_ | with_reducible refine Eq.mpr wps_cnt ?_ | with_reducible refine Eq.mpr wps_if ?_ | with_reducible refine Eq.mpr wps_asg ?_ | with_reducible refine Eq.mpr wps_put ?_ | with_reducible refine Eq.mpr wps_dput ?_ | with_reducible refine Eq.mpr wps_aug ?_ | with_reducible refine Eq.mpr wps_par ?_ | with_reducible refine Eq.mpr wps_for ?_ | with_reducible refine Eq.mpr wps_wh ?_ | simp only [wp_bd, wp_lc, ql_nx, ql_ct, ql_bk, ql_rt, iSeq, iEnu, Mir.iRev, chkR, chkT, chkO, lstO, wp_some, wp_ite, wp_none, bd_some, eVar, eC, eOp, eUn, eFn, eMt, aNil, aCons, eTup, eLst, eAnd, eOr, eNot, eIf, eIsi, eChain, bTest, bTruth, bAnd, bOr, bNot, bYes, eSl, pNo, pAt, eDnew, eDin, eDget, eDget2, tgM_name, tgM_tup, tgMs_nil, tgMs_name, tgMs_tup, List.getElem?_cons_succ, List.getElem?_cons_zero, List.set_cons_succ, List.set_cons_zero, List.map_cons, List.map_nil, List.length_cons, List.length_nil, List.replicate, List.nil_append, List.cons_append, if_true, if_false, Bool.false_eq_true, Bool.true_eq_false, Nat.reduceAdd, Nat.reduceSub, Nat.reduceLeDiff, Nat.zero_add, Bool.not_true, Bool.not_false, ii, addI, subI, negI, int1, eqI, neI, eqS, neS, ix0, ix1, ix2, ix3, decide_eq_true_eq, Bool.not_eq_true', decide_eq_false_iff_not, truB, truN, keyI, keyS, lenT, wipeM, modR (i := old) (j := 4) (by decide), modR (i := new) (j := 4) (by decide), Bool.not_eq_true', decide_eq_false_iff_not]
      rcases fw with ⟨h4, rfl⟩ | ⟨i, j, po, hj, hnew⟩
      · have np : ∀ j, ¬ Ptr C new j := fun j pt => h4 pt.mod
        rw [if_pos h4]
        repeat first | with_reducible refine Eq.mpr wps_cons ?_ | with_reducible refine Eq.mpr wps_pass ?_ | with_reducible refine Eq.mpr wps_nil ?_ | with_reducible refine Eq.mpr wps_set ?_ | with_reducible refine Eq.mpr wps_do ?_ | with_reducible refine Eq.mpr wps_ret ?_ | with_reducible refine Eq.mpr wps_retN ?_ | with_reducible refine Eq.mpr wps_brk ?_ | with_reducible refine Eq.mpr wps_cnt ?_ | with_reducible refine Eq.mpr wps_if ?_ | with_reducible refine Eq.mpr wps_asg ?_ | with_reducible refine Eq.mpr wps_put ?_ | with_reducible refine Eq.mpr wps_dput ?_ | with_reducible refine Eq.mpr wps_aug ?_ | with_reducible refine Eq.mpr wps_par ?_ | with_reducible refine Eq.mpr wps_for ?_ | with_reducible refine Eq.mpr wps_wh ?_ | simp only [wp_bd, wp_lc, ql_nx, ql_ct, ql_bk, ql_rt, iSeq, iEnu, Mir.iRev, chkR, chkT, chkO, lstO, wp_some, wp_ite, wp_none, bd_some, eVar, eC, eOp, eUn, eFn, eMt, aNil, aCons, eTup, eLst, eAnd, eOr, eNot, eIf, eIsi, eChain, bTest, bTruth, bAnd, bOr, bNot, bYes, eSl, pNo, pAt, eDnew, eDin, eDget, eDget2, tgM_name, tgM_tup, tgMs_nil, tgMs_name, tgMs_tup, List.getElem?_cons_succ, List.getElem?_cons_zero, List.set_cons_succ, List.set_cons_zero, List.map_cons, List.map_nil, List.length_cons, List.length_nil, List.replicate, List.nil_append, List.cons_append, if_true, if_false, Bool.false_eq_true, Bool.true_eq_false, Nat.reduceAdd, Nat.reduceSub, Nat.reduceLeDiff, Nat.zero_add, Bool.not_true, Bool.not_false, ii, addI, subI, negI, int1, eqI, neI, eqS, neS, ix0, ix1, ix2, ix3, decide_eq_true_eq, Bool.not_eq_true', decide_eq_false_iff_not, truB, truN, keyI, keyS, lenT, wipeM, decide_true]
        refine ⟨(C.length - S.length) * 97 + T'.length, by omega, S, T', some (.int new), some (.int new), x9, x10, rfl, rfl, nd, lt, fun v hv => tg v (by simp [hv]), fun v hv j pt => ?_, fun j hj v hv j' pt => ?_, p3, t3, f3, by omega⟩
        · rcases cr v hv j pt with q | q
          · exact .inl q
          · rcases keep v q with q | q
            · exact .inr q
            · subst q; exact absurd pt (np _)
        · rcases cf j hj v hv j' pt with q | q
          · exact .inl q
          · rcases keep v q with q | q
            · exact .inr q
            · subst q; exact absurd pt (np _)
      · have hjl : j < C.length := by rw [d.sc.len]; exact (List.getElem?_eq_some_iff.mp hj).1
        have pn : Ptr C new j := ⟨hjl, by rw [hnew, noff_off hs]⟩
        have emj : mj ms j = i := by unfold mj; rw [hj]; rfl
        have epj : (old, new) = pj B C ms j := by unfold pj; rw [emj]; exact Prod.ext po.2 pn.2
        have ho4 := po.mod
        have hn4 := pn.mod
        rw [if_neg (by omega), if_neg (by omega)]
        repeat first | with_reducible refine Eq.mpr wps_cons ?_ | with_reducible refine Eq.mpr wps_pass ?_ | with_reducible refine Eq.mpr wps_nil ?_ | with_reducible refine Eq.mpr wps_set ?_ | with_reducible refine Eq.mpr wps_do ?_ | with_reducible refine Eq.mpr wps_ret ?_ | with_reducible refine Eq.mpr wps_retN ?_ | with_reducible refine Eq.mpr wps_brk ?_ | with_reducible refine Eq.mpr wps_cnt ?_ | with_reducible refine Eq.mpr wps_if ?_ | with_reducible refine Eq.mpr wps_asg ?_ | with_reducible refine Eq.mpr wps_put ?_ | with_reducible refine Eq.mpr wps_dput ?_ | with_reducible refine Eq.mpr wps_aug ?_ | with_reducible refine Eq.mpr wps_par ?_ | with_reducible refine Eq.mpr wps_for ?_ | with_reducible refine Eq.mpr wps_wh ?_ | simp only [wp_bd, wp_lc, ql_nx, ql_ct, ql_bk, ql_rt, iSeq, iEnu, Mir.iRev, chkR, chkT, chkO, lstO, wp_some, wp_ite, wp_none, bd_some, eVar, eC, eOp, eUn, eFn, eMt, aNil, aCons, eTup, eLst, eAnd, eOr, eNot, eIf, eIsi, eChain, bTest, bTruth, bAnd, bOr, bNot, bYes, eSl, pNo, pAt, eDnew, eDin, eDget, eDget2, tgM_name, tgM_tup, tgMs_nil, tgMs_name, tgMs_tup, List.getElem?_cons_succ, List.getElem?_cons_zero, List.set_cons_succ, List.set_cons_zero, List.map_cons, List.map_nil, List.length_cons, List.length_nil, List.replicate, List.nil_append, List.cons_append, if_true, if_false, Bool.false_eq_true, Bool.true_eq_false, Nat.reduceAdd, Nat.reduceSub, Nat.reduceLeDiff, Nat.zero_add, Bool.not_true, Bool.not_false, ii, addI, subI, negI, int1, eqI, neI, eqS, neS, ix0, ix1, ix2, ix3, decide_eq_true_eq, Bool.not_eq_true', decide_eq_false_iff_not, truB, truN, keyI, keyS, lenT, wipeM, inPairs p3]
        by_cases hin : (old, new) ∈ S.map (pj B C ms)
        · have hjS : j ∈ S := by
            obtain ⟨j', hj', e⟩ := List.mem_map.mp hin
            rw [epj] at e
            have : pw C j' = pw C j := (Prod.mk.inj e).2
            rw [← pw_inj (lt j' hj') hjl this]
            exact hj'
          rw [if_neg (by simpa using hin)]
          repeat first | with_reducible refine Eq.mpr wps_cons ?_ | with_reducible refine Eq.mpr wps_pass ?_ | with_reducible refine Eq.mpr wps_nil ?_ | with_reducible refine Eq.mpr wps_set ?_ | with_reducible refine Eq.mpr wps_do ?_ | with_reducible refine Eq.mpr wps_ret ?_ | with_reducible refine Eq.mpr wps_retN ?_ | with_reducible refine Eq.mpr wps_brk ?_ | with_reducible refine Eq.mpr wps_cnt ?_ | with_reducible refine Eq.mpr wps_if ?_ | with_reducible refine Eq.mpr wps_asg ?_ | with_reducible refine Eq.mpr wps_put ?_ | with_reducible refine Eq.mpr wps_dput ?_ | with_reducible refine Eq.mpr wps_aug ?_ | with_reducible refine Eq.mpr wps_par ?_ | with_reducible refine Eq.mpr wps_for ?_ | with_reducible refine Eq.mpr wps_wh ?_ | simp only [wp_bd, wp_lc, ql_nx, ql_ct, ql_bk, ql_rt, iSeq, iEnu, Mir.iRev, chkR, chkT, chkO, lstO, wp_some, wp_ite, wp_none, bd_some, eVar, eC, eOp, eUn, eFn, eMt, aNil, aCons, eTup, eLst, eAnd, eOr, eNot, eIf, eIsi, eChain, bTest, bTruth, bAnd, bOr, bNot, bYes, eSl, pNo, pAt, eDnew, eDin, eDget, eDget2, tgM_name, tgM_tup, tgMs_nil, tgMs_name, tgMs_tup, List.getElem?_cons_succ, List.getElem?_cons_zero, List.set_cons_succ, List.set_cons_zero, List.map_cons, List.map_nil, List.length_cons, List.length_nil, List.replicate, List.nil_append, List.cons_append, if_true, if_false, Bool.false_eq_true, Bool.true_eq_false, Nat.reduceAdd, Nat.reduceSub, Nat.reduceLeDiff, Nat.zero_add, Bool.not_true, Bool.not_false, ii, addI, subI, negI, int1, eqI, neI, eqS, neS, ix0, ix1, ix2, ix3, decide_eq_true_eq, Bool.not_eq_true', decide_eq_false_iff_not, truB, truN, keyI, keyS, lenT, wipeM]
          refine ⟨(C.length - S.length) * 97 + T'.length, by omega, S, T', some (.int old), some (.int new), x9, x10, rfl, rfl, nd, lt, fun v hv => tg v (by simp [hv]), fun v hv j' pt => ?_, fun j1 hj1 v hv j' pt => ?_, p3, t3, f3, by omega⟩
          · rcases cr v hv j' pt with q | q
            · exact .inl q
            · rcases keep v q with q | q
              · exact .inr q
              · subst q; rw [pt.uniq pn]; exact .inl hjS
          · rcases cf j1 hj1 v hv j' pt with q | q
            · exact .inl q
            · rcases keep v q with q | q
              · exact .inr q
              · subst q; rw [pt.uniq pn]; exact .inl hjS
        · have hjS : j ∉ S := fun z => hin (by rw [epj]; exact List.mem_map_of_mem z)
          rw [if_pos (by simpa using hin)]
          have nd' : (S ++ [j]).Nodup := by
            rw [List.nodup_append]
            refine ⟨nd, by simp, fun a ha b hb => ?_⟩
            rw [List.mem_singleton.mp hb]
            rintro rfl
            exact hjS ha
          have lt' : ∀ z ∈ S ++ [j], z < C.length := fun z hz => by
            rcases List.mem_append.mp hz with hz | hz
            · exact lt z hz
            · rw [List.mem_singleton.mp hz]; exact hjl
          have hSl' := nd_len nd' lt'
          rw [List.length_append, List.length_singleton] at hSl'
          have hbx := bat_eq po.1
          have hcx := bat_eq hjl
          obtain ⟨y, hy, hyh, hyl, hyf⟩ := d.sc.at_ j i hj
          rw [hcx] at hy; cases hy
          repeat first | with_reducible refine Eq.mpr wps_cons ?_ | with_reducible refine Eq.mpr wps_pass ?_ | with_reducible refine Eq.mpr wps_nil ?_ | with_reducible refine Eq.mpr wps_set ?_ | with_reducible refine Eq.mpr wps_do ?_ | with_reducible refine Eq.mpr wps_ret ?_ | with_reducible refine Eq.mpr wps_retN ?_ | with_reducible refine Eq.mpr wps_brk ?_ | with_reducible refine Eq.mpr wps_cnt ?_ | with_reducible refine Eq.mpr wps_if ?_ | with_reducible refine Eq.mpr wps_asg ?_ | with_reducible refine Eq.mpr wps_put ?_ | with_reducible refine Eq.mpr wps_dput ?_ | with_reducible refine Eq.mpr wps_aug ?_ | with_reducible refine Eq.mpr wps_par ?_ | with_reducible refine Eq.mpr wps_for ?_ | with_reducible refine Eq.mpr wps_wh ?_ | simp only [wp_bd, wp_lc, ql_nx, ql_ct, ql_bk, ql_rt, iSeq, iEnu, Mir.iRev, chkR, chkT, chkO, lstO, wp_some, wp_ite, wp_none, bd_some, eVar, eC, eOp, eUn, eFn, eMt, aNil, aCons, eTup, eLst, eAnd, eOr, eNot, eIf, eIsi, eChain, bTest, bTruth, bAnd, bOr, bNot, bYes, eSl, pNo, pAt, eDnew, eDin, eDget, eDget2, tgM_name, tgM_tup, tgMs_nil, tgMs_name, tgMs_tup, List.getElem?_cons_succ, List.getElem?_cons_zero, List.set_cons_succ, List.set_cons_zero, List.map_cons, List.map_nil, List.length_cons, List.length_nil, List.replicate, List.nil_append, List.cons_append, if_true, if_false, Bool.false_eq_true, Bool.true_eq_false, Nat.reduceAdd, Nat.reduceSub, Nat.reduceLeDiff, Nat.zero_add, Bool.not_true, Bool.not_false, ii, addI, subI, negI, int1, eqI, neI, eqS, neS, ix0, ix1, ix2, ix3, decide_eq_true_eq, Bool.not_eq_true', decide_eq_false_iff_not, truB, truN, keyI, keyS, lenT, wipeM, isLR p3, appL p3 (by rw [wp2, List.length_map, List.length_map]; have := smC.len; omega)]
          have ew : wp2 (S.map (pj B C ms)) ++ [.tup [.int old, .int new]] = wp2 ((S ++ [j]).map (pj B C ms)) := by
            have : W.tup [.int old, .int new] = pr (pj B C ms j) := by rw [← epj]; rfl
            rw [this]; simp [wp2]
          rw [ew]
          have p4 : (s3.set p (.lst (wp2 ((S ++ [j]).map (pj B C ms)))))[p]? = some (.lst (wp2 ((S ++ [j]).map (pj B C ms)))) := getset p3
          have t4 : (s3.set p (.lst (wp2 ((S ++ [j]).map (pj B C ms)))))[p + 1]? = some (.lst (wp2 T')) := by rw [getne (by omega)]; exact t3
          have n4 : (s3.set p (.lst (wp2 ((S ++ [j]).map (pj B C ms)))))[n]? = some (.lst (wi (flat B))) := by rw [getne (by omega)]; exact n3
          have c4 : (s3.set p (.lst (wp2 ((S ++ [j]).map (pj B C ms)))))[c]? = some (.lst (wi (flat C))) := by rw [getne (by omega)]; exact c3
          have q4 : (s3.set p (.lst (wp2 ((S ++ [j]).map (pj B C ms)))))[q]? = some (.lst (wi (offs C))) := by rw [getne (by omega)]; exact q3
          have f4 : Fr [p, p + 1] s1 (s3.set p (.lst (wp2 ((S ++ [j]).map (pj B C ms))))) := f3.trans (Fr.set (by simp))
          generalize s3.set p (.lst (wp2 ((S ++ [j]).map (pj B C ms)))) = s4 at p4 t4 n4 c4 q4 f4 ⊢
          have e4 : (off B i : Int) + 4 = ((off B i + 4 : Nat) : Int) := by omega
          have e4' : (off C j : Int) + 4 = ((off C j + 4 : Nat) : Int) := by omega
          have e3 : (off B i : Int) + 3 = ((off B i + 3 : Nat) : Int) := by omega
          have jin : (off C j : Int) ∈ offs C := List.mem_of_getElem? (offs_get hjl)
          repeat first | with_reducible refine Eq.mpr wps_cons ?_ | with_reducible refine Eq.mpr wps_pass ?_ | with_reducible refine Eq.mpr wps_nil ?_ | with_reducible refine Eq.mpr wps_set ?_ | with_reducible refine Eq.mpr wps_do ?_ | with_reducible refine Eq.mpr wps_ret ?_ | with_reducible refine Eq.mpr wps_retN ?_ | with_reducible refine Eq.mpr wps_brk ?_ | with_reducible refine Eq.mpr wps_cnt ?_ | with_reducible refine Eq.mpr wps_if ?_ | with_reducible refine Eq.mpr wps_asg ?_ | with_reducible refine Eq.mpr wps_put ?_ | with_reducible refine Eq.mpr wps_dput ?_ | with_reducible refine Eq.mpr wps_aug ?_ | with_reducible refine Eq.mpr wps_par ?_ | with_reducible refine Eq.mpr wps_for ?_ | with_reducible refine Eq.mpr wps_wh ?_ | simp only [wp_bd, wp_lc, ql_nx, ql_ct, ql_bk, ql_rt, iSeq, iEnu, Mir.iRev, chkR, chkT, chkO, lstO, wp_some, wp_ite, wp_none, bd_some, eVar, eC, eOp, eUn, eFn, eMt, aNil, aCons, eTup, eLst, eAnd, eOr, eNot, eIf, eIsi, eChain, bTest, bTruth, bAnd, bOr, bNot, bYes, eSl, pNo, pAt, eDnew, eDin, eDget, eDget2, tgM_name, tgM_tup, tgMs_nil, tgMs_name, tgMs_tup, List.getElem?_cons_succ, List.getElem?_cons_zero, List.set_cons_succ, List.set_cons_zero, List.map_cons, List.map_nil, List.length_cons, List.length_nil, List.replicate, List.nil_append, List.cons_append, if_true, if_false, Bool.false_eq_true, Bool.true_eq_false, Nat.reduceAdd, Nat.reduceSub, Nat.reduceLeDiff, Nat.zero_add, Bool.not_true, Bool.not_false, ii, addI, subI, negI, int1, eqI, neI, eqS, neS, ix0, ix1, ix2, ix3, decide_eq_true_eq, Bool.not_eq_true', decide_eq_false_iff_not, truB, truN, keyI, keyS, lenT, wipeM, divR (i := old) (j := 4) (by decide) (by decide), divR (i := new) (j := 4) (by decide) (by decide), po.div, pn.div, inInts q4, decide_eq_true jin, e4, e4', slL c4, hd_cut hcx, hyh]
          have n5 := gapp (t := [O.lst (wi (bat B i).hd)]) n4
          have k5 : (s4 ++ [O.lst (wi (bat B i).hd)])[s4.length]? = some (.lst (wi (bat B i).hd)) := gnew
          have k6 := gapp (t := [O.lst (wi (bat B i).hd)]) k5
          have h6 : (s4 ++ [O.lst (wi (bat B i).hd)] ++ [O.lst (wi (bat B i).hd)])[(s4 ++ [O.lst (wi (bat B i).hd)]).length]? = some (.lst (wi (bat B i).hd)) := gnew
          have n6 := gapp (t := [O.lst (wi (bat B i).hd)]) n5
          have c6 := gapp (t := [O.lst (wi (bat B i).hd)]) (gapp (t := [O.lst (wi (bat B i).hd)]) c4)
          have p6 := gapp (t := [O.lst (wi (bat B i).hd)]) (gapp (t := [O.lst (wi (bat B i).hd)]) p4)
          have t6 := gapp (t := [O.lst (wi (bat B i).hd)]) (gapp (t := [O.lst (wi (bat B i).hd)]) t4)
          have f6 : Fr [p, p + 1] s1 (s4 ++ [O.lst (wi (bat B i).hd)] ++ [O.lst (wi (bat B i).hd)]) := f4.trans (Fr.app.trans Fr.app)
          repeat first | with_reducible refine Eq.mpr wps_cons ?_ | with_reducible refine Eq.mpr wps_pass ?_ | with_reducible refine Eq.mpr wps_nil ?_ | with_reducible refine Eq.mpr wps_set ?_ | with_reducible refine Eq.mpr wps_do ?_ | with_reducible refine Eq.mpr wps_ret ?_ | with_reducible refine Eq.mpr wps_retN ?_ | with_reducible refine Eq.mpr wps_brk ?_ | with_reducible refine Eq.mpr wps_cnt ?_ | with_reducible refine Eq.mpr wps_if ?_ | with_reducible refine Eq.mpr wps_asg ?_ | with_reducible refine Eq.mpr wps_put ?_ | with_reducible refine Eq.mpr wps_dput ?_ | with_reducible refine Eq.mpr wps_aug ?_ | with_reducible refine Eq.mpr wps_par ?_ | with_reducible refine Eq.mpr wps_for ?_ | with_reducible refine Eq.mpr wps_wh ?_ | simp only [wp_bd, wp_lc, ql_nx, ql_ct, ql_bk, ql_rt, iSeq, iEnu, Mir.iRev, chkR, chkT, chkO, lstO, wp_some, wp_ite, wp_none, bd_some, eVar, eC, eOp, eUn, eFn, eMt, aNil, aCons, eTup, eLst, eAnd, eOr, eNot, eIf, eIsi, eChain, bTest, bTruth, bAnd, bOr, bNot, bYes, eSl, pNo, pAt, eDnew, eDin, eDget, eDget2, tgM_name, tgM_tup, tgMs_nil, tgMs_name, tgMs_tup, List.getElem?_cons_succ, List.getElem?_cons_zero, List.set_cons_succ, List.set_cons_zero, List.map_cons, List.map_nil, List.length_cons, List.length_nil, List.replicate, List.nil_append, List.cons_append, if_true, if_false, Bool.false_eq_true, Bool.true_eq_false, Nat.reduceAdd, Nat.reduceSub, Nat.reduceLeDiff, Nat.zero_add, Bool.not_true, Bool.not_false, ii, addI, subI, negI, int1, eqI, neI, eqS, neS, ix0, ix1, ix2, ix3, decide_eq_true_eq, Bool.not_eq_true', decide_eq_false_iff_not, truB, truN, keyI, keyS, lenT, wipeM, slL n5, hd_cut hbx, ne_ints k6 h6, decide_true]
          generalize s4 ++ [O.lst (wi (bat B i).hd)] ++ [O.lst (wi (bat B i).hd)] = s6 at n6 c6 p6 t6 f6 ⊢
          have fl := fs_len sm hbx
          repeat first | with_reducible refine Eq.mpr wps_cons ?_ | with_reducible refine Eq.mpr wps_pass ?_ | with_reducible refine Eq.mpr wps_nil ?_ | with_reducible refine Eq.mpr wps_set ?_ | with_reducible refine Eq.mpr wps_do ?_ | with_reducible refine Eq.mpr wps_ret ?_ | with_reducible refine Eq.mpr wps_retN ?_ | with_reducible refine Eq.mpr wps_brk ?_ | with_reducible refine Eq.mpr wps_cnt ?_ | with_reducible refine Eq.mpr wps_if ?_ | with_reducible refine Eq.mpr wps_asg ?_ | with_reducible refine Eq.mpr wps_put ?_ | with_reducible refine Eq.mpr wps_dput ?_ | with_reducible refine Eq.mpr wps_aug ?_ | with_reducible refine Eq.mpr wps_par ?_ | with_reducible refine Eq.mpr wps_for ?_ | with_reducible refine Eq.mpr wps_wh ?_ | simp only [wp_bd, wp_lc, ql_nx, ql_ct, ql_bk, ql_rt, iSeq, iEnu, Mir.iRev, chkR, chkT, chkO, lstO, wp_some, wp_ite, wp_none, bd_some, eVar, eC, eOp, eUn, eFn, eMt, aNil, aCons, eTup, eLst, eAnd, eOr, eNot, eIf, eIsi, eChain, bTest, bTruth, bAnd, bOr, bNot, bYes, eSl, pNo, pAt, eDnew, eDin, eDget, eDget2, tgM_name, tgM_tup, tgMs_nil, tgMs_name, tgMs_tup, List.getElem?_cons_succ, List.getElem?_cons_zero, List.set_cons_succ, List.set_cons_zero, List.map_cons, List.map_nil, List.length_cons, List.length_nil, List.replicate, List.nil_append, List.cons_append, if_true, if_false, Bool.false_eq_true, Bool.true_eq_false, Nat.reduceAdd, Nat.reduceSub, Nat.reduceLeDiff, Nat.zero_add, Bool.not_true, Bool.not_false, ii, addI, subI, negI, int1, eqI, neI, eqS, neS, ix0, ix1, ix2, ix3, decide_eq_true_eq, Bool.not_eq_true', decide_eq_false_iff_not, truB, truN, keyI, keyS, lenT, wipeM, isLR t6]
          refine wp_rng1 ?_
          repeat first | with_reducible refine Eq.mpr wps_cons ?_ | with_reducible refine Eq.mpr wps_pass ?_ | with_reducible refine Eq.mpr wps_nil ?_ | with_reducible refine Eq.mpr wps_set ?_ | with_reducible refine Eq.mpr wps_do ?_ | with_reducible refine Eq.mpr wps_ret ?_ | with_reducible refine Eq.mpr wps_retN ?_ | with_reducible refine Eq.mpr wps_brk ?_ | with_reducible refine Eq.mpr wps_cnt ?_ | with_reducible refine Eq.mpr wps_if ?_ | with_reducible refine Eq.mpr wps_asg ?_ | with_reducible refine Eq.mpr wps_put ?_ | with_reducible refine Eq.mpr wps_dput ?_ | with_reducible refine Eq.mpr wps_aug ?_ | with_reducible refine Eq.mpr wps_par ?_ | with_reducible refine Eq.mpr wps_for ?_ | with_reducible refine Eq.mpr wps_wh ?_ | simp only [wp_bd, wp_lc, ql_nx, ql_ct, ql_bk, ql_rt, iSeq, iEnu, Mir.iRev, chkR, chkT, chkO, lstO, wp_some, wp_ite, wp_none, bd_some, eVar, eC, eOp, eUn, eFn, eMt, aNil, aCons, eTup, eLst, eAnd, eOr, eNot, eIf, eIsi, eChain, bTest, bTruth, bAnd, bOr, bNot, bYes, eSl, pNo, pAt, eDnew, eDin, eDget, eDget2, tgM_name, tgM_tup, tgMs_nil, tgMs_name, tgMs_tup, List.getElem?_cons_succ, List.getElem?_cons_zero, List.set_cons_succ, List.set_cons_zero, List.map_cons, List.map_nil, List.length_cons, List.length_nil, List.replicate, List.nil_append, List.cons_append, if_true, if_false, Bool.false_eq_true, Bool.true_eq_false, Nat.reduceAdd, Nat.reduceSub, Nat.reduceLeDiff, Nat.zero_add, Bool.not_true, Bool.not_false, ii, addI, subI, negI, int1, eqI, neI, eqS, neS, ix0, ix1, ix2, ix3, decide_eq_true_eq, Bool.not_eq_true', decide_eq_false_iff_not, truB, truN, keyI, keyS, lenT, wipeM, e3, ixI n6 (cnt_at hbx)]
          refine ⟨(bat B i).fs.length, rfl, by omega, by simp; omega, ?_⟩
          have zl2 : (List.zip (bat B i).fs (bat C j).fs).length = (bat B i).fs.length := by rw [List.length_zip, hyl, Nat.min_self]
          refine wp_lcf (fun z acc s' => s' = s6 ∧ acc = wp2 ((List.zip (bat B i).fs (bat C j).fs).take z)) _ 0 [] s6 ⟨rfl, rfl⟩ ?_ ?_
          · rintro z y acc s' hy ⟨rfl, rfl⟩
            refine ⟨trivial, _, rfl, ?_⟩
            have hz : z < (bat B i).fs.length := by have := (List.getElem?_eq_some_iff.mp hy).1; simp at this; exact this
            rw [List.getElem?_map, List.getElem?_range hz] at hy
            obtain rfl := (Option.some.inj hy).symm
            have e1 := List.getElem?_eq_getElem hz
            have e2 := List.getElem?_eq_getElem (l := (bat C j).fs) (i := z) (by rw [hyl]; exact hz)
            have g1 : (flat B)[off B i + 4 + z]? = some (bat B i).fs[z] := by
              have := flat_get hbx (k := 4 + z) (by unfold Bk.sz; omega)
              rw [show off B i + (4 + z) = off B i + 4 + z by omega] at this
              rw [this, Bk.fl, List.getElem?_append_right (by simp [Bk.hd])]
              simp [Bk.hd]
            have g2 : (flat C)[off C j + 4 + z]? = some (bat C j).fs[z] := by
              have := flat_get hcx (k := 4 + z) (by unfold Bk.sz; omega)
              rw [show off C j + (4 + z) = off C j + 4 + z by omega] at this
              rw [this, Bk.fl, List.getElem?_append_right (by simp [Bk.hd])]
              simp [Bk.hd]
            have e5 : ((off B i + 4 : Nat) : Int) + (z : Int) = ((off B i + 4 + z : Nat) : Int) := by omega
            have e6 : ((off C j + 4 : Nat) : Int) + (z : Int) = ((off C j + 4 + z : Nat) : Int) := by omega
            repeat first | with_reducible refine Eq.mpr wps_cons ?_ | with_reducible refine Eq.mpr wps_pass ?_ | with_reducible refine Eq.mpr wps_nil ?_ | with_reducible refine Eq.mpr wps_set ?_ | with_reducible refine Eq.mpr wps_do ?_ | with_reducible refine Eq.mpr wps_ret ?_ | with_reducible refine Eq.mpr wps_retN ?_ | with_reducible refine Eq.mpr wps_brk ?_ | with_reducible refine Eq.mpr wps_cnt ?_ | with_reducible refine Eq.mpr wps_if ?_ | with_reducible refine Eq.mpr wps_asg ?_ | with_reducible refine Eq.mpr wps_put ?_ | with_reducible refine Eq.mpr wps_dput ?_ | with_reducible refine Eq.mpr wps_aug ?_ | with_reducible refine Eq.mpr wps_par ?_ | with_reducible refine Eq.mpr wps_for ?_ | with_reducible refine Eq.mpr wps_wh ?_ | simp only [wp_bd, wp_lc, ql_nx, ql_ct, ql_bk, ql_rt, iSeq, iEnu, Mir.iRev, chkR, chkT, chkO, lstO, wp_some, wp_ite, wp_none, bd_some, eVar, eC, eOp, eUn, eFn, eMt, aNil, aCons, eTup, eLst, eAnd, eOr, eNot, eIf, eIsi, eChain, bTest, bTruth, bAnd, bOr, bNot, bYes, eSl, pNo, pAt, eDnew, eDin, eDget, eDget2, tgM_name, tgM_tup, tgMs_nil, tgMs_name, tgMs_tup, List.getElem?_cons_succ, List.getElem?_cons_zero, List.set_cons_succ, List.set_cons_zero, List.map_cons, List.map_nil, List.length_cons, List.length_nil, List.replicate, List.nil_append, List.cons_append, if_true, if_false, Bool.false_eq_true, Bool.true_eq_false, Nat.reduceAdd, Nat.reduceSub, Nat.reduceLeDiff, Nat.zero_add, Bool.not_true, Bool.not_false, ii, addI, subI, negI, int1, eqI, neI, eqS, neS, ix0, ix1, ix2, ix3, decide_eq_true_eq, Bool.not_eq_true', decide_eq_false_iff_not, truB, truN, keyI, keyS, lenT, wipeM, e4, e4', e5, e6, ixI n6 g1, ixI c6 g2]
            refine ⟨trivial, ?_⟩
            rw [List.take_add_one, zip_get e1 e2]
            simp [wp2, pr]
          rintro acc s' ⟨rfl, rfl⟩
          refine ⟨trivial, fun ws e => ?_⟩
          rw [List.nil_append, Nat.zero_add, List.take_of_length_le (by simp [zl2])] at e
          subst e
          have t7 := gapp (t := [O.lst (wp2 (List.zip (bat B i).fs (bat C j).fs))]) t6
          have k7 : (s' ++ [O.lst (wp2 (List.zip (bat B i).fs (bat C j).fs))])[s'.length]? = some (.lst (wp2 (List.zip (bat B i).fs (bat C j).fs))) := gnew
          repeat first | with_reducible refine Eq.mpr wps_cons ?_ | with_reducible refine Eq.mpr wps_pass ?_ | with_reducible refine Eq.mpr wps_nil ?_ | with_reducible refine Eq.mpr wps_set ?_ | with_reducible refine Eq.mpr wps_do ?_ | with_reducible refine Eq.mpr wps_ret ?_ | with_reducible refine Eq.mpr wps_retN ?_ | with_reducible refine Eq.mpr wps_brk ?_ | with_reducible refine Eq.mpr wps_cnt ?_ | with_reducible refine Eq.mpr wps_if ?_ | with_reducible refine Eq.mpr wps_asg ?_ | with_reducible refine Eq.mpr wps_put ?_ | with_reducible refine Eq.mpr wps_dput ?_ | with_reducible refine Eq.mpr wps_aug ?_ | with_reducible refine Eq.mpr wps_par ?_ | with_reducible refine Eq.mpr wps_for ?_ | with_reducible refine Eq.mpr wps_wh ?_ | simp only [wp_bd, wp_lc, ql_nx, ql_ct, ql_bk, ql_rt, iSeq, iEnu, Mir.iRev, chkR, chkT, chkO, lstO, wp_some, wp_ite, wp_none, bd_some, eVar, eC, eOp, eUn, eFn, eMt, aNil, aCons, eTup, eLst, eAnd, eOr, eNot, eIf, eIsi, eChain, bTest, bTruth, bAnd, bOr, bNot, bYes, eSl, pNo, pAt, eDnew, eDin, eDget, eDget2, tgM_name, tgM_tup, tgMs_nil, tgMs_name, tgMs_tup, List.getElem?_cons_succ, List.getElem?_cons_zero, List.set_cons_succ, List.set_cons_zero, List.map_cons, List.map_nil, List.length_cons, List.length_nil, List.replicate, List.nil_append, List.cons_append, if_true, if_false, Bool.false_eq_true, Bool.true_eq_false, Nat.reduceAdd, Nat.reduceSub, Nat.reduceLeDiff, Nat.zero_add, Bool.not_true, Bool.not_false, ii, addI, subI, negI, int1, eqI, neI, eqS, neS, ix0, ix1, ix2, ix3, decide_eq_true_eq, Bool.not_eq_true', decide_eq_false_iff_not, truB, truN, keyI, keyS, lenT, wipeM, extL t7 k7 (by rw [wp2, wp2, List.length_map, List.length_map, zl2]; have := smC.len; omega)]
          have et : wp2 T' ++ wp2 (List.zip (bat B i).fs (bat C j).fs) = wp2 (T' ++ List.zip (bat B i).fs (bat C j).fs) := List.map_append.symm
          rw [et]
          refine ⟨(C.length - (S ++ [j]).length) * 97 + (T' ++ List.zip (bat B i).fs (bat C j).fs).length, by rw [List.length_append, List.length_append, List.length_singleton, zl2]; omega, S ++ [j], _, _, _, _, _, rfl, rfl, nd', lt', fun v hv => ?_, fun v hv j' pt => ?_, fun j1 hj1 v hv j' pt => ?_, by rw [getne (by omega)]; exact gapp p6, getset t7, f6.trans (Fr.app.trans (Fr.set (by simp))), by rw [List.length_append, List.length_append, List.length_singleton, zl2]; omega⟩
          · rcases List.mem_append.mp hv with hv | hv
            · exact tg v (by simp [hv])
            · obtain ⟨z, hz⟩ := List.mem_iff_getElem?.mp hv
              obtain ⟨z1, z2⟩ := List.getElem?_zip_eq_some.mp hz
              exact (hyf z v.1 v.2 z1 z2).1 (.inl (List.getElem?_eq_some_iff.mp hj).1)
          · rcases cr v hv j' pt with q | q
            · exact .inl (by simp [q])
            · rcases keep v q with q | q
              · exact .inr (by simp [q])
              · subst q; rw [pt.uniq pn]; exact .inl (by simp)
          · rcases List.mem_append.mp hj1 with hj1 | hj1
            · rcases cf j1 hj1 v hv j' pt with q | q
              · exact .inl (by simp [q])
              · rcases keep v q with q | q
                · exact .inr (by simp [q])
                · subst q; rw [pt.uniq pn]; exact .inl (by simp)
            · rw [List.mem_singleton.mp hj1, emj] at hv
              exact .inr (by simp [hv])
  · exact ⟨[], List.zip rt rt', none, none, none, none, rfl, by simp [zl], .nil, fun _ h => (by cases h), fun v hv => by
      obtain ⟨z, hz⟩ := List.mem_iff_getElem?.mp hv
      obtain ⟨z1, z2⟩ := List.getElem?_zip_eq_some.mp hz
      exact d.rts z v.1 v.2 z1 z2, fun v hv j pt => .inr hv, fun _ h => (by cases h), p1, t1, Fr.refl, by rw [zl]; simp; try omega⟩
end K73

set_option Elab.async false
set_option linter.all false
set_option maxRecDepth 100000
namespace K73
open PySem PySem.Spec PyProof.Rows L2 Mir Cg
theorem sortL {n : Nat} {l : List Int} {s : Sto} (h : s[n]? = some (.lst (wi l))) : gSorted [.ref n] s = some (.ref s.length, s ++ [.lst (wi (sortI l))]) := by
  simp only [gSorted, lstR h, ints_wi]
/-- a part of each pair -/
theorem part_lc {i : Nat} {p : Nat} {l : List (Int × Int)} {f : FE} {g : Int × Int → Int} {ρ : EnvM} {s : Sto} {R : List W → Sto → Prop} (hp : s[p]? = some (.lst (wp2 l))) (hf : ∀ v : Int × Int, f (ρ.set i (some (pr v))) s = some (.int (g v), s)) (h : R (wi (l.map g)) s) :
    Wp (lcf (.name i) bYes f (some (p, wp2 l)) ρ (wp2 l) s) R := by
  refine wp_lcf (fun k acc s' => s' = s ∧ acc = wi ((l.take k).map g)) _ 0 [] s ⟨rfl, rfl⟩ ?_ ?_
  · rintro k x acc s1 hx ⟨rfl, rfl⟩
    refine ⟨hp, _, rfl, ?_⟩
    obtain ⟨v, hv, rfl⟩ : ∃ v, l[k]? = some v ∧ x = pr v := by
      rw [wp2, List.getElem?_map] at hx
      cases e : l[k]? with
      | none => rw [e] at hx; cases hx
      | some w => rw [e] at hx; exact ⟨w, rfl, (Option.some.inj hx).symm⟩
    repeat first | with_reducible refine Eq.mpr wps_cons ?_ | with_reducible refine Eq.mpr wps_pass ?_ | with_reducible refine Eq.mpr wps_nil ?_ | with_reducible refine Eq.mpr wps_set ?_ | with_reducible refine Eq.mpr wps_do ?_ | with_reducible refine Eq.mpr wps_ret ?_ | with_reducible refine Eq.mpr wps_retN ?_ | with_reducible refine Eq.mpr wps_brk ?_ | with_reducible refine Eq.mpr wps_cnt ?_ | with_reducible refine Eq.mpr wps_if ?_ | with_reducible refine Eq.mpr wps_asg ?_ | with_reducible refine Eq.mpr wps_put ?_ | with_reducible refine Eq.mpr wps_dput ?_ | with_reducible refine Eq.mpr wps_aug ?_ | with_reducible refine Eq.mpr wps_par ?_ | with_reducible refine Eq.mpr wps_for ?_ | with_reducible refine Eq.mpr wps_wh ?_ | simp only [wp_bd, wp_lc, ql_nx, ql_ct, ql_bk, ql_rt, iSeq, iEnu, Mir.iRev, chkR, chkT, chkO, lstO, wp_some, wp_ite, wp_none, bd_some, eVar, eC, eOp, eUn, eFn, eMt, aNil, aCons, eTup, eLst, eAnd, eOr, eNot, eIf, eIsi, eChain, bTest, bTruth, bAnd, bOr, bNot, bYes, eSl, pNo, pAt, eDnew, eDin, eDget, eDget2, tgM_name, tgM_tup, tgMs_nil, tgMs_name, tgMs_tup, List.getElem?_cons_succ, List.getElem?_cons_zero, List.set_cons_succ, List.set_cons_zero, List.map_cons, List.map_nil, List.length_cons, List.length_nil, List.replicate, List.nil_append, List.cons_append, if_true, if_false, Bool.false_eq_true, Bool.true_eq_false, Nat.reduceAdd, Nat.reduceSub, Nat.reduceLeDiff, Nat.zero_add, Bool.not_true, Bool.not_false, Int.cast_ofNat_Int, not_true_eq_false, not_false_eq_true, ii, addI, subI, negI, int1, eqI, neI, eqS, neS, ix0, ix1, ix2, ix3, decide_eq_true_eq, Bool.not_eq_true', decide_eq_false_iff_not, truB, truN, keyI, keyS, lenT, wipeM, hf v]
    refine ⟨trivial, ?_⟩
    rw [List.take_add_one, hv]
    simp
  · rintro acc s1 ⟨rfl, rfl⟩
    refine ⟨hp, fun ws e => ?_⟩
    rw [List.nil_append, Nat.zero_add, List.take_of_length_le (by simp [wp2])] at e
    rw [← e]
    exact h
theorem map_perm {α β : Type} (f : α → β) {a b : List α} (h : a.Perm b) : (a.map f).Perm (b.map f) := h.map f
theorem sort_eq {a b : List Int} (h : a.Perm b) : sortI a = sortI b := sortI_uniq ((sortI_perm a).trans h) (sortI_up a)
theorem range_up (C : List Bk) : ((List.range C.length).map (pw C)).Pairwise (· ≤ ·) := by
  rw [List.pairwise_map]
  refine List.Pairwise.imp_of_mem ?_ List.pairwise_lt_range
  intro a b ha hb hab
  have := off_lt (B := C) hab (by have := List.mem_range.mp hb; omega)
  unfold pw
  omega
theorem pure_law : ∀ ns : List Int, ns.length ≤ 63 → ∃ s, FLaw [.lro (ns.map W.int)] [] = some (.bl true, s) := by
  intro ns _
  suffices h : Wp (FLaw [.lro (ns.map W.int)] []) (fun w _ => w = .bl true) by
    obtain ⟨w, s, e, rfl⟩ := h
    exact ⟨s, e⟩
  unfold FLaw
  rw [wp_mkF (by rfl)]
  unfold BLaw
  have e1 : FLawTape = TTape := rfl
  have e2 : FLawTake = TTake := rfl
  have e3 : FLawWords = Cg.FLawWords := rfl
  have e4 : FLawWord = Cg.FLawWord := rfl
  have e5 : FLawLive = Cg.FLawLive := rfl
  have e7 : FCollect = Cg.FCollect := rfl
  rw [e1, e2, e3, e4, e5, e7]
  repeat first | with_reducible refine Eq.mpr wps_cons ?_ | with_reducible refine Eq.mpr wps_pass ?_ | with_reducible refine Eq.mpr wps_nil ?_ | with_reducible refine Eq.mpr wps_set ?_ | with_reducible refine Eq.mpr wps_do ?_ | with_reducible refine Eq.mpr wps_ret ?_ | with_reducible refine Eq.mpr wps_retN ?_ | with_reducible refine Eq.mpr wps_brk ?_ | with_reducible refine Eq.mpr wps_cnt ?_ | with_reducible refine Eq.mpr wps_if ?_ | with_reducible refine Eq.mpr wps_asg ?_ | with_reducible refine Eq.mpr wps_put ?_ | with_reducible refine Eq.mpr wps_dput ?_ | with_reducible refine Eq.mpr wps_aug ?_ | with_reducible refine Eq.mpr wps_par ?_ | with_reducible refine Eq.mpr wps_for ?_ | with_reducible refine Eq.mpr wps_wh ?_ | simp only [wp_bd, wp_lc, ql_nx, ql_ct, ql_bk, ql_rt, iSeq, iEnu, Mir.iRev, chkR, chkT, chkO, lstO, wp_some, wp_ite, wp_none, bd_some, eVar, eC, eOp, eUn, eFn, eMt, aNil, aCons, eTup, eLst, eAnd, eOr, eNot, eIf, eIsi, eChain, bTest, bTruth, bAnd, bOr, bNot, bYes, eSl, pNo, pAt, eDnew, eDin, eDget, eDget2, tgM_name, tgM_tup, tgMs_nil, tgMs_name, tgMs_tup, List.getElem?_cons_succ, List.getElem?_cons_zero, List.set_cons_succ, List.set_cons_zero, List.map_cons, List.map_nil, List.length_cons, List.length_nil, List.replicate, List.nil_append, List.cons_append, if_true, if_false, Bool.false_eq_true, Bool.true_eq_false, Nat.reduceAdd, Nat.reduceSub, Nat.reduceLeDiff, Nat.zero_add, Bool.not_true, Bool.not_false, Int.cast_ofNat_Int, not_true_eq_false, not_false_eq_true, ii, addI, subI, negI, int1, eqI, neI, eqS, neS, ix0, ix1, ix2, ix3, decide_eq_true_eq, Bool.not_eq_true', decide_eq_false_iff_not, truB, truN, keyI, keyS, lenT, wipeM, tape_ok]
  have T := tape_T ns
  generalize ([O.lst (ns.map W.int), O.lst [.ref 0, .int 0, .int 0, .int 1, .int 0]] : Sto) = s0 at T ⊢
  refine words_ok T fun B a b s1 sm7 wf a1 b1 la lb ab T1 f1 => ?_
  have sm := sm7.sm
  have lt := T.lt
  have B8 := sm7.1
  repeat first | with_reducible refine Eq.mpr wps_cons ?_ | with_reducible refine Eq.mpr wps_pass ?_ | with_reducible refine Eq.mpr wps_nil ?_ | with_reducible refine Eq.mpr wps_set ?_ | with_reducible refine Eq.mpr wps_do ?_ | with_reducible refine Eq.mpr wps_ret ?_ | with_reducible refine Eq.mpr wps_retN ?_ | with_reducible refine Eq.mpr wps_brk ?_ | with_reducible refine Eq.mpr wps_cnt ?_ | with_reducible refine Eq.mpr wps_if ?_ | with_reducible refine Eq.mpr wps_asg ?_ | with_reducible refine Eq.mpr wps_put ?_ | with_reducible refine Eq.mpr wps_dput ?_ | with_reducible refine Eq.mpr wps_aug ?_ | with_reducible refine Eq.mpr wps_par ?_ | with_reducible refine Eq.mpr wps_for ?_ | with_reducible refine Eq.mpr wps_wh ?_ | simp only [wp_bd, wp_lc, ql_nx, ql_ct, ql_bk, ql_rt, iSeq, iEnu, Mir.iRev, chkR, chkT, chkO, lstO, wp_some, wp_ite, wp_none, bd_some, eVar, eC, eOp, eUn, eFn, eMt, aNil, aCons, eTup, eLst, eAnd, eOr, eNot, eIf, eIsi, eChain, bTest, bTruth, bAnd, bOr, bNot, bYes, eSl, pNo, pAt, eDnew, eDin, eDget, eDget2, tgM_name, tgM_tup, tgMs_nil, tgMs_name, tgMs_tup, List.getElem?_cons_succ, List.getElem?_cons_zero, List.set_cons_succ, List.set_cons_zero, List.map_cons, List.map_nil, List.length_cons, List.length_nil, List.replicate, List.nil_append, List.cons_append, if_true, if_false, Bool.false_eq_true, Bool.true_eq_false, Nat.reduceAdd, Nat.reduceSub, Nat.reduceLeDiff, Nat.zero_add, Bool.not_true, Bool.not_false, Int.cast_ofNat_Int, not_true_eq_false, not_false_eq_true, ii, addI, subI, negI, int1, eqI, neI, eqS, neS, ix0, ix1, ix2, ix3, decide_eq_true_eq, Bool.not_eq_true', decide_eq_false_iff_not, truB, truN, keyI, keyS, lenT, wipeM]
  refine wp_rng1 ?_
  repeat first | with_reducible refine Eq.mpr wps_cons ?_ | with_reducible refine Eq.mpr wps_pass ?_ | with_reducible refine Eq.mpr wps_nil ?_ | with_reducible refine Eq.mpr wps_set ?_ | with_reducible refine Eq.mpr wps_do ?_ | with_reducible refine Eq.mpr wps_ret ?_ | with_reducible refine Eq.mpr wps_retN ?_ | with_reducible refine Eq.mpr wps_brk ?_ | with_reducible refine Eq.mpr wps_cnt ?_ | with_reducible refine Eq.mpr wps_if ?_ | with_reducible refine Eq.mpr wps_asg ?_ | with_reducible refine Eq.mpr wps_put ?_ | with_reducible refine Eq.mpr wps_dput ?_ | with_reducible refine Eq.mpr wps_aug ?_ | with_reducible refine Eq.mpr wps_par ?_ | with_reducible refine Eq.mpr wps_for ?_ | with_reducible refine Eq.mpr wps_wh ?_ | simp only [wp_bd, wp_lc, ql_nx, ql_ct, ql_bk, ql_rt, iSeq, iEnu, Mir.iRev, chkR, chkT, chkO, lstO, wp_some, wp_ite, wp_none, bd_some, eVar, eC, eOp, eUn, eFn, eMt, aNil, aCons, eTup, eLst, eAnd, eOr, eNot, eIf, eIsi, eChain, bTest, bTruth, bAnd, bOr, bNot, bYes, eSl, pNo, pAt, eDnew, eDin, eDget, eDget2, tgM_name, tgM_tup, tgMs_nil, tgMs_name, tgMs_tup, List.getElem?_cons_succ, List.getElem?_cons_zero, List.set_cons_succ, List.set_cons_zero, List.map_cons, List.map_nil, List.length_cons, List.length_nil, List.replicate, List.nil_append, List.cons_append, if_true, if_false, Bool.false_eq_true, Bool.true_eq_false, Nat.reduceAdd, Nat.reduceSub, Nat.reduceLeDiff, Nat.zero_add, Bool.not_true, Bool.not_false, Int.cast_ofNat_Int, not_true_eq_false, not_false_eq_true, ii, addI, subI, negI, int1, eqI, neI, eqS, neS, ix0, ix1, ix2, ix3, decide_eq_true_eq, Bool.not_eq_true', decide_eq_false_iff_not, truB, truN, keyI, keyS, lenT, wipeM]
  refine take_wp T1 7 (by decide) (by decide) fun n s2 hn T2 f2 l2 => ?_
  refine ⟨n, rfl, by omega, by simp; omega, ?_⟩
  have a2 := f2.at_ _ _ (by simp; omega) a1
  have b2 := f2.at_ _ _ (by simp; omega) b1
  refine wp_lcf (fun k acc s' => ∃ l : List Int, acc = wi l ∧ l.length = k ∧ (∀ w ∈ l, Gw B w) ∧ s'[a]? = some (.lst (wi (flat B))) ∧ s'[b]? = some (.lst (wi (offs B))) ∧ Tape s' 1 0 ns) _ 0 [] s2 ?_ ?_ ?_
  · exact ⟨[], rfl, rfl, fun _ h => (by cases h), a2, b2, T2⟩
  · rintro i x acc s3 hx ⟨l, rfl, hl, hg, a3, b3, T3⟩
    refine ⟨trivial, _, rfl, ?_⟩
    repeat first | with_reducible refine Eq.mpr wps_cons ?_ | with_reducible refine Eq.mpr wps_pass ?_ | with_reducible refine Eq.mpr wps_nil ?_ | with_reducible refine Eq.mpr wps_set ?_ | with_reducible refine Eq.mpr wps_do ?_ | with_reducible refine Eq.mpr wps_ret ?_ | with_reducible refine Eq.mpr wps_retN ?_ | with_reducible refine Eq.mpr wps_brk ?_ | with_reducible refine Eq.mpr wps_cnt ?_ | with_reducible refine Eq.mpr wps_if ?_ | with_reducible refine Eq.mpr wps_asg ?_ | with_reducible refine Eq.mpr wps_put ?_ | with_reducible refine Eq.mpr wps_dput ?_ | with_reducible refine Eq.mpr wps_aug ?_ | with_reducible refine Eq.mpr wps_par ?_ | with_reducible refine Eq.mpr wps_for ?_ | with_reducible refine Eq.mpr wps_wh ?_ | simp only [wp_bd, wp_lc, ql_nx, ql_ct, ql_bk, ql_rt, iSeq, iEnu, Mir.iRev, chkR, chkT, chkO, lstO, wp_some, wp_ite, wp_none, bd_some, eVar, eC, eOp, eUn, eFn, eMt, aNil, aCons, eTup, eLst, eAnd, eOr, eNot, eIf, eIsi, eChain, bTest, bTruth, bAnd, bOr, bNot, bYes, eSl, pNo, pAt, eDnew, eDin, eDget, eDget2, tgM_name, tgM_tup, tgMs_nil, tgMs_name, tgMs_tup, List.getElem?_cons_succ, List.getElem?_cons_zero, List.set_cons_succ, List.set_cons_zero, List.map_cons, List.map_nil, List.length_cons, List.length_nil, List.replicate, List.nil_append, List.cons_append, if_true, if_false, Bool.false_eq_true, Bool.true_eq_false, Nat.reduceAdd, Nat.reduceSub, Nat.reduceLeDiff, Nat.zero_add, Bool.not_true, Bool.not_false, Int.cast_ofNat_Int, not_true_eq_false, not_false_eq_true, ii, addI, subI, negI, int1, eqI, neI, eqS, neS, ix0, ix1, ix2, ix3, decide_eq_true_eq, Bool.not_eq_true', decide_eq_false_iff_not, truB, truN, keyI, keyS, lenT, wipeM]
    refine word_ok T3 b3 (by omega) (by omega) fun w s4 gw T4 f4 l4 => ?_
    exact ⟨l ++ [w], by simp, by simp; omega, fun v hv => by
      rcases List.mem_append.mp hv with hv | hv
      · exact hg v hv
      · rw [List.mem_singleton.mp hv]; exact gw, f4.at_ _ _ (by simp; omega) a3, f4.at_ _ _ (by simp; omega) b3, T4⟩
  rintro acc s3 ⟨l, rfl, hl, hg, a3, b3, T3⟩
  refine ⟨trivial, fun ws e => ?_⟩
  rw [List.nil_append] at e
  subst e
  have hl6 : l.length < 7 := by simp at hl; omega
  have a4 := gapp (t := [O.lst (wi l)]) a3
  have r4 : (s3 ++ [O.lst (wi l)])[s3.length]? = some (.lst (wi l)) := gnew
  have lr : a < s3.length := gltn a3
  generalize s3 ++ [O.lst (wi l)] = s4 at a4 r4 ⊢
  generalize s3.length = r at r4 lr ⊢
  clear T1 T2 T3 T f1 f2 a1 a2 a3 b1 b2 b3
  have lr4 := gltn r4
  have a5 := gapp (t := [O.lst (wi (flat B))]) a4
  have r5 := gapp (t := [O.lst (wi (flat B))]) r4
  have g5 : (s4 ++ [O.lst (wi (flat B))])[s4.length]? = some (.lst (wi (flat B))) := gnew
  have a6 := gapp (t := [O.lst (wi l)]) a5
  have r6 := gapp (t := [O.lst (wi l)]) r5
  have g6 := gapp (t := [O.lst (wi l)]) g5
  have h6 : (s4 ++ [O.lst (wi (flat B))] ++ [O.lst (wi l)])[(s4 ++ [O.lst (wi (flat B))]).length]? = some (.lst (wi l)) := gnew
  have hl5 : (s4 ++ [O.lst (wi (flat B))]).length = s4.length + 1 := by simp
  repeat first | with_reducible refine Eq.mpr wps_cons ?_ | with_reducible refine Eq.mpr wps_pass ?_ | with_reducible refine Eq.mpr wps_nil ?_ | with_reducible refine Eq.mpr wps_set ?_ | with_reducible refine Eq.mpr wps_do ?_ | with_reducible refine Eq.mpr wps_ret ?_ | with_reducible refine Eq.mpr wps_retN ?_ | with_reducible refine Eq.mpr wps_brk ?_ | with_reducible refine Eq.mpr wps_cnt ?_ | with_reducible refine Eq.mpr wps_if ?_ | with_reducible refine Eq.mpr wps_asg ?_ | with_reducible refine Eq.mpr wps_put ?_ | with_reducible refine Eq.mpr wps_dput ?_ | with_reducible refine Eq.mpr wps_aug ?_ | with_reducible refine Eq.mpr wps_par ?_ | with_reducible refine Eq.mpr wps_for ?_ | with_reducible refine Eq.mpr wps_wh ?_ | simp only [wp_bd, wp_lc, ql_nx, ql_ct, ql_bk, ql_rt, iSeq, iEnu, Mir.iRev, chkR, chkT, chkO, lstO, wp_some, wp_ite, wp_none, bd_some, eVar, eC, eOp, eUn, eFn, eMt, aNil, aCons, eTup, eLst, eAnd, eOr, eNot, eIf, eIsi, eChain, bTest, bTruth, bAnd, bOr, bNot, bYes, eSl, pNo, pAt, eDnew, eDin, eDget, eDget2, tgM_name, tgM_tup, tgMs_nil, tgMs_name, tgMs_tup, List.getElem?_cons_succ, List.getElem?_cons_zero, List.set_cons_succ, List.set_cons_zero, List.map_cons, List.map_nil, List.length_cons, List.length_nil, List.replicate, List.nil_append, List.cons_append, if_true, if_false, Bool.false_eq_true, Bool.true_eq_false, Nat.reduceAdd, Nat.reduceSub, Nat.reduceLeDiff, Nat.zero_add, Bool.not_true, Bool.not_false, Int.cast_ofNat_Int, not_true_eq_false, not_false_eq_true, ii, addI, subI, negI, int1, eqI, neI, eqS, neS, ix0, ix1, ix2, ix3, decide_eq_true_eq, Bool.not_eq_true', decide_eq_false_iff_not, truB, truN, keyI, keyS, lenT, wipeM, listL a4, listL r5]
  rw [hl5] at h6 ⊢
  generalize s4 ++ [O.lst (wi (flat B))] ++ [O.lst (wi l)] = s6 at a6 r6 g6 h6 ⊢
  generalize s4.length = g at g6 h6 lr4 ⊢
  refine (collect_ok g6 h6 sm wf hg (by omega)).mono ?_
  rintro v s7 ⟨ms, C, rt', c, k, rfl, hc, hk, lc, lk, ck, f7, d⟩
  have a7 := f7.at_ _ _ (by simp) a6
  have r7 := f7.at_ _ _ (by simp) r6
  have g7 := f7.at_ _ _ (by simp) g6
  have h7 := f7.at_ _ _ (by simp) h6
  have it : isiT "tuple" "tuple" = true := by decide
  have il : isiT "list" "list" = true := by decide
  have smC := Don.sm d sm
  have dl := d.len
  repeat first | with_reducible refine Eq.mpr wps_cons ?_ | with_reducible refine Eq.mpr wps_pass ?_ | with_reducible refine Eq.mpr wps_nil ?_ | with_reducible refine Eq.mpr wps_set ?_ | with_reducible refine Eq.mpr wps_do ?_ | with_reducible refine Eq.mpr wps_ret ?_ | with_reducible refine Eq.mpr wps_retN ?_ | with_reducible refine Eq.mpr wps_brk ?_ | with_reducible refine Eq.mpr wps_cnt ?_ | with_reducible refine Eq.mpr wps_if ?_ | with_reducible refine Eq.mpr wps_asg ?_ | with_reducible refine Eq.mpr wps_put ?_ | with_reducible refine Eq.mpr wps_dput ?_ | with_reducible refine Eq.mpr wps_aug ?_ | with_reducible refine Eq.mpr wps_par ?_ | with_reducible refine Eq.mpr wps_for ?_ | with_reducible refine Eq.mpr wps_wh ?_ | simp only [wp_bd, wp_lc, ql_nx, ql_ct, ql_bk, ql_rt, iSeq, iEnu, Mir.iRev, chkR, chkT, chkO, lstO, wp_some, wp_ite, wp_none, bd_some, eVar, eC, eOp, eUn, eFn, eMt, aNil, aCons, eTup, eLst, eAnd, eOr, eNot, eIf, eIsi, eChain, bTest, bTruth, bAnd, bOr, bNot, bYes, eSl, pNo, pAt, eDnew, eDin, eDget, eDget2, tgM_name, tgM_tup, tgMs_nil, tgMs_name, tgMs_tup, List.getElem?_cons_succ, List.getElem?_cons_zero, List.set_cons_succ, List.set_cons_zero, List.map_cons, List.map_nil, List.length_cons, List.length_nil, List.replicate, List.nil_append, List.cons_append, if_true, if_false, Bool.false_eq_true, Bool.true_eq_false, Nat.reduceAdd, Nat.reduceSub, Nat.reduceLeDiff, Nat.zero_add, Bool.not_true, Bool.not_false, Int.cast_ofNat_Int, not_true_eq_false, not_false_eq_true, ii, addI, subI, negI, int1, eqI, neI, eqS, neS, ix0, ix1, ix2, ix3, decide_eq_true_eq, Bool.not_eq_true', decide_eq_false_iff_not, truB, truN, keyI, keyS, lenT, wipeM, ne_ints g7 a7, ne_ints h7 r7, tyW, it, decide_true]
  repeat first | with_reducible refine Eq.mpr wps_cons ?_ | with_reducible refine Eq.mpr wps_pass ?_ | with_reducible refine Eq.mpr wps_nil ?_ | with_reducible refine Eq.mpr wps_set ?_ | with_reducible refine Eq.mpr wps_do ?_ | with_reducible refine Eq.mpr wps_ret ?_ | with_reducible refine Eq.mpr wps_retN ?_ | with_reducible refine Eq.mpr wps_brk ?_ | with_reducible refine Eq.mpr wps_cnt ?_ | with_reducible refine Eq.mpr wps_if ?_ | with_reducible refine Eq.mpr wps_asg ?_ | with_reducible refine Eq.mpr wps_put ?_ | with_reducible refine Eq.mpr wps_dput ?_ | with_reducible refine Eq.mpr wps_aug ?_ | with_reducible refine Eq.mpr wps_par ?_ | with_reducible refine Eq.mpr wps_for ?_ | with_reducible refine Eq.mpr wps_wh ?_ | simp only [wp_bd, wp_lc, ql_nx, ql_ct, ql_bk, ql_rt, iSeq, iEnu, Mir.iRev, chkR, chkT, chkO, lstO, wp_some, wp_ite, wp_none, bd_some, eVar, eC, eOp, eUn, eFn, eMt, aNil, aCons, eTup, eLst, eAnd, eOr, eNot, eIf, eIsi, eChain, bTest, bTruth, bAnd, bOr, bNot, bYes, eSl, pNo, pAt, eDnew, eDin, eDget, eDget2, tgM_name, tgM_tup, tgMs_nil, tgMs_name, tgMs_tup, List.getElem?_cons_succ, List.getElem?_cons_zero, List.set_cons_succ, List.set_cons_zero, List.map_cons, List.map_nil, List.length_cons, List.length_nil, List.replicate, List.nil_append, List.cons_append, if_true, if_false, Bool.false_eq_true, Bool.true_eq_false, Nat.reduceAdd, Nat.reduceSub, Nat.reduceLeDiff, Nat.zero_add, Bool.not_true, Bool.not_false, Int.cast_ofNat_Int, not_true_eq_false, not_false_eq_true, ii, addI, subI, negI, int1, eqI, neI, eqS, neS, ix0, ix1, ix2, ix3, decide_eq_true_eq, Bool.not_eq_true', decide_eq_false_iff_not, truB, truN, keyI, keyS, lenT, wipeM, hc, hk, il, lenL hk, lenL r7, List.length_map, dl, decide_true]
  refine begins_ok hc smC fun q s8 q8 lq f8 => ?_
  have a8 := f8.at_ _ _ (by simp) a7
  have r8 := f8.at_ _ _ (by simp) r7
  have c8 := f8.at_ _ _ (by simp) hc
  have k8 := f8.at_ _ _ (by simp) hk
  repeat first | with_reducible refine Eq.mpr wps_cons ?_ | with_reducible refine Eq.mpr wps_pass ?_ | with_reducible refine Eq.mpr wps_nil ?_ | with_reducible refine Eq.mpr wps_set ?_ | with_reducible refine Eq.mpr wps_do ?_ | with_reducible refine Eq.mpr wps_ret ?_ | with_reducible refine Eq.mpr wps_retN ?_ | with_reducible refine Eq.mpr wps_brk ?_ | with_reducible refine Eq.mpr wps_cnt ?_ | with_reducible refine Eq.mpr wps_if ?_ | with_reducible refine Eq.mpr wps_asg ?_ | with_reducible refine Eq.mpr wps_put ?_ | with_reducible refine Eq.mpr wps_dput ?_ | with_reducible refine Eq.mpr wps_aug ?_ | with_reducible refine Eq.mpr wps_par ?_ | with_reducible refine Eq.mpr wps_for ?_ | with_reducible refine Eq.mpr wps_wh ?_ | simp only [wp_bd, wp_lc, ql_nx, ql_ct, ql_bk, ql_rt, iSeq, iEnu, Mir.iRev, chkR, chkT, chkO, lstO, wp_some, wp_ite, wp_none, bd_some, eVar, eC, eOp, eUn, eFn, eMt, aNil, aCons, eTup, eLst, eAnd, eOr, eNot, eIf, eIsi, eChain, bTest, bTruth, bAnd, bOr, bNot, bYes, eSl, pNo, pAt, eDnew, eDin, eDget, eDget2, tgM_name, tgM_tup, tgMs_nil, tgMs_name, tgMs_tup, List.getElem?_cons_succ, List.getElem?_cons_zero, List.set_cons_succ, List.set_cons_zero, List.map_cons, List.map_nil, List.length_cons, List.length_nil, List.replicate, List.nil_append, List.cons_append, if_true, if_false, Bool.false_eq_true, Bool.true_eq_false, Nat.reduceAdd, Nat.reduceSub, Nat.reduceLeDiff, Nat.zero_add, Bool.not_true, Bool.not_false, Int.cast_ofNat_Int, not_true_eq_false, not_false_eq_true, ii, addI, subI, negI, int1, eqI, neI, eqS, neS, ix0, ix1, ix2, ix3, decide_eq_true_eq, Bool.not_eq_true', decide_eq_false_iff_not, truB, truN, keyI, keyS, lenT, wipeM, isN, Mir.isNon]
  refine same_ok a8 c8 r8 k8 q8 sm d (by omega) fun PS p s9 nd iff p9 lp f9 => ?_
  have a9 := f9.at_ _ _ (by simp) a8
  have r9 := f9.at_ _ _ (by simp) r8
  have q9 := f9.at_ _ _ (by simp) q8
  have perm : PS.Perm (List.range C.length) := perm_of nd List.nodup_range fun i => by rw [iff, List.mem_range]
  have hPl : PS.length ≤ C.length := nd_len nd fun j hj => (iff j).mp hj
  have hC := smC.len
  have hpl : (wp2 (PS.map (pj B C ms))).length ≤ 100000 := by rw [wp2, List.length_map, List.length_map]; omega
  repeat first | with_reducible refine Eq.mpr wps_cons ?_ | with_reducible refine Eq.mpr wps_pass ?_ | with_reducible refine Eq.mpr wps_nil ?_ | with_reducible refine Eq.mpr wps_set ?_ | with_reducible refine Eq.mpr wps_do ?_ | with_reducible refine Eq.mpr wps_ret ?_ | with_reducible refine Eq.mpr wps_retN ?_ | with_reducible refine Eq.mpr wps_brk ?_ | with_reducible refine Eq.mpr wps_cnt ?_ | with_reducible refine Eq.mpr wps_if ?_ | with_reducible refine Eq.mpr wps_asg ?_ | with_reducible refine Eq.mpr wps_put ?_ | with_reducible refine Eq.mpr wps_dput ?_ | with_reducible refine Eq.mpr wps_aug ?_ | with_reducible refine Eq.mpr wps_par ?_ | with_reducible refine Eq.mpr wps_for ?_ | with_reducible refine Eq.mpr wps_wh ?_ | simp only [wp_bd, wp_lc, ql_nx, ql_ct, ql_bk, ql_rt, iSeq, iEnu, Mir.iRev, chkR, chkT, chkO, lstO, wp_some, wp_ite, wp_none, bd_some, eVar, eC, eOp, eUn, eFn, eMt, aNil, aCons, eTup, eLst, eAnd, eOr, eNot, eIf, eIsi, eChain, bTest, bTruth, bAnd, bOr, bNot, bYes, eSl, pNo, pAt, eDnew, eDin, eDget, eDget2, tgM_name, tgM_tup, tgMs_nil, tgMs_name, tgMs_tup, List.getElem?_cons_succ, List.getElem?_cons_zero, List.set_cons_succ, List.set_cons_zero, List.map_cons, List.map_nil, List.length_cons, List.length_nil, List.replicate, List.nil_append, List.cons_append, if_true, if_false, Bool.false_eq_true, Bool.true_eq_false, Nat.reduceAdd, Nat.reduceSub, Nat.reduceLeDiff, Nat.zero_add, Bool.not_true, Bool.not_false, Int.cast_ofNat_Int, not_true_eq_false, not_false_eq_true, ii, addI, subI, negI, int1, eqI, neI, eqS, neS, ix0, ix1, ix2, ix3, decide_eq_true_eq, Bool.not_eq_true', decide_eq_false_iff_not, truB, truN, keyI, keyS, lenT, wipeM, isN, Mir.isNon, lstR p9]
  refine ⟨hpl, part_lc p9 (g := Prod.fst) (fun v => by simp only [mkF, bd_some, bd_none, sCons, sNil, sSet, sAsg, sPar, sDo, sRet, sRetN, sIf, sPut, sAug, sBrk, sCnt, sFor, iSeq, iEnu, Mir.iRev, Mir.iRng1, Mir.iRng2, eVar, eC, eOp, eUn, eFn, eMt, aNil, aCons, eTup, eLst, eAnd, eOr, eNot, eIf, bTest, bTruth, bAnd, bOr, bNot, bYes, eSl, pNo, pAt, tgM_name, tgM_tup, tgMs_nil, tgMs_name, tgMs_tup, List.getElem?_cons_succ, List.getElem?_cons_zero, List.set_cons_succ, List.set_cons_zero, List.map_cons, List.map_nil, List.length_cons, List.length_nil, List.replicate, List.nil_append, List.cons_append, if_true, if_false, Bool.false_eq_true, Nat.reduceAdd, Nat.reduceSub, Nat.reduceLeDiff, Nat.zero_add, Bool.not_true, Bool.not_false, pr, ix0]) ?_⟩
  have a10 := gapp (t := [O.lst (wi ((PS.map (pj B C ms)).map Prod.fst))]) a9
  have r10 := gapp (t := [O.lst (wi ((PS.map (pj B C ms)).map Prod.fst))]) r9
  have q10 := gapp (t := [O.lst (wi ((PS.map (pj B C ms)).map Prod.fst))]) q9
  have p10 := gapp (t := [O.lst (wi ((PS.map (pj B C ms)).map Prod.fst))]) p9
  have x10 : (s9 ++ [O.lst (wi ((PS.map (pj B C ms)).map Prod.fst))])[s9.length]? = some (.lst (wi ((PS.map (pj B C ms)).map Prod.fst))) := gnew
  have lp9 := gltn p9
  generalize s9 ++ [O.lst (wi ((PS.map (pj B C ms)).map Prod.fst))] = s10 at a10 r10 q10 p10 x10 ⊢
  generalize s9.length = x at x10 ⊢
  generalize ex : (PS.map (pj B C ms)).map Prod.fst = X at x10
  have a11 := gapp (t := [O.lst (wi (sortI X))]) a10
  have r11 := gapp (t := [O.lst (wi (sortI X))]) r10
  have q11 := gapp (t := [O.lst (wi (sortI X))]) q10
  have p11 := gapp (t := [O.lst (wi (sortI X))]) p10
  have o11 : (s10 ++ [O.lst (wi (sortI X))])[s10.length]? = some (.lst (wi (sortI X))) := gnew
  repeat first | with_reducible refine Eq.mpr wps_cons ?_ | with_reducible refine Eq.mpr wps_pass ?_ | with_reducible refine Eq.mpr wps_nil ?_ | with_reducible refine Eq.mpr wps_set ?_ | with_reducible refine Eq.mpr wps_do ?_ | with_reducible refine Eq.mpr wps_ret ?_ | with_reducible refine Eq.mpr wps_retN ?_ | with_reducible refine Eq.mpr wps_brk ?_ | with_reducible refine Eq.mpr wps_cnt ?_ | with_reducible refine Eq.mpr wps_if ?_ | with_reducible refine Eq.mpr wps_asg ?_ | with_reducible refine Eq.mpr wps_put ?_ | with_reducible refine Eq.mpr wps_dput ?_ | with_reducible refine Eq.mpr wps_aug ?_ | with_reducible refine Eq.mpr wps_par ?_ | with_reducible refine Eq.mpr wps_for ?_ | with_reducible refine Eq.mpr wps_wh ?_ | simp only [wp_bd, wp_lc, ql_nx, ql_ct, ql_bk, ql_rt, iSeq, iEnu, Mir.iRev, chkR, chkT, chkO, lstO, wp_some, wp_ite, wp_none, bd_some, eVar, eC, eOp, eUn, eFn, eMt, aNil, aCons, eTup, eLst, eAnd, eOr, eNot, eIf, eIsi, eChain, bTest, bTruth, bAnd, bOr, bNot, bYes, eSl, pNo, pAt, eDnew, eDin, eDget, eDget2, tgM_name, tgM_tup, tgMs_nil, tgMs_name, tgMs_tup, List.getElem?_cons_succ, List.getElem?_cons_zero, List.set_cons_succ, List.set_cons_zero, List.map_cons, List.map_nil, List.length_cons, List.length_nil, List.replicate, List.nil_append, List.cons_append, if_true, if_false, Bool.false_eq_true, Bool.true_eq_false, Nat.reduceAdd, Nat.reduceSub, Nat.reduceLeDiff, Nat.zero_add, Bool.not_true, Bool.not_false, Int.cast_ofNat_Int, not_true_eq_false, not_false_eq_true, ii, addI, subI, negI, int1, eqI, neI, eqS, neS, ix0, ix1, ix2, ix3, decide_eq_true_eq, Bool.not_eq_true', decide_eq_false_iff_not, truB, truN, keyI, keyS, lenT, wipeM, sortL x10, lstR p11]
  generalize s10 ++ [O.lst (wi (sortI X))] = s11 at a11 r11 q11 p11 o11 ⊢
  generalize s10.length = o at o11 ⊢
  refine ⟨hpl, part_lc p11 (g := Prod.snd) (fun v => by simp only [mkF, bd_some, bd_none, sCons, sNil, sSet, sAsg, sPar, sDo, sRet, sRetN, sIf, sPut, sAug, sBrk, sCnt, sFor, iSeq, iEnu, Mir.iRev, Mir.iRng1, Mir.iRng2, eVar, eC, eOp, eUn, eFn, eMt, aNil, aCons, eTup, eLst, eAnd, eOr, eNot, eIf, bTest, bTruth, bAnd, bOr, bNot, bYes, eSl, pNo, pAt, tgM_name, tgM_tup, tgMs_nil, tgMs_name, tgMs_tup, List.getElem?_cons_succ, List.getElem?_cons_zero, List.set_cons_succ, List.set_cons_zero, List.map_cons, List.map_nil, List.length_cons, List.length_nil, List.replicate, List.nil_append, List.cons_append, if_true, if_false, Bool.false_eq_true, Nat.reduceAdd, Nat.reduceSub, Nat.reduceLeDiff, Nat.zero_add, Bool.not_true, Bool.not_false, pr, ix1]) ?_⟩
  have a12 := gapp (t := [O.lst (wi ((PS.map (pj B C ms)).map Prod.snd))]) a11
  have r12 := gapp (t := [O.lst (wi ((PS.map (pj B C ms)).map Prod.snd))]) r11
  have q12 := gapp (t := [O.lst (wi ((PS.map (pj B C ms)).map Prod.snd))]) q11
  have p12 := gapp (t := [O.lst (wi ((PS.map (pj B C ms)).map Prod.snd))]) p11
  have o12 := gapp (t := [O.lst (wi ((PS.map (pj B C ms)).map Prod.snd))]) o11
  have x12 : (s11 ++ [O.lst (wi ((PS.map (pj B C ms)).map Prod.snd))])[s11.length]? = some (.lst (wi ((PS.map (pj B C ms)).map Prod.snd))) := gnew
  generalize s11 ++ [O.lst (wi ((PS.map (pj B C ms)).map Prod.snd))] = s12 at a12 r12 q12 p12 o12 x12 ⊢
  generalize s11.length = y at x12 ⊢
  generalize ey : (PS.map (pj B C ms)).map Prod.snd = Y at x12
  have a13 := gapp (t := [O.lst (wi (sortI Y))]) a12
  have r13 := gapp (t := [O.lst (wi (sortI Y))]) r12
  have q13 := gapp (t := [O.lst (wi (sortI Y))]) q12
  have p13 := gapp (t := [O.lst (wi (sortI Y))]) p12
  have o13 := gapp (t := [O.lst (wi (sortI Y))]) o12
  have u13 : (s12 ++ [O.lst (wi (sortI Y))])[s12.length]? = some (.lst (wi (sortI Y))) := gnew
  repeat first | with_reducible refine Eq.mpr wps_cons ?_ | with_reducible refine Eq.mpr wps_pass ?_ | with_reducible refine Eq.mpr wps_nil ?_ | with_reducible refine Eq.mpr wps_set ?_ | with_reducible refine Eq.mpr wps_do ?_ | with_reducible refine Eq.mpr wps_ret ?_ | with_reducible refine Eq.mpr wps_retN ?_ | with_reducible refine Eq.mpr wps_brk ?_ | with_reducible refine Eq.mpr wps_cnt ?_ | with_reducible refine Eq.mpr wps_if ?_ | with_reducible refine Eq.mpr wps_asg ?_ | with_reducible refine Eq.mpr wps_put ?_ | with_reducible refine Eq.mpr wps_dput ?_ | with_reducible refine Eq.mpr wps_aug ?_ | with_reducible refine Eq.mpr wps_par ?_ | with_reducible refine Eq.mpr wps_for ?_ | with_reducible refine Eq.mpr wps_wh ?_ | simp only [wp_bd, wp_lc, ql_nx, ql_ct, ql_bk, ql_rt, iSeq, iEnu, Mir.iRev, chkR, chkT, chkO, lstO, wp_some, wp_ite, wp_none, bd_some, eVar, eC, eOp, eUn, eFn, eMt, aNil, aCons, eTup, eLst, eAnd, eOr, eNot, eIf, eIsi, eChain, bTest, bTruth, bAnd, bOr, bNot, bYes, eSl, pNo, pAt, eDnew, eDin, eDget, eDget2, tgM_name, tgM_tup, tgMs_nil, tgMs_name, tgMs_tup, List.getElem?_cons_succ, List.getElem?_cons_zero, List.set_cons_succ, List.set_cons_zero, List.map_cons, List.map_nil, List.length_cons, List.length_nil, List.replicate, List.nil_append, List.cons_append, if_true, if_false, Bool.false_eq_true, Bool.true_eq_false, Nat.reduceAdd, Nat.reduceSub, Nat.reduceLeDiff, Nat.zero_add, Bool.not_true, Bool.not_false, Int.cast_ofNat_Int, not_true_eq_false, not_false_eq_true, ii, addI, subI, negI, int1, eqI, neI, eqS, neS, ix0, ix1, ix2, ix3, decide_eq_true_eq, Bool.not_eq_true', decide_eq_false_iff_not, truB, truN, keyI, keyS, lenT, wipeM, sortL x12]
  generalize s12 ++ [O.lst (wi (sortI Y))] = s13 at a13 r13 q13 p13 o13 u13 ⊢
  generalize s12.length = u at u13 ⊢
  refine live_ok a13 r13 sm wf hg (by omega) fun S z s14 ndS rch z14 lz f14 => ?_
  have q14 := f14.at_ _ _ (by simp) q13
  have p14 := f14.at_ _ _ (by simp) p13
  have o14 := f14.at_ _ _ (by simp) o13
  have u14 := f14.at_ _ _ (by simp) u13
  -- the first parts are the words that are alive
  have msl : ms.length = C.length := d.sc.len.symm
  have hX : X.Perm (S.map (pw B)) := by
    rw [← ex, List.map_map]
    have h1 : (PS.map (Prod.fst ∘ pj B C ms)).Perm ((List.range C.length).map (Prod.fst ∘ pj B C ms)) := perm.map _
    have h2 : (List.range C.length).map (Prod.fst ∘ pj B C ms) = ms.map (pw B) := by
      apply List.ext_getElem?
      intro i
      rw [List.getElem?_map, List.getElem?_map]
      by_cases hi : i < C.length
      · rw [List.getElem?_range hi, List.getElem?_eq_getElem (by omega)]
        simp only [Option.map_some, Function.comp, pj, mj]
        rw [List.getElem?_eq_getElem (by omega)]
        rfl
      · rw [List.getElem?_eq_none (by simp; omega), List.getElem?_eq_none (by omega)]; rfl
    rw [h2] at h1
    exact h1.trans ((perm_of d.nd ndS fun i => (d.rch i).trans (rch i).symm).map _)
  have hY : sortI Y = (List.range C.length).map (pw C) := by
    rw [← ey, List.map_map]
    have h1 : (PS.map (Prod.snd ∘ pj B C ms)).Perm ((List.range C.length).map (Prod.snd ∘ pj B C ms)) := perm.map _
    have h2 : (List.range C.length).map (Prod.snd ∘ pj B C ms) = (List.range C.length).map (pw C) := rfl
    rw [h2] at h1
    exact (sortI_uniq h1.symm (range_up C)).symm
  have o15 := gapp (t := [O.lst (wi (sortI (S.map (pw B))))]) o14
  have q15 := gapp (t := [O.lst (wi (sortI (S.map (pw B))))]) q14
  have p15 := gapp (t := [O.lst (wi (sortI (S.map (pw B))))]) p14
  have u15 := gapp (t := [O.lst (wi (sortI (S.map (pw B))))]) u14
  have z15 : (s14 ++ [O.lst (wi (sortI (S.map (pw B))))])[s14.length]? = some (.lst (wi (sortI (S.map (pw B))))) := gnew
  repeat first | with_reducible refine Eq.mpr wps_cons ?_ | with_reducible refine Eq.mpr wps_pass ?_ | with_reducible refine Eq.mpr wps_nil ?_ | with_reducible refine Eq.mpr wps_set ?_ | with_reducible refine Eq.mpr wps_do ?_ | with_reducible refine Eq.mpr wps_ret ?_ | with_reducible refine Eq.mpr wps_retN ?_ | with_reducible refine Eq.mpr wps_brk ?_ | with_reducible refine Eq.mpr wps_cnt ?_ | with_reducible refine Eq.mpr wps_if ?_ | with_reducible refine Eq.mpr wps_asg ?_ | with_reducible refine Eq.mpr wps_put ?_ | with_reducible refine Eq.mpr wps_dput ?_ | with_reducible refine Eq.mpr wps_aug ?_ | with_reducible refine Eq.mpr wps_par ?_ | with_reducible refine Eq.mpr wps_for ?_ | with_reducible refine Eq.mpr wps_wh ?_ | simp only [wp_bd, wp_lc, ql_nx, ql_ct, ql_bk, ql_rt, iSeq, iEnu, Mir.iRev, chkR, chkT, chkO, lstO, wp_some, wp_ite, wp_none, bd_some, eVar, eC, eOp, eUn, eFn, eMt, aNil, aCons, eTup, eLst, eAnd, eOr, eNot, eIf, eIsi, eChain, bTest, bTruth, bAnd, bOr, bNot, bYes, eSl, pNo, pAt, eDnew, eDin, eDget, eDget2, tgM_name, tgM_tup, tgMs_nil, tgMs_name, tgMs_tup, List.getElem?_cons_succ, List.getElem?_cons_zero, List.set_cons_succ, List.set_cons_zero, List.map_cons, List.map_nil, List.length_cons, List.length_nil, List.replicate, List.nil_append, List.cons_append, if_true, if_false, Bool.false_eq_true, Bool.true_eq_false, Nat.reduceAdd, Nat.reduceSub, Nat.reduceLeDiff, Nat.zero_add, Bool.not_true, Bool.not_false, Int.cast_ofNat_Int, not_true_eq_false, not_false_eq_true, ii, addI, subI, negI, int1, eqI, neI, eqS, neS, ix0, ix1, ix2, ix3, decide_eq_true_eq, Bool.not_eq_true', decide_eq_false_iff_not, truB, truN, keyI, keyS, lenT, wipeM, sortL z14, ne_ints o15 z15, sort_eq hX, decide_true, lstR q15]
  generalize s14 ++ [O.lst (wi (sortI (S.map (pw B))))] = s15 at q15 p15 u15 ⊢
  refine ⟨by rw [List.length_map, offs_len]; omega, ?_⟩
  refine wp_lcf (fun k acc s' => s' = s15 ∧ acc = wi (((List.range C.length).map (pw C)).take k)) _ 0 [] s15 ⟨rfl, rfl⟩ ?_ ?_
  · rintro i v acc s' hv ⟨rfl, rfl⟩
    refine ⟨q15, _, rfl, ?_⟩
    have hi : i < C.length := by have := (List.getElem?_eq_some_iff.mp hv).1; rw [List.length_map, offs_len] at this; exact this
    rw [List.getElem?_map, offs_get hi] at hv
    obtain rfl := (Option.some.inj hv).symm
    repeat first | with_reducible refine Eq.mpr wps_cons ?_ | with_reducible refine Eq.mpr wps_pass ?_ | with_reducible refine Eq.mpr wps_nil ?_ | with_reducible refine Eq.mpr wps_set ?_ | with_reducible refine Eq.mpr wps_do ?_ | with_reducible refine Eq.mpr wps_ret ?_ | with_reducible refine Eq.mpr wps_retN ?_ | with_reducible refine Eq.mpr wps_brk ?_ | with_reducible refine Eq.mpr wps_cnt ?_ | with_reducible refine Eq.mpr wps_if ?_ | with_reducible refine Eq.mpr wps_asg ?_ | with_reducible refine Eq.mpr wps_put ?_ | with_reducible refine Eq.mpr wps_dput ?_ | with_reducible refine Eq.mpr wps_aug ?_ | with_reducible refine Eq.mpr wps_par ?_ | with_reducible refine Eq.mpr wps_for ?_ | with_reducible refine Eq.mpr wps_wh ?_ | simp only [wp_bd, wp_lc, ql_nx, ql_ct, ql_bk, ql_rt, iSeq, iEnu, Mir.iRev, chkR, chkT, chkO, lstO, wp_some, wp_ite, wp_none, bd_some, eVar, eC, eOp, eUn, eFn, eMt, aNil, aCons, eTup, eLst, eAnd, eOr, eNot, eIf, eIsi, eChain, bTest, bTruth, bAnd, bOr, bNot, bYes, eSl, pNo, pAt, eDnew, eDin, eDget, eDget2, tgM_name, tgM_tup, tgMs_nil, tgMs_name, tgMs_tup, List.getElem?_cons_succ, List.getElem?_cons_zero, List.set_cons_succ, List.set_cons_zero, List.map_cons, List.map_nil, List.length_cons, List.length_nil, List.replicate, List.nil_append, List.cons_append, if_true, if_false, Bool.false_eq_true, Bool.true_eq_false, Nat.reduceAdd, Nat.reduceSub, Nat.reduceLeDiff, Nat.zero_add, Bool.not_true, Bool.not_false, Int.cast_ofNat_Int, not_true_eq_false, not_false_eq_true, ii, addI, subI, negI, int1, eqI, neI, eqS, neS, ix0, ix1, ix2, ix3, decide_eq_true_eq, Bool.not_eq_true', decide_eq_false_iff_not, truB, truN, keyI, keyS, lenT, wipeM, mulL (i := 4) (by decide) (by decide)]
    refine ⟨trivial, ?_⟩
    rw [List.take_add_one, List.getElem?_map, List.getElem?_range hi]
    simp [pw]
  rintro acc s' ⟨rfl, rfl⟩
  refine ⟨q15, fun ws e => ?_⟩
  rw [List.nil_append, Nat.zero_add, List.take_of_length_le (by simp [offs_len])] at e
  subst e
  have u16 := gapp (t := [O.lst (wi ((List.range C.length).map (pw C)))]) u15
  have q16 := gapp (t := [O.lst (wi ((List.range C.length).map (pw C)))]) q15
  have p16 := gapp (t := [O.lst (wi ((List.range C.length).map (pw C)))]) p15
  have w16 : (s' ++ [O.lst (wi ((List.range C.length).map (pw C)))])[s'.length]? = some (.lst (wi ((List.range C.length).map (pw C)))) := gnew
  have hPC : PS.length = C.length := by rw [perm.length_eq, List.length_range]
  repeat first | with_reducible refine Eq.mpr wps_cons ?_ | with_reducible refine Eq.mpr wps_pass ?_ | with_reducible refine Eq.mpr wps_nil ?_ | with_reducible refine Eq.mpr wps_set ?_ | with_reducible refine Eq.mpr wps_do ?_ | with_reducible refine Eq.mpr wps_ret ?_ | with_reducible refine Eq.mpr wps_retN ?_ | with_reducible refine Eq.mpr wps_brk ?_ | with_reducible refine Eq.mpr wps_cnt ?_ | with_reducible refine Eq.mpr wps_if ?_ | with_reducible refine Eq.mpr wps_asg ?_ | with_reducible refine Eq.mpr wps_put ?_ | with_reducible refine Eq.mpr wps_dput ?_ | with_reducible refine Eq.mpr wps_aug ?_ | with_reducible refine Eq.mpr wps_par ?_ | with_reducible refine Eq.mpr wps_for ?_ | with_reducible refine Eq.mpr wps_wh ?_ | simp only [wp_bd, wp_lc, ql_nx, ql_ct, ql_bk, ql_rt, iSeq, iEnu, Mir.iRev, chkR, chkT, chkO, lstO, wp_some, wp_ite, wp_none, bd_some, eVar, eC, eOp, eUn, eFn, eMt, aNil, aCons, eTup, eLst, eAnd, eOr, eNot, eIf, eIsi, eChain, bTest, bTruth, bAnd, bOr, bNot, bYes, eSl, pNo, pAt, eDnew, eDin, eDget, eDget2, tgM_name, tgM_tup, tgMs_nil, tgMs_name, tgMs_tup, List.getElem?_cons_succ, List.getElem?_cons_zero, List.set_cons_succ, List.set_cons_zero, List.map_cons, List.map_nil, List.length_cons, List.length_nil, List.replicate, List.nil_append, List.cons_append, if_true, if_false, Bool.false_eq_true, Bool.true_eq_false, Nat.reduceAdd, Nat.reduceSub, Nat.reduceLeDiff, Nat.zero_add, Bool.not_true, Bool.not_false, Int.cast_ofNat_Int, not_true_eq_false, not_false_eq_true, ii, addI, subI, negI, int1, eqI, neI, eqS, neS, ix0, ix1, ix2, ix3, decide_eq_true_eq, Bool.not_eq_true', decide_eq_false_iff_not, truB, truN, keyI, keyS, lenT, wipeM, ne_ints u16 w16, hY, decide_true, lenL p16, lenL q16, List.length_map, offs_len, wp2, hPC]
end K73

set_option Elab.async false
set_option linter.all false
set_option maxRecDepth 100000
namespace K73
open PySem PySem.Spec PyProof.Rows L2 Mir
theorem all_mk {l : PySem.W.OpenLaw} {w : World} {K : PySem.W.Frag} {h : Heap} {mg : Str → Option Value} {fa f1 f2 f3 f4 f5 f6 f7 f8 f9 f10 f11 f12 f13 f14 f15 : Addr} (X : K.In h) (G : h.Ns mainGlobals mg) (hfa : mg "law" = some (.ref fa))
    {od1 an1 od2 an2 od3 an3 od4 an4 od5 an5 od6 an6 od7 an7 od8 an8 od9 an9 od10 an10 od11 an11 od12 an12 od13 an13 od14 an14 od15 an15 : Option Addr} {sl1 sl2 sl3 sl4 sl5 sl6 sl7 sl8 sl9 sl10 sl11 sl12 sl13 sl14 sl15 : Array (Option Value)} {oc1 kV1 dc1 pm1 cd1 ct1 oc2 kV2 dc2 pm2 cd2 ct2 oc3 kV3 dc3 pm3 cd3 ct3 oc4 kV4 dc4 pm4 cd4 ct4 oc5 kV5 dc5 pm5 cd5 ct5 oc6 kV6 dc6 pm6 cd6 ct6 oc7 kV7 dc7 pm7 cd7 ct7 oc8 kV8 dc8 pm8 cd8 ct8 oc9 kV9 dc9 pm9 cd9 ct9 oc10 kV10 dc10 pm10 cd10 ct10 oc11 kV11 dc11 pm11 cd11 ct11 oc12 kV12 dc12 pm12 cd12 ct12 oc13 kV13 dc13 pm13 cd13 ct13 oc14 kV14 dc14 pm14 cd14 ct14 oc15 kV15 dc15 pm15 cd15 ct15 : Value}
    (a1 : PySem.W.nsIn K mainGlobals "word_of_block" = some (some (.ref f1))) (l1 : K.lookup f1 = some ⟨oc1, od1, .func (PySem.W.fnOf "word_of_block" "word_of_block" (defArgs sWordOfBlock) (defBody sWordOfBlock) (defScope sWordOfBlock) .none kV1 dc1 pm1 an1 cd1 ct1), sl1⟩) (c1 : PySem.W.codeIn K cd1 "word_of_block" = true) (k1 : PySem.W.keepIn K (.ref f1) = true)
    (a2 : PySem.W.nsIn K mainGlobals "names_block" = some (some (.ref f2))) (l2 : K.lookup f2 = some ⟨oc2, od2, .func (PySem.W.fnOf "names_block" "names_block" (defArgs sNamesBlock) (defBody sNamesBlock) (defScope sNamesBlock) .none kV2 dc2 pm2 an2 cd2 ct2), sl2⟩) (c2 : PySem.W.codeIn K cd2 "names_block" = true) (k2 : PySem.W.keepIn K (.ref f2) = true)
    (a3 : PySem.W.nsIn K mainGlobals "address_of" = some (some (.ref f3))) (l3 : K.lookup f3 = some ⟨oc3, od3, .func (PySem.W.fnOf "address_of" "address_of" (defArgs sAddressOf) (defBody sAddressOf) (defScope sAddressOf) .none kV3 dc3 pm3 an3 cd3 ct3), sl3⟩) (c3 : PySem.W.codeIn K cd3 "address_of" = true) (k3 : PySem.W.keepIn K (.ref f3) = true)
    (a4 : PySem.W.nsIn K mainGlobals "block_length" = some (some (.ref f4))) (l4 : K.lookup f4 = some ⟨oc4, od4, .func (PySem.W.fnOf "block_length" "block_length" (defArgs sBlockLength) (defBody sBlockLength) (defScope sBlockLength) .none kV4 dc4 pm4 an4 cd4 ct4), sl4⟩) (c4 : PySem.W.codeIn K cd4 "block_length" = true) (k4 : PySem.W.keepIn K (.ref f4) = true)
    (a5 : PySem.W.nsIn K mainGlobals "collect" = some (some (.ref f5))) (l5 : K.lookup f5 = some ⟨oc5, od5, .func (PySem.W.fnOf "collect" "collect" (defArgs sCollect) (defBody sCollect) (defScope sCollect) .none kV5 dc5 pm5 an5 cd5 ct5), sl5⟩) (c5 : PySem.W.codeIn K cd5 "collect" = true) (k5 : PySem.W.keepIn K (.ref f5) = true)
    (a6 : PySem.W.nsIn K mainGlobals "moved_word" = some (some (.ref f6))) (l6 : K.lookup f6 = some ⟨oc6, od6, .func (PySem.W.fnOf "moved_word" "moved_word" (defArgs sMovedWord) (defBody sMovedWord) (defScope sMovedWord) .none kV6 dc6 pm6 an6 cd6 ct6), sl6⟩) (c6 : PySem.W.codeIn K cd6 "moved_word" = true) (k6 : PySem.W.keepIn K (.ref f6) = true)
    (a7 : PySem.W.nsIn K mainGlobals "_law_mix" = some (some (.ref f7))) (l7 : K.lookup f7 = some ⟨oc7, od7, .func (PySem.W.fnOf "_law_mix" "_law_mix" (defArgs sLawMix) (defBody sLawMix) (defScope sLawMix) .none kV7 dc7 pm7 an7 cd7 ct7), sl7⟩) (c7 : PySem.W.codeIn K cd7 "_law_mix" = true) (k7 : PySem.W.keepIn K (.ref f7) = true)
    (a8 : PySem.W.nsIn K mainGlobals "_law_tape" = some (some (.ref f8))) (l8 : K.lookup f8 = some ⟨oc8, od8, .func (PySem.W.fnOf "_law_tape" "_law_tape" (defArgs sLawTape) (defBody sLawTape) (defScope sLawTape) .none kV8 dc8 pm8 an8 cd8 ct8), sl8⟩) (c8 : PySem.W.codeIn K cd8 "_law_tape" = true) (k8 : PySem.W.keepIn K (.ref f8) = true)
    (a9 : PySem.W.nsIn K mainGlobals "_law_take" = some (some (.ref f9))) (l9 : K.lookup f9 = some ⟨oc9, od9, .func (PySem.W.fnOf "_law_take" "_law_take" (defArgs sLawTake) (defBody sLawTake) (defScope sLawTake) .none kV9 dc9 pm9 an9 cd9 ct9), sl9⟩) (c9 : PySem.W.codeIn K cd9 "_law_take" = true) (k9 : PySem.W.keepIn K (.ref f9) = true)
    (a10 : PySem.W.nsIn K mainGlobals "_law_words" = some (some (.ref f10))) (l10 : K.lookup f10 = some ⟨oc10, od10, .func (PySem.W.fnOf "_law_words" "_law_words" (defArgs sLawWords) (defBody sLawWords) (defScope sLawWords) .none kV10 dc10 pm10 an10 cd10 ct10), sl10⟩) (c10 : PySem.W.codeIn K cd10 "_law_words" = true) (k10 : PySem.W.keepIn K (.ref f10) = true)
    (a11 : PySem.W.nsIn K mainGlobals "_law_word" = some (some (.ref f11))) (l11 : K.lookup f11 = some ⟨oc11, od11, .func (PySem.W.fnOf "_law_word" "_law_word" (defArgs sLawWord) (defBody sLawWord) (defScope sLawWord) .none kV11 dc11 pm11 an11 cd11 ct11), sl11⟩) (c11 : PySem.W.codeIn K cd11 "_law_word" = true) (k11 : PySem.W.keepIn K (.ref f11) = true)
    (a12 : PySem.W.nsIn K mainGlobals "_law_live" = some (some (.ref f12))) (l12 : K.lookup f12 = some ⟨oc12, od12, .func (PySem.W.fnOf "_law_live" "_law_live" (defArgs sLawLive) (defBody sLawLive) (defScope sLawLive) .none kV12 dc12 pm12 an12 cd12 ct12), sl12⟩) (c12 : PySem.W.codeIn K cd12 "_law_live" = true) (k12 : PySem.W.keepIn K (.ref f12) = true)
    (a13 : PySem.W.nsIn K mainGlobals "_law_begins" = some (some (.ref f13))) (l13 : K.lookup f13 = some ⟨oc13, od13, .func (PySem.W.fnOf "_law_begins" "_law_begins" (defArgs sLawBegins) (defBody sLawBegins) (defScope sLawBegins) .none kV13 dc13 pm13 an13 cd13 ct13), sl13⟩) (c13 : PySem.W.codeIn K cd13 "_law_begins" = true) (k13 : PySem.W.keepIn K (.ref f13) = true)
    (a14 : PySem.W.nsIn K mainGlobals "_law_same" = some (some (.ref f14))) (l14 : K.lookup f14 = some ⟨oc14, od14, .func (PySem.W.fnOf "_law_same" "_law_same" (defArgs sLawSame) (defBody sLawSame) (defScope sLawSame) .none kV14 dc14 pm14 an14 cd14 ct14), sl14⟩) (c14 : PySem.W.codeIn K cd14 "_law_same" = true) (k14 : PySem.W.keepIn K (.ref f14) = true)
    (a15 : PySem.W.nsIn K mainGlobals "law" = some (some (.ref f15))) (l15 : K.lookup f15 = some ⟨oc15, od15, .func (PySem.W.fnOf "law" "law" (defArgs sLaw) (defBody sLaw) (defScope sLaw) .none kV15 dc15 pm15 an15 cd15 ct15), sl15⟩) (c15 : PySem.W.codeIn K cd15 "law" = true) (k15 : PySem.W.keepIn K (.ref f15) = true)
    (z1 : PySem.W.nsIn K mainGlobals "bool" = some none)
    (z2 : PySem.W.nsIn K mainGlobals "int" = some none)
    (z3 : PySem.W.nsIn K mainGlobals "isinstance" = some none)
    (z4 : PySem.W.nsIn K mainGlobals "len" = some none)
    (z5 : PySem.W.nsIn K mainGlobals "list" = some none)
    (z6 : PySem.W.nsIn K mainGlobals "range" = some none)
    (z7 : PySem.W.nsIn K mainGlobals "sorted" = some none)
    (z8 : PySem.W.nsIn K mainGlobals "tuple" = some none)
    {t0 : Tok} (x0 : PySem.W.nsIn K mainGlobals "HEADER" = some (some (.int 4 t0)))
    : ∃ fd : FuncData, (∀ (s : Shared) (v : Value), BindsTo s fd ⟨[v], []⟩ [("script", v)]) ∧ ∀ base : Heap, K.In base → base.Ns mainGlobals mg → FnOk l.prog w K mg base CX0 5 fa fd ["script"] (spF K 1 FLaw) := by
  have e := hfa.symm.trans (PySem.W.mg_of X G a15)
  cases e
  have F1 := fun_mk (st := sWordOfBlock) l1 c1 k1
  have b1 := F1.binds (ps := ["address"]) fun _ _ _ _ _ _ us hl => match us, hl with | [_], _ => rfl
  have g1 := PySem.W.mg_of X G a1
  have F2 := fun_mk (st := sNamesBlock) l2 c2 k2
  have b2 := F2.binds (ps := ["word"]) fun _ _ _ _ _ _ us hl => match us, hl with | [_], _ => rfl
  have g2 := PySem.W.mg_of X G a2
  have F3 := fun_mk (st := sAddressOf) l3 c3 k3
  have b3 := F3.binds (ps := ["word"]) fun _ _ _ _ _ _ us hl => match us, hl with | [_], _ => rfl
  have g3 := PySem.W.mg_of X G a3
  have F4 := fun_mk (st := sBlockLength) l4 c4 k4
  have b4 := F4.binds (ps := ["words", "address"]) fun _ _ _ _ _ _ us hl => match us, hl with | [_, _], _ => rfl
  have g4 := PySem.W.mg_of X G a4
  have F5 := fun_mk (st := sCollect) l5 c5 k5
  have b5 := F5.binds (ps := ["words", "roots"]) fun _ _ _ _ _ _ us hl => match us, hl with | [_, _], _ => rfl
  have g5 := PySem.W.mg_of X G a5
  have F6 := fun_mk (st := sMovedWord) l6 c6 k6
  have b6 := F6.binds (ps := ["words", "word", "copied", "moved"]) fun _ _ _ _ _ _ us hl => match us, hl with | [_, _, _, _], _ => rfl
  have g6 := PySem.W.mg_of X G a6
  have F7 := fun_mk (st := sLawMix) l7 c7 k7
  have b7 := F7.binds (ps := ["number"]) fun _ _ _ _ _ _ us hl => match us, hl with | [_], _ => rfl
  have g7 := PySem.W.mg_of X G a7
  have F8 := fun_mk (st := sLawTape) l8 c8 k8
  have b8 := F8.binds (ps := ["script", "budget"]) fun _ _ _ _ _ _ us hl => match us, hl with | [_, _], _ => rfl
  have g8 := PySem.W.mg_of X G a8
  have F9 := fun_mk (st := sLawTake) l9 c9 k9
  have b9 := F9.binds (ps := ["tape", "many"]) fun _ _ _ _ _ _ us hl => match us, hl with | [_, _], _ => rfl
  have g9 := PySem.W.mg_of X G a9
  have F10 := fun_mk (st := sLawWords) l10 c10 k10
  have b10 := F10.binds (ps := ["tape"]) fun _ _ _ _ _ _ us hl => match us, hl with | [_], _ => rfl
  have g10 := PySem.W.mg_of X G a10
  have F11 := fun_mk (st := sLawWord) l11 c11 k11
  have b11 := F11.binds (ps := ["tape", "blocks"]) fun _ _ _ _ _ _ us hl => match us, hl with | [_, _], _ => rfl
  have g11 := PySem.W.mg_of X G a11
  have F12 := fun_mk (st := sLawLive) l12 c12 k12
  have b12 := F12.binds (ps := ["words", "roots"]) fun _ _ _ _ _ _ us hl => match us, hl with | [_, _], _ => rfl
  have g12 := PySem.W.mg_of X G a12
  have F13 := fun_mk (st := sLawBegins) l13 c13 k13
  have b13 := F13.binds (ps := ["space"]) fun _ _ _ _ _ _ us hl => match us, hl with | [_], _ => rfl
  have g13 := PySem.W.mg_of X G a13
  have F14 := fun_mk (st := sLawSame) l14 c14 k14
  have b14 := F14.binds (ps := ["words", "space", "roots", "moved", "begins"]) fun _ _ _ _ _ _ us hl => match us, hl with | [_, _, _, _, _], _ => rfl
  have g14 := PySem.W.mg_of X G a14
  have F15 := fun_mk (st := sLaw) l15 c15 k15
  have b15 := F15.binds (ps := ["script"]) fun _ _ _ _ _ _ us hl => match us, hl with | [_], _ => rfl
  have g15 := PySem.W.mg_of X G a15
  have nb_bool := PySem.W.mg_none_of X G z1
  have nb_int := PySem.W.mg_none_of X G z2
  have nb_isinstance := PySem.W.mg_none_of X G z3
  have nb_len := PySem.W.mg_none_of X G z4
  have nb_list := PySem.W.mg_none_of X G z5
  have nb_range := PySem.W.mg_none_of X G z6
  have nb_sorted := PySem.W.mg_none_of X G z7
  have nb_tuple := PySem.W.mg_none_of X G z8
  have c_HEADER : Cst K mg "HEADER" (.int 4) := cst_int (PySem.W.mg_of X G x0)
  refine ⟨PySem.W.fnOf "law" "law" (defArgs sLaw) (defBody sLaw) (defScope sLaw) .none kV15 dc15 pm15 an15 cd15 ct15, fun s v => .of_eq rfl, fun base _ _ => ?_⟩
  have OWordOfBlock := okWordOfBlock (P := l.prog) (w := w) (base := base) (k := 0) F1 b1 g1 
  have ONamesBlock := okNamesBlock (P := l.prog) (w := w) (base := base) (k := 0) F2 b2 g2 
  have OAddressOf := okAddressOf (P := l.prog) (w := w) (base := base) (k := 0) F3 b3 g3 
  have OBlockLength := okBlockLength (P := l.prog) (w := w) (base := base) (k := 0) F4 b4 g4 c_HEADER
  have OMovedWord := okMovedWord (P := l.prog) (w := w) (base := base) (k := 1) F6 b6 g6 (OWordOfBlock.mono (by decide)) (OBlockLength.mono (by decide)) (OAddressOf.mono (by decide)) (ONamesBlock.mono (by decide)) nb_len
  have OCollect := okCollect (P := l.prog) (w := w) (base := base) (k := 2) F5 b5 g5 (OMovedWord.mono (by decide)) (OBlockLength.mono (by decide)) nb_len nb_range c_HEADER
  have OLawMix := okLawMix (P := l.prog) (w := w) (base := base) (k := 0) F7 b7 g7 nb_int
  have OLawTape := okLawTape (P := l.prog) (w := w) (base := base) (k := 0) F8 b8 g8 nb_list
  have OLawTake := okLawTake (P := l.prog) (w := w) (base := base) (k := 1) F9 b9 g9 (OLawMix.mono (by decide)) nb_int nb_len
  have OLawWord := okLawWord (P := l.prog) (w := w) (base := base) (k := 2) F11 b11 g11 (OLawTake.mono (by decide)) nb_len
  have OLawWords := okLawWords (P := l.prog) (w := w) (base := base) (k := 3) F10 b10 g10 (OLawWord.mono (by decide)) (OLawTake.mono (by decide)) nb_len nb_range
  have OLawLive := okLawLive (P := l.prog) (w := w) (base := base) (k := 0) F12 b12 g12 nb_len nb_list
  have OLawBegins := okLawBegins (P := l.prog) (w := w) (base := base) (k := 0) F13 b13 g13 nb_int nb_isinstance nb_len nb_range
  have OLawSame := okLawSame (P := l.prog) (w := w) (base := base) (k := 0) F14 b14 g14 nb_bool nb_int nb_isinstance nb_len nb_range
  exact okLaw (P := l.prog) (w := w) (base := base) (k := 4) F15 (OLawLive.mono (by decide)) (OLawSame.mono (by decide)) (OLawBegins.mono (by decide)) (OCollect.mono (by decide)) (OLawTake.mono (by decide)) (OLawWord.mono (by decide)) (OLawWords.mono (by decide)) (OLawTape.mono (by decide)) nb_isinstance nb_len nb_list nb_range nb_sorted nb_tuple
end K73
open PySem PySem.W PyProof.Rows
set_option maxHeartbeats 0 in
theorem PySem.Challenge.cw_shapewright_k73_collection_keeps_what_is_holds : PySem.Challenge.rw_shapewright_k73_collection_keeps_what_is.Holds := by
  w_on; o_law; k_head; (case hw => w_witness2)
  k_fill
  refine L2.walk_of (l := PySem.Challenge.rw_shapewright_k73_collection_keeps_what_is) (n := 63) (k := 5) (x := "script") (CX := fun _ => L2.CX0) (sp := fun w => Mir.spF _ 1 K73.FLaw) rfl (by decide) rfl ⟨rfl, by decide, by decide⟩ (fun w h Y => PySem.W.kIn_of Y) ?F (fun _ _ a ns hl hO hS => Mir.law_sp hO hS (K73.pure_law ns hl)) (fun _ _ _ _ _ h => h)
  case F =>
    intro w mg fa h KX G hmg
    refine' K73.all_mk KX G hmg ?a1 ?l1 ?c1 ?k1 ?a2 ?l2 ?c2 ?k2 ?a3 ?l3 ?c3 ?k3 ?a4 ?l4 ?c4 ?k4 ?a5 ?l5 ?c5 ?k5 ?a6 ?l6 ?c6 ?k6 ?a7 ?l7 ?c7 ?k7 ?a8 ?l8 ?c8 ?k8 ?a9 ?l9 ?c9 ?k9 ?a10 ?l10 ?c10 ?k10 ?a11 ?l11 ?c11 ?k11 ?a12 ?l12 ?c12 ?k12 ?a13 ?l13 ?c13 ?k13 ?a14 ?l14 ?c14 ?k14 ?a15 ?l15 ?c15 ?k15 ?z1 ?z2 ?z3 ?z4 ?z5 ?z6 ?z7 ?z8 ?x0
    (case a1 => k_is)
    (case l1 => k_is)
    (case c1 => k_is)
    (case k1 => k_is)
    (case a2 => k_is)
    (case l2 => k_is)
    (case c2 => k_is)
    (case k2 => k_is)
    (case a3 => k_is)
    (case l3 => k_is)
    (case c3 => k_is)
    (case k3 => k_is)
    (case a4 => k_is)
    (case l4 => k_is)
    (case c4 => k_is)
    (case k4 => k_is)
    (case a5 => k_is)
    (case l5 => k_is)
    (case c5 => k_is)
    (case k5 => k_is)
    (case a6 => k_is)
    (case l6 => k_is)
    (case c6 => k_is)
    (case k6 => k_is)
    (case a7 => k_is)
    (case l7 => k_is)
    (case c7 => k_is)
    (case k7 => k_is)
    (case a8 => k_is)
    (case l8 => k_is)
    (case c8 => k_is)
    (case k8 => k_is)
    (case a9 => k_is)
    (case l9 => k_is)
    (case c9 => k_is)
    (case k9 => k_is)
    (case a10 => k_is)
    (case l10 => k_is)
    (case c10 => k_is)
    (case k10 => k_is)
    (case a11 => k_is)
    (case l11 => k_is)
    (case c11 => k_is)
    (case k11 => k_is)
    (case a12 => k_is)
    (case l12 => k_is)
    (case c12 => k_is)
    (case k12 => k_is)
    (case a13 => k_is)
    (case l13 => k_is)
    (case c13 => k_is)
    (case k13 => k_is)
    (case a14 => k_is)
    (case l14 => k_is)
    (case c14 => k_is)
    (case k14 => k_is)
    (case a15 => k_is)
    (case l15 => k_is)
    (case c15 => k_is)
    (case k15 => k_is)
    (case z1 => k_is)
    (case z2 => k_is)
    (case z3 => k_is)
    (case z4 => k_is)
    (case z5 => k_is)
    (case z6 => k_is)
    (case z7 => k_is)
    (case z8 => k_is)
    (case x0 => k_is)

