import PyProof.Rows.All
import Wide.All
import OpenK.AllK
import Wide.FinOn
import HandS.ForMost
import HandS.ForExc
import HandS.Rev
import HandS.TupAny
import HandS.More
import HandS.Star
import HandS.Codes
import HandS.DictComp
import HandS.SetKeys
import HandS.Style
import KE.KDictList
import KE.GoesMore
import HandS.Zip
import HandS.IsInst
import HandS.Wide
import HandS.Flow
import HandS.FStr
import HandS.Deep
import HandS.TupMul
import PySem.Challenge.RW_shapewright_k10_form_of_shapes
set_option Elab.async false
set_option linter.all false
set_option maxRecDepth 100000
/-! Rules of my own: xs.extend(a tuple); t[::-1] of a tuple; tuple(a dict). -/
namespace Vr
open PySem PySem.Spec PyProof.Rows L2
theorem ext_meets (l : Addr) (xs : Array Value) (n : Nat) (b : Addr) (ys : Array Value) (m : Nat) (dd : Option Addr) (sl : Array (Option Value)) (h0 : ¬(!xs.isEmpty && Builtin.List.listTooLong (xs.size + ys.size)) = true) (h1 : xs.size ≤ sizeLine) (h2 : xs.size + ys.size ≤ sizeLine + 1) :
    Meets (Builtin.«list.extend» ⟨[.ref l, .ref b], []⟩) (fun _ R s => s.heap.get? l = some { cls := .type "list", dict := none, data := .seq xs n, slots := #[] } ∧ s.heap.get? b = some { cls := .type "tuple", dict := dd, data := .seq ys m, slots := sl } ∧
      R (.ok (.ret Value.none)) { s with heap := s.heap.update l (Obj.mapSeq fun x => x ++ ys), toks := s.toks }) :=
  .of_wp fun prog w A R s h => by
    obtain ⟨hp, g, d, tk, os⟩ := s
    obtain ⟨hl, hb, h⟩ := h
    have f1 := AutoSeq1.idx_int
    have f2 := AutoSeq1.sub_tuple_tuple
    have f3 := AutoSeq1.sub_list_list
    have f4 := AutoSeq1.sub_tuple_list
    have f5 := AutoSeq1.sub_list_tuple
    have hz : (xs ++ ys).size ≤ sizeLine + 1 := by
      rw [Array.size_append]
      exact h2
    wp_walk using (wpAny_updateSeq hl rfl (hz := h1) (_hz' := hz)), AutoSeq1.wpAny_loadPart' hl, AutoSeq1.wpAny_loadPart' hb
    exact ⟨_, rfl, h⟩
section
variable {X : Cx}
def rExtT (K : PySem.W.Frag) : V → List V → Hp → VK → Prop := fun x vs H Q => ∃ l b xs zs, x = .ref l ∧ vs = [.ref b] ∧ H l = some (.lst xs) ∧ SqT K H b zs ∧ xs.length + zs.length ≤ sizeLine ∧ Q .non (upd H l (.lst (xs ++ zs)))
theorem mt_extendT : MtM X "list.extend" (rExtT X.K) := by
  intro pins s σ H x vs v us Q I rx rv h
  obtain ⟨l, b, xs, zs, rfl, rfl, hH, hB, hz, q⟩ := h
  cases rx
  obtain ⟨u, rfl, ru⟩ := rv.one
  cases ru
  obtain ⟨z, its, n, r, hl, e⟩ := I.lstM hH
  obtain ⟨its2, r2, ht2, z2⟩ := I.tuple hB
  have len1 := r.length
  have len2 := r2.length
  obtain ⟨o2, ho2, hc2, n2, hd2⟩ := id ht2
  obtain ⟨c2, dd2, da2, sl2⟩ := o2
  simp only at hc2 hd2
  subst hc2 hd2
  have total : its.toArray.size + its2.toArray.size ≤ sizeLine := by
    rw [List.size_toArray, List.size_toArray]
    omega
  have short : ¬ (!its.toArray.isEmpty && Builtin.List.listTooLong (its.toArray.size + its2.toArray.size)) = true := by
    rw [notLongL total, Bool.and_false]
    exact Bool.false_ne_true
  refine call_meets PySem.F.slot_list_extend ⟨_, e, rfl⟩ PySem.F.entry_list_extend (PySem.F.args_list_extend_2 _ _)
    (ext_meets l its.toArray n b its2.toArray n2 dd2 sl2 short (by rw [List.size_toArray]; omega) (by omega)) ⟨e, ho2, ?_⟩
  refine ⟨.non, _, I.lset (its' := its ++ its2) hH e (by simp) (r.append r2) ?_, rfl, q⟩
  rw [List.length_append]
  omega
end

/-! ### t[::-1] -/
section
variable {prog : Program} {w : World} {A : Around} {E : Value → Shared → Prop} {s : Shared}
theorem applied_back {sl : Addr} {vl vu vs : Value} {n : Nat} {Q : Int × Int × Nat → Shared → Prop} (hs : s.heap.IsSliceOf sl vl vu vs) (pl : IsPart vl none) (pu : IsPart vu none) (ps : IsPart vs (some (-1)))
    (h : Q ((n : Int) - 1, -1, n) s) : wpAny (model prog w) A (Builtin.Slice.sliceApplied (.ref sl) (pure (n : Int))) Q E s := by
  obtain ⟨os, hos, hcs, hds⟩ := id hs
  unfold Builtin.Slice.sliceApplied Builtin.Slice.sliceFields
  refine wpAny_bind (wpAny_bind (wpAny_field hos hds (x := vl) rfl (wpAny_bind (wpAny_field hos hds (x := vu) rfl (wpAny_bind (wpAny_field hos hds (x := vs) rfl (wpAny_pure ?_)))))))
  refine wpAny_bind (HT.slicePart_ ps ?_)
  show wpAny _ _ (if ((-1 : Int) == 0) = true then _ else _) _ _ s
  rw [if_neg (by decide)]
  refine wpAny_bind (HT.slicePart_ pl (wpAny_bind (HT.slicePart_ pu (wpAny_bind (wpAny_pure ?_)))))
  have e : Builtin.Slice.slicePlaces ((n : Int) - 1) (-1) (-1) = n := by
    unfold Builtin.Slice.slicePlaces
    rw [if_neg (by decide)]
    by_cases c : (n : Int) - 1 > -1
    · rw [if_pos c, show -(-1 : Int) = 1 by decide, Int.ediv_one]
      omega
    · rw [if_neg c]
      omega
  show wpAny _ _ (pure ((n : Int) - 1, (-1 : Int), Builtin.Slice.slicePlaces ((n : Int) - 1) (-1) (-1))) _ _ s
  rw [e]
  exact wpAny_pure h
theorem fm_congr {α β : Type} {f g : α → Option β} : ∀ {l : List α}, (∀ x ∈ l, f x = g x) → l.filterMap f = l.filterMap g
  | [], _ => rfl
  | x :: r, h => by
    rw [List.filterMap_cons, List.filterMap_cons, h x List.mem_cons_self, fm_congr fun y hy => h y (List.mem_cons_of_mem _ hy)]
theorem pick_back (xs : Array Value) : ((List.range xs.size).filterMap fun (m : Nat) => xs[((xs.size : Int) - 1 + (m : Int) * -1).toNat]?).toArray = xs.toList.reverse.toArray := by
  have e := PySem.W.krv_pick xs
  unfold slicePick at e
  rw [PySem.W.krv_bounds] at e
  have e2 : ((sliceRange ((xs.size : Int) - 1) (-1) (-1)).filterMap (xs[·]?)).toArray = xs.toList.reverse.toArray := e
  rw [PySem.W.krv_sliceRange, List.filterMap_map] at e2
  rw [← e2]
  refine congrArg List.toArray (fm_congr fun m hm => ?_)
  have := List.mem_range.mp hm
  show xs[((xs.size : Int) - 1 + (m : Int) * -1).toNat]? = xs[xs.size - 1 - m]?
  rw [show ((xs.size : Int) - 1 + (m : Int) * -1).toNat = xs.size - 1 - m by omega]
theorem item_back {t sl : Addr} {items : Array Value} {vl vu vs : Value} {Q : Value → Shared → Prop} (ht : IsTup s.heap t items) (hs : s.heap.IsSliceOf sl vl vu vs) (pl : IsPart vl none) (pu : IsPart vu none) (ps : IsPart vs (some (-1)))
    (h : Q (.ref s.heap.objs.size) { s with heap := s.heap.push { cls := .type "tuple", data := .seq items.toList.reverse.toArray } }) (hsz : items.size ≤ sizeLine) : wpAny (model prog w) A (getItem (.ref t) (.ref sl)) Q E s := by
  have htake : sizeOk (.seq items.toList.reverse.toArray) := by
    show items.toList.reverse.toArray.size ≤ sizeLine
    rw [List.size_toArray, List.length_reverse, Array.length_toList]
    exact hsz
  obtain ⟨os, hos, hcs, hds⟩ := id hs
  have hTs : s.TypeIs (.ref sl) "slice" := ⟨os, hos, hcs⟩
  unfold getItem
  try with_reducible refine wpAny_holding ?_
  first | refine wpAny_bind (wpAny_pure ?_) | skip
  refine wpAny_bind (wpAny_sequenceKey ht.typeIs (by decide) ?_)
  refine wpAny_bind (wpAny_callSpecial?_slot (name := Str.ofString "__getitem__") ht.typeIs PyProof.Rows.slot_tuple_getitem
    (wpAny_call_entry PyProof.Rows.slot_tuple_getitem ht.typeIs entry_tuple_getitem ?_ (args_tuple_getitem _ _)))
  show wpAny _ _ (Builtin.Tuple.tupleItemsOf (.ref t) >>= _) _ _ s
  refine wpAny_bind (tupleItemsOf_ ht ?_)
  refine wpAny_bind (wpAny_typeOf hTs ?_)
  rw [if_pos (by decide)]
  refine wpAny_bind (applied_back hs pl pu ps ?_)
  have hno : ¬ ((((items.size : Int) - 1) == 0 && (-1 : Int) == 1 && items.size == items.size) = true) := by
    intro q
    rw [Bool.and_eq_true, Bool.and_eq_true] at q
    exact absurd q.1.2 (by decide)
  show wpAny _ _ (if (((items.size : Int) - 1) == 0 && (-1 : Int) == 1 && items.size == items.size) = true then _ else _) _ _ s
  rw [if_neg hno, pick_back]
  first
    | exact wpAny_bind (m := Builtin.Tuple.tupleExact _) (wpAny_newObj_type (wpAny_pure ⟨_, rfl, wpAny_pure h⟩) htake)
    | exact wpAny_bind (m := Builtin.Tuple.tupleExact _) (wpAny_newObj_type (wpAny_bind (wpAny_pure (wpAny_pure ⟨_, rfl, wpAny_pure h⟩))) htake)
end
def tRevT (K : PySem.W.Frag) (te : TE) : TE := fun σ H Q => te σ H fun x H1 => ∃ a xs, x = .ref a ∧ SqT K H1 a xs ∧ ∀ p, H1 p = none → Q (.ref p) (upd H1 p (.tup xs.reverse))
section
variable {X : Cx}
theorem pe_revT {e : Expr} {te : TE} {k : Nat} {p1 p2 p3 pos : Pos} (he : PE X e te) : PE X (.Subscript e (.Slice none none (some (.UnaryOp .USub (.Constant (.int 1) k p1) p2)) p3) pos) (tRevT X.K te) := by
  refine ⟨fun pins s σ H Q I h => ?_⟩
  refine Subscript_ (thn (he.run pins s σ H _ I h) fun v s1 ⟨x, H1, I1, r1, q1⟩ => ?_)
  obtain ⟨a, xs, ex, hx, q⟩ := q1
  subst ex
  cases r1
  have hst : PO X (some (.UnaryOp .USub (.Constant (.int 1) k p1) p2)) (tPart (tUn (rU fun i => .int (-i)) (tC (.int 1)))) := po_some (pe_un un_neg pe_int)
  refine wpAny_Slice (thn (po_none.run pins s1 σ H1 (fun o H2 => o = none ∧ H2 = H1) I1 ⟨rfl, rfl⟩) fun vl s2 ⟨l, H2, I2, pl, el, e2⟩ => ?_)
  subst el e2
  refine thn (po_none.run pins s2 σ H2 (fun o H3 => o = none ∧ H3 = H2) I2 ⟨rfl, rfl⟩) fun vu s3 ⟨u, H3, I3, pu, eu, e3⟩ => ?_
  subst eu e3
  refine thn (hst.run pins s3 σ H3 (fun o H4 => o = some (-1) ∧ H4 = H3) I3 ⟨1, rfl, -1, rfl, rfl, rfl⟩) fun vs s4 ⟨o, H4, I4, ps, eo, e4⟩ => ?_
  subst eo e4
  have I5 : Inv X pins σ H4 { s4 with heap := s4.heap.push { cls := .type "slice", data := .fields #[vl, vu, vs] } } := I4.kept (t' := s4.toks) fun b ob q => Heap.get?_push_of_some _ q
  obtain ⟨its, r, ht, hz⟩ := I5.tuple hx
  have hlen := r.length
  show wpAny (model X.prog X.w) X.A (subscriptTail e (.Slice none none (some (.UnaryOp .USub (.Constant (.int 1) k p1) p2)) p3) (.ref a) (.ref s4.heap.objs.size)) (EP X pins σ Q) X.xe { s4 with heap := s4.heap.push { cls := .type "slice", data := .fields #[vl, vu, vs] } }
  refine tail_any (ops := [.ref a, .ref s4.heap.objs.size]) ht.typeIs (PyProof.Rows.slot_tuple_getitem.lookup) ?_ (by with_unfolding_all rfl)
  refine item_back ht (Heap.IsSliceOf.new _ vl vu vs) pl pu ps ?_ (by rw [List.size_toArray]; omega)
  refine ⟨.ref _, _, I5.laid (t' := s4.toks) (o := .tup xs.reverse) (fun b ob q => Heap.get?_push_of_some _ q) (Nat.le_refl _) ?_, rfl, q _ (I5.hok.fresh (Nat.le_refl _))⟩
  exact ⟨by rw [List.length_reverse]; exact hz, its.reverse, r.reverse, IsTup.new _ _⟩
end

/-! ### tuple(d) of a dict: its keys -/
section
variable {prog : Program} {w : World} {A : Around} {E : Value → Shared → Prop} {s : Shared} {T : String} {r d : Addr} {n : Nat} {P : Nat → Value → Prop} {OK : Heap → Prop}
open PySem.W in
theorem collect_src {Q : List Value → Shared → Prop} (K : KdlSrc prog w T r d n P OK) (hh : A.handled = none) (hok : OK s.heap) (hn : n ≤ sizeLine)
    (hQ : ∀ (h' : Heap) (tk : Nat) (acc : Array Value), (∀ b o, s.heap.get? b = some o → h'.get? b = some o) → ItemsOf P acc n → Q acc.toList { s with heap := h', toks := tk }) : wpAny (model prog w) A (collect (.ref r)) Q E s := by
  have hlt := K.there _ hok
  unfold collect
  refine wpAny_bind (wpAny_runValue (codeAny_builtin PySem.F.entry_proto_collect ?_))
  rw [Around.under_plainId PySem.F.plain_proto_collect _]
  show wpAny _ A.in1 (newList [] >>= fun l' => again (.builtin "list.__iadd__" ⟨[l', .ref r], []⟩)) _ _ s
  refine wpAny_bind (wpAny_newObj_type ?_)
  refine wpAny_pure ⟨plainId_quiet PySem.F.plain_list_iadd _, codeAny_builtin PySem.F.entry_list_iadd ?_⟩
  rw [Around.under_plainId PySem.F.plain_list_iadd _]
  have hS₁ : (s.heap.push { cls := .type "list", data := .seq ([] : List Value).toArray }).get? s.heap.objs.size = some { cls := .type "list", data := .seq ([] : List Value).toArray } := Heap.get?_push_size _ rfl
  show wpAny _ A.in1 (Builtin.List.listExtendWith (.ref s.heap.objs.size) (.ref r) (.ref s.heap.objs.size)) _ _ _
  refine wpAny_mono (kdl_extend (A := A) (R := fun rr s' => rr = .ok (.ret (.ref s.heap.objs.size)) ∧ ∃ (h' : Heap) (tk : Nat) (acc : Array Value) (c' : Nat), s' = { s with heap := h', toks := tk } ∧
      (∀ b o, s.heap.get? b = some o → h'.get? b = some o) ∧ h'.get? s.heap.objs.size = some { cls := .type "list", dict := none, data := .seq acc c', slots := #[] } ∧ ItemsOf P acc n)
    (s := { s with heap := s.heap.push { cls := .type "list", data := .seq ([] : List Value).toArray } }) K hh (K.keep _ _ hok fun b _ o e => Heap.get?_push_of_some _ e) s.heap.objs.size (Nat.ne_of_gt hlt.1) (Nat.ne_of_gt hlt.2) (.ref s.heap.objs.size) 0 hS₁
    (fun h' tk acc' c' hk hS' hacc => ⟨rfl, h', tk, acc', c', rfl, fun b o e => hk b o (Nat.ne_of_lt (Heap.lt_size e)) (Heap.get?_push_of_some _ e), hS', hacc⟩) hn) (fun fin s' h => ?_) (fun e s' h => ?_)
  · cases fin with
    | done f =>
      obtain ⟨e, h', tk, acc, c', rfl, hk, hS', hi⟩ := h
      cases e
      show wpAny _ A (load s.heap.objs.size >>= _) _ _ _
      exact wpAny_bind (wpAny_load hS' (wpAny_pure (hQ h' tk acc hk hi)))
    | again c' =>
      refine ⟨h.1, codeAny_mono h.2 fun rr s'' hr' => ?_⟩
      obtain ⟨rfl, h', tk, acc, c', rfl, hk, hS', hi⟩ := hr'
      show wpAny _ A (load s.heap.objs.size >>= _) _ _ _
      exact wpAny_bind (wpAny_load hS' (wpAny_pure (hQ h' tk acc hk hi)))
  · exact absurd h.1 (by simp)
open PySem.W in
theorem code_tuple_src {Q₁ : Value → Shared → Prop} (K : KdlSrc prog w T r d n P OK) (hh : A.handled = none) (hok : OK s.heap) (hn : n ≤ sizeLine)
    (h : ∀ (h' : Heap) (tk : Nat) (acc : Array Value), (∀ b o, s.heap.get? b = some o → h'.get? b = some o) → ItemsOf P acc n → Q₁ (.ref h'.objs.size) { s with heap := h'.push { cls := .type "tuple", data := .seq acc }, toks := tk })
    (ne : (Value.type T == Value.type "tuple") = false) :
    codeAny (model prog w) A (.call (.builtin "tuple.__new__") ⟨[.type "tuple", .ref r], []⟩) (wants Q₁ E) s := by
  refine codeAny_of_tree ?_
  show wpAny _ A.in1 (do checkBuiltinCall "tuple.__new__" ⟨[.type "tuple", .ref r], []⟩; again (.builtin "tuple.__new__" ⟨[.type "tuple", .ref r], []⟩)) _ _ s
  refine wpAny_bind (wpAny_of_eq (PySem.F.newCall_tuple_1 _) (wpAny_pure ⟨plainId_quiet PySem.F.plain_tuple_new _, codeAny_builtin PySem.F.entry_tuple_new ?_⟩))
  rw [Around.under_plainId PySem.F.plain_tuple_new _]
  have hsub := sub_tuple_self
  have hinit := init_tuple_lookup
  have hmh := madeHere_tuple
  have hTI : s.TypeIs (.ref r) T := K.type _ hok
  have hh1 : A.in1.handled = none := hh
  wp_walk using wpAny_typeOf hTI, collect_src (A := A.in1) K hh1 hok hn
  intro h' tk acc hk hacc
  show wpAny _ _ (Builtin.Tuple.tupleExact acc.toList.toArray >>= fun v => ret v) _ _ _
  unfold Builtin.Tuple.tupleExact
  refine wpAny_bind (wpAny_newObj_type ?_ (by show acc.toList.toArray.size ≤ sizeLine; simp only [Array.toArray_toList]; rw [hacc.1]; exact hn))
  refine wpAny_pure ?_
  have e : acc.toList.toArray = acc := by simp
  rw [e]
  exact h h' tk acc hk hacc
open PySem.W in
theorem call_tuple_src {Q : Value → Shared → Prop} (K : KdlSrc prog w T r d n P OK) (hh : A.handled = none) (hok : OK s.heap) (hn : n ≤ sizeLine) (ne : (Value.type T == Value.type "tuple") = false)
    (hQ : ∀ (h' : Heap) (tk : Nat) (acc : Array Value), (∀ b o, s.heap.get? b = some o → h'.get? b = some o) → ItemsOf P acc n → Q (.ref h'.objs.size) { s with heap := h'.push { cls := .type "tuple", data := .seq acc }, toks := tk }) :
    wpAny (model prog w) A (call (.type "tuple") [.ref r]) Q E s := by
  refine callType_codes (Q₁ := fun obj s₁ => s₁.TypeIs obj "tuple" ∧ Q obj s₁) PySem.F.called_tuple (PySem.F.typeCall_tuple_1 _) PySem.F.entry_object_init
    (code_tuple_src (A := A.in1) K hh hok hn (fun h' tk acc hk hacc => ⟨⟨_, Heap.get?_push_size _ rfl, rfl⟩, hQ h' tk acc hk hacc⟩) ne) fun obj s₁ h₁ => ?_
  exact ⟨h₁.1, PySem.F.args_object_init_2 obj _, object_init_meets PySem.F.called_tuple.init.lookup PySem.F.called_tuple.made (by decide) prog w A.in1 _ s₁ ⟨h₁.1, rfl, h₁.2⟩⟩
end
section
variable {X : Cx}
theorem call_tupleD (hcalm : X.calm = true) : CallR X (.type "tuple") (fun xs H Q => ∃ (a : Addr) (kvs : List (Key × V)), xs = [.ref a] ∧ Rd H a (.dK kvs) ∧ ∀ p, H p = none → Q (.ref p) (upd H p (.tup (kvs.map fun kv => kV kv.1)))) := by
  intro pins s σ H xs us Q I r q
  obtain ⟨a, kvs, ex, hd, q⟩ := q
  subst ex
  obtain ⟨u, eu, rx⟩ := vals1 r
  subst eu
  cases rx
  obtain ⟨z, lo, vs, rel, dd⟩ := dk_rd I.hok hd
  obtain ⟨ep, hat⟩ := dd.dictAt
  have ek : (kvs.map fun kv => kV kv.1) = vs.map fun p => kV p.1 := by
    have e := congrArg (List.map kV) rel.keys
    rw [List.map_map, List.map_map] at e
    exact e
  refine call_tuple_src (PySem.W.kdl_dict (knd := mixKind X.prog X.w) (kvs := vs) (ep := ep) lo) (I.ok.hd hcalm) hat (by rw [← rel.length]; exact z) (by decide) fun h' tk acc hk hacc => ?_
  have hv : Vals (vs.map fun p => kV p.1) acc.toList := keys_at (by rw [Array.length_toList]; exact hacc.1) fun j v e => hacc.2 j v (by rw [← Array.getElem?_toList]; exact e)
  have I2 : Inv X pins σ H { s with heap := h', toks := tk } := I.kept (t' := tk) hk
  refine ⟨.ref h'.objs.size, upd H h'.objs.size (.tup (kvs.map fun kv => kV kv.1)), I2.laid (t' := tk) (fun c o e => Heap.get?_push_of_some _ e) (Nat.le_refl _) (show ObjOk X.prog X.w _ _ _ (.tup (kvs.map fun kv => kV kv.1)) from ⟨by rw [List.length_map]; exact z, acc.toList, by rw [ek]; exact hv, ?_⟩), rfl, q _ (I2.hok.fresh (Nat.le_refl _))⟩
  rw [Array.toArray_toList]
  exact IsTup.new _ _
end
end Vr

set_option Elab.async false
set_option linter.all false
set_option maxRecDepth 100000
/-! enumerate(a tuple): as a loop's source. -/
namespace PySem
open Sem (wp)
open AutoSeq1 (wpAny_loadPart')
theorem meets_enumerate_newTq (l : Addr) (items : Array Value) (n : Nat) (dct : Option Addr) (sl : Array (Option Value)) :
    Meets (Builtin.«enumerate.__new__» ⟨[.type "enumerate", .ref l], []⟩) (fun _ R s => s.heap.get? l = some { cls := .type "tuple", dict := dct, data := .seq items n, slots := sl } ∧
      R (.ok (.ret (.ref (s.heap.push { cls := .type "tuple_iterator", data := .fields #[.ref l, .int 0 0] }).objs.size)))
        { s with heap := (s.heap.push { cls := .type "tuple_iterator", data := .fields #[.ref l, .int 0 0] }).push { cls := .type "enumerate", data := .fields #[.none, .bool false, .ref s.heap.objs.size, rawInt 0, .none, .none] } }) :=
  .of_wp fun prog w A R s h => by
    obtain ⟨hp, g, d, tk, os⟩ := s; obtain ⟨hl, h⟩ := h
    have hsub := sub_enumerate
    have hL : Heap.IsTuple (Shared.heap ⟨hp, g, d, tk, os⟩) l items := ⟨_, hl, rfl, n, rfl⟩
    wp_walk using wpAny_loadPart' hl
    refine wpAny_stack_any fun st => wpAny_pure ?_
    split
    · rename_i c _ _ _ _ _
      cases (c == Value.type "enumerate")
      · wp_walk using wpAny_loadPart' hl, wpAny_pyIter_tuple hL
        exact ⟨_, rfl, h⟩
      · wp_walk using wpAny_loadPart' hl, wpAny_pyIter_tuple hL
        exact ⟨_, rfl, h⟩
    · wp_walk using wpAny_loadPart' hl, wpAny_pyIter_tuple hL
      exact ⟨_, rfl, h⟩
theorem call_enumerate_tupleq {prog : Program} {w : World} {A : Around} {E : Value → Shared → Prop} {s : Shared} {l : Addr} {items : Array Value} {Q : Value → Shared → Prop} (hL : s.heap.IsTuple l items)
    (h : ∀ h', IsEnum h' (s.heap.objs.size + 1) s.heap.objs.size 0 .none → h'.IsTupleIter s.heap.objs.size l 0 → h'.objs.size = s.heap.objs.size + 2 →
      (∀ b o, s.heap.get? b = some o → h'.get? b = some o) → Q (.ref (s.heap.objs.size + 1)) { s with heap := h' }) :
    wpAny (model prog w) A (call (.type "enumerate") [.ref l]) Q E s := by
  obtain ⟨⟨c, dct, dt, sl⟩, hl, hc, n, hd⟩ := hL
  replace hc : c = .type "tuple" := hc
  replace hd : dt = .seq items n := hd
  subst hc hd
  refine callType_new F.called_enumerate (by decide) (F.typeCall_enumerate_1 _) (F.newCall_enumerate_1 _) (fun obj => F.args_object_init_2 obj _) F.entry_enumerate_new
    (meets_enumerate_newTq l items n dct sl) ⟨hl, ?_⟩
  have hz : (s.heap.push { cls := .type "tuple_iterator", data := .fields #[.ref l, .int 0 0] }).objs.size = s.heap.objs.size + 1 := Heap.size_push ..
  show _ ∧ _
  rw [hz]
  have he : IsEnum ((s.heap.push { cls := .type "tuple_iterator", data := .fields #[.ref l, .int 0 0] }).push
      { cls := .type "enumerate", data := .fields #[.none, .bool false, .ref s.heap.objs.size, rawInt 0, .none, .none] }) (s.heap.objs.size + 1) s.heap.objs.size 0 .none := by
    have := Heap.get?_push_size (s.heap.push { cls := .type "tuple_iterator", data := .fields #[.ref l, .int 0 0] })
      (o := { cls := .type "enumerate", data := .fields #[.none, .bool false, .ref s.heap.objs.size, rawInt 0, .none, .none] }) rfl
    rw [hz] at this; exact this
  refine ⟨⟨_, he, rfl⟩, h _ he ⟨_, Heap.get?_push_of_some _ (Heap.get?_push_size _ rfl), rfl, rfl⟩ (by rw [Heap.size_push, hz]) fun b o x => Heap.get?_push_of_some _ (Heap.get?_push_of_some _ x)⟩
theorem wpAny_pyNext_enum_endTq {prog : Program} {w : World} {A : Around} {E : Value → Shared → Prop} {s : Shared} {e it l : Addr} {i : Nat} {items : Array Value} {old : Value} {Q : Option Value → Shared → Prop} (hh : A.handled = none)
    (he : IsEnum s.heap e it i old) (hit : s.heap.IsTupleIter it l i) (hl : s.heap.IsTuple l items) (hx : items[i]? = none)
    (hQ : ∀ h', Heap.ExtBut it s.heap h' → Q none { s with heap := h' }) : wpAny (model prog w) A (pyNext (.ref e)) Q E s := by
  have hT : s.TypeIs (.ref e) "enumerate" := ⟨_, he, rfl⟩
  unfold pyNext
  refine wpAny_bind (wpAny_attempt (wpAny_callSpecial?_slot (name := Str.ofString "__next__") hT F.slot_enumerate_next
    (wpAny_call_entry F.slot_enumerate_next hT F.entry_enumerate_next ?_ (F.args_enumerate_next_1 _))))
  show wpAny _ _ (field (.ref e) 2 >>= _) _ _ _
  refine wpAny_bind (wpAny_field he rfl (x := .ref it) rfl ?_)
  refine wpAny_bind (wpAny_nextOf_tuple_end (A := A.in1) hh hit hl hx fun h' x he' hx' => ?_)
  obtain ⟨o, ho, hc⟩ := hx'
  refine wpAny_bind (wpAny_isInstance (T := "StopIteration") (b := true) ⟨o, ho, hc⟩ isSubtype_stop ?_)
  exact wpAny_pure (hQ _ he')
end PySem
namespace Vr
open PySem PySem.Spec PyProof.Rows L2
/-- the tuple at a as it stands at each turn, each item in a new pair -/
def IteT (K : PySem.W.Frag) (a : Addr) : It :=
  ⟨fun i H => ∃ (xs : List V) (x : V), SqT K H a xs ∧ xs[i]? = some x, fun i H v H' => ∃ T x, v = .ref T ∧ H T = none ∧ H' = upd H T (.tup [.int (i : Nat), x]) ∧ ∀ xs, SqT K H a xs → xs[i]? = some x, fun i H => ∃ xs : List V, SqT K H a xs ∧ xs.length ≤ i⟩
theorem turn_enumT {P : Program} {w : World} {K : PySem.W.Frag} {elts : List Expr} {kk : Nat} {tpos : Pos} (a e it : Addr) :
    Turn P w K (.Tuple elts kk tpos) (IteT K a) [e, it] e (fun i h => (∃ old, IsEnum h e it ((i : Nat) : Int) old) ∧ h.IsTupleIter it a i ∧ e ≠ it) where
  mem := by simp
  obj := fun i h st b hb => by
    obtain ⟨⟨old, he⟩, ⟨o, ho, hc, hd⟩, _⟩ := st
    have e' : b = e ∨ b = it := by simpa using hb
    rcases e' with z | z
    · rw [z]; exact ⟨_, he, fun v q => nomatch q⟩
    · rw [z]; exact ⟨o, ho, fun v q => by rw [hd] at q; cases q⟩
  keep := fun i h h' st k => let ⟨⟨old, he⟩, hi, hne⟩ := st; ⟨⟨old, k e (by simp) _ he⟩, hi.at fun o q => k it (by simp) o q, hne⟩
  item := by
    intro X hP hw hK hc i pins s σ H E I hf st hg
    subst hP hw hK
    obtain ⟨⟨old, he⟩, hit, hne⟩ := st
    obtain ⟨xs, x, hq, hx⟩ := hg
    obtain ⟨its, rv, p, hz⟩ := I.tuple hq
    obtain ⟨u, hu, ru⟩ := rv.get hx
    have hel : e < s.heap.objs.size := Heap.lt_size he
    have hil : it < s.heap.objs.size := by obtain ⟨_, q, _⟩ := hit; exact Heap.lt_size q
    have pT : s.heap.IsTuple a its.toArray := p
    have hai : a ≠ it := by
      rintro rfl
      obtain ⟨o, ho, hc, _⟩ := hit
      obtain ⟨o', ho', hc', _⟩ := pT
      rw [ho] at ho'
      cases ho'
      rw [hc] at hc'
      exact absurd hc' (by decide)
    have hea : e ≠ a := by
      rintro rfl
      obtain ⟨o', ho', hc', _⟩ := pT
      have he2 : s.heap.get? e = some _ := he
      rw [he2] at ho'
      cases ho'
      have hc2 : Value.type "enumerate" = Value.type "tuple" := hc'
      exact absurd hc2 (by decide)
    have hlt : i < its.toArray.size := by
      have := (List.getElem?_eq_some_iff.mp hu).1
      simpa using this
    refine wpAny_pyNext_enum_itemD (Draws.tuple (A := X.A.in1) (show X.A.in1.handled = none from I.ok.hd hc) it a hai its.toArray) he ⟨hit, pT⟩ hlt hne (by simp [hne, hea]) fun x' h' tk hx' ho hit' hT hsz hk => ?_
    have ux : x' = u := by
      have h1 : its[i]? = some x' := by simpa using hx'
      rw [hu] at h1
      exact (Option.some.inj h1).symm
    subst ux
    refine ⟨_, rfl, wpAny_letOwnedTupleGo_enum (s := { s with heap := h', toks := tk + 1 }) ho fun h'' he' sb => ?_⟩
    have hT2 : h''.get? s.heap.objs.size = some { cls := .type "tuple", data := .seq #[.int i tk, x'] } := (sb.2 _ (Nat.ne_of_gt hel)).trans hT
    have new : ObjOk X.prog X.w (upd H s.heap.objs.size (.tup [.int (i : Nat), x])) h'' s.heap.objs.size (.tup [.int (i : Nat), x]) :=
      ⟨by show 2 ≤ sizeLine; decide, [.int i tk, x'], .cons ⟨_, rfl⟩ (.cons ru .nil), ⟨_, hT2, rfl, _, rfl⟩⟩
    have I1 : Inv X pins σ (upd H s.heap.objs.size (.tup [.int (i : Nat), x])) { s with heap := h'', toks := tk + 1 } :=
      I.turnedNew (ch := [e, it]) (fun b ob hb q => (sb.2 b (fun z => hb (by simp [z]))).trans (hk b ob (fun z => hb (by simp [z])) (fun z => hb (by simp [z])) q)) hf (Nat.le_refl _) new
    refine ⟨.ref s.heap.objs.size, _, I1, rfl, ⟨_, x, rfl, I.hok.fresh (Nat.le_refl _), rfl, fun ys hy => by rw [I.tuple_inj hy hq]; exact hx⟩, ⟨⟨x', ?_⟩, hit'.1.at fun o q => (sb.2 it (Ne.symm hne)).trans q, hne⟩, fun b hb => ?_⟩
    · have e1 : ((i + 1 : Nat) : Int) = (i : Int) + 1 := by omega
      rw [e1]; exact he'
    · have hb' : b < s.heap.objs.size := by
        have e' : b = e ∨ b = it := by simpa using hb
        rcases e' with z | z
        · rw [z]; exact hel
        · rw [z]; exact hil
      rw [upd_ne (Nat.ne_of_lt hb')]
      exact (hf b hb).1
  done := by
    intro X hP hw hK hc i pins s σ H E I hf st hg
    subst hP hw hK
    obtain ⟨⟨old, he⟩, hit, hne⟩ := st
    obtain ⟨xs, hq, hx⟩ := hg
    obtain ⟨its, rv, p, hz⟩ := I.tuple hq
    obtain ⟨f0, f1, f2, f3, f4, f5⟩ := hf it (by simp)
    have hl := rv.length
    exact wpAny_pyNext_enum_endTq (I.ok.hd hc) he hit (show s.heap.IsTuple a its.toArray from p) (by simp; omega) fun h' eb => ⟨rfl, I.turned (t' := s.toks) (fun b o hb q => eb b o hb q) f0 f1 f3 f4 f5⟩
  self := fun A i s Q E st h => let ⟨⟨_, he⟩, _⟩ := st; wpAny_pyIter_enum he h
def iEnumT (K : PySem.W.Frag) (ta : TA) : TI := fun σ H R => ta σ H fun vs H1 => ∃ a xs, vs = [.ref a] ∧ SqT K H1 a xs ∧ R (IteT K a) H1
theorem pi_enumT {X : Cx} {e : Expr} {ta : TA} {p pos tpos : Pos} {elts : List Expr} {kk : Nat} (hg : Gl X "enumerate") (hm : X.mg "enumerate" = none) (ha : PA X [e] ta) (hs : starEach [e] X.env = [(false, eval e X.env)] := by rfl) :
    PI X (.Tuple elts kk tpos) (.Call (.Name "enumerate" p) [e] [] pos) (iEnumT X.K ta) := by
  refine ⟨fun pins s σ H R I h => ?_⟩
  refine Call_ (ld_blt I hg hm boot_enumerate (PyProof.Rows.callWith_type1 (thn (ha.run pos pins s σ H _ I h) fun us s1 ⟨vs, H1, I1, r1, q1⟩ => ?_) hs rfl))
  obtain ⟨a, xs, ex, hq, q⟩ := q1
  subst ex
  cases r1 with
  | cons r rr =>
    cases rr
    cases r
    obtain ⟨its, rv, p', hz⟩ := I1.tuple hq
    refine call_enumerate_tupleq (show s1.heap.IsTuple a its.toArray from p') fun h' he hit hsz hk => wpAny_pyIter_enum he ?_
    have I2 : Inv X pins σ H1 { s1 with heap := h' } := I1.kept (t' := s1.toks) hk
    refine ⟨s1.heap.objs.size + 1, [s1.heap.objs.size + 1, s1.heap.objs.size], _, _, H1, rfl, I2, turn_enumT a (s1.heap.objs.size + 1) s1.heap.objs.size, ⟨⟨.none, he⟩, hit, Nat.succ_ne_self _⟩, fun b hb => ?_, q⟩
    have e' : b = s1.heap.objs.size + 1 ∨ b = s1.heap.objs.size := by simpa using hb
    have hle : s1.heap.objs.size ≤ b := by
      rcases e' with z | z
      · rw [z]; exact Nat.le_add_right _ _
      · rw [z]; exact Nat.le_refl _
    exact I1.fpOk hle (I1.hok.fresh hle)
/-- {k: v for a, b in enumerate(t)}, t a tuple -/
theorem dc_enumT {K : PySem.W.Frag} {a : Addr} {xs : List V} {g : TG} {tt : TT} {tk tv : TE} {vs : List Nat} {σ : L2.St} {H1 : Hp} {D : Addr} {Qd : Hp → Prop} (Pv : Nat → Hp → Prop) (h0 : Pv 0 (upd H1 D (.dK []))) (hl : ∀ i H, i ≤ xs.length → Pv i H → SqT K H a xs)
    (hs : ∀ i x T H, xs[i]? = some x → H T = none → Pv i H → g (.ref T) (wipe σ vs) (upd H T (.tup [.int (i : Nat), x])) fun σ2 H2 => wipe σ2 vs = wipe σ vs ∧ tt σ2 H2 fun b H3 =>
      if b = true then tk σ2 H3 fun y H4 => tv σ2 H4 fun z H5 => ∃ kvs k, y = kV k ∧ H5 D = some (.dK kvs) ∧ kvs.length < sizeLine ∧ Pv (i + 1) (upd H5 D (.dK (putK kvs k z))) else Pv (i + 1) H3) (hd : ∀ H, Pv xs.length H → Qd H) :
    ∃ W : Nat → Nat → Hp → Prop, (∃ m, W 0 m (upd H1 D (.dK []))) ∧ ∀ i m H, W i m H →
      ((IteT K a).stop i H ∧ Qd H) ∨ ((IteT K a).go i H ∧ ∃ Nx : Hp → Prop, (∀ H', Nx H' → ∃ m', m' < m ∧ W (i + 1) m' H') ∧ ∀ x H', (IteT K a).yld i H x H' → g x (wipe σ vs) H' fun σ2 H2 => wipe σ2 vs = wipe σ vs ∧ tt σ2 H2 fun b H3 =>
        if b = true then tk σ2 H3 fun y H4 => tv σ2 H4 fun z H5 => ∃ kvs k, y = kV k ∧ H5 D = some (.dK kvs) ∧ kvs.length < sizeLine ∧ Nx (upd H5 D (.dK (putK kvs k z))) else Nx H3) := by
  refine ⟨fun i m H => m = xs.length - i ∧ i ≤ xs.length ∧ Pv i H, ⟨xs.length, by simp, Nat.zero_le _, h0⟩, ?_⟩
  rintro i m H ⟨rfl, hi, p⟩
  have q := hl i H hi p
  by_cases hlt : i < xs.length
  · refine .inr ⟨⟨xs, xs[i], q, by simp [hlt]⟩, Pv (i + 1), fun H' p' => ⟨xs.length - (i + 1), by omega, rfl, hlt, p'⟩, fun x H' y => ?_⟩
    obtain ⟨T, z, rfl, nT, rfl, y⟩ := y
    exact hs i z T H (y xs q) nT p
  · have e : i = xs.length := by omega
    subst e
    exact .inl ⟨⟨xs, q, Nat.le_refl _⟩, hd H p⟩
/-- for k, x in enumerate(t), t a tuple -/
theorem for_enumT {K : PySem.W.Frag} {a : Addr} {xs : List V} {g : TG} {tb : TS} {D : Ends} {σ : L2.St} {H : Hp} (Pv : Nat → L2.St → Hp → Prop) (h0 : Pv 0 σ H) (hl : ∀ i σ H, i ≤ xs.length → Pv i σ H → SqT K H a xs)
    (hs : ∀ i x T σ H, xs[i]? = some x → Pv i σ H → H T = none → g (.ref T) σ (upd H T (.tup [.int (i : Nat), x])) fun σ2 H2 => tb { D with nx := Pv (i + 1), ct := Pv (i + 1), bk := D.nx } σ2 H2) (hd : ∀ σ H, Pv xs.length σ H → D.nx σ H) :
    ∃ W : Nat → Nat → L2.St → Hp → Prop, (∃ m, W 0 m σ H) ∧ ∀ i m σ H, W i m σ H →
      ((IteT K a).stop i H ∧ D.nx σ H) ∨ ((IteT K a).go i H ∧ ∃ N : L2.St → Hp → Prop, (∀ σ' H', N σ' H' → ∃ m', m' < m ∧ W (i + 1) m' σ' H') ∧ ∀ x H', (IteT K a).yld i H x H' → g x σ H' fun σ2 H2 => tb { D with nx := N, ct := N, bk := D.nx } σ2 H2) := by
  refine ⟨fun i m σ H => m = xs.length - i ∧ i ≤ xs.length ∧ Pv i σ H, ⟨xs.length, by simp, Nat.zero_le _, h0⟩, ?_⟩
  rintro i m σ H ⟨rfl, hi, p⟩
  have q := hl i σ H hi p
  by_cases hlt : i < xs.length
  · refine .inr ⟨⟨xs, xs[i], q, by simp [hlt]⟩, Pv (i + 1), fun σ' H' p' => ⟨xs.length - (i + 1), by omega, rfl, hlt, p'⟩, fun x H' y => ?_⟩
    obtain ⟨T, z, rfl, nT, rfl, y⟩ := y
    exact hs i z T σ H (y xs q) p nT
  · have e : i = xs.length := by omega
    subst e
    exact .inl ⟨⟨xs, q, Nat.le_refl _⟩, hd σ H p⟩
end Vr

set_option Elab.async false
set_option linter.all false
set_option maxRecDepth 100000
/-! y = {k: v for ..} on one line; a dict comprehension over enumerate(a list). -/
namespace Vr
open PySem PySem.Spec PyProof.Rows L2
section
variable {X : Cx}
theorem sw_trueD {k v : Expr} {gs : List Comprehension} {scope : Scope} {pos py : Pos} {y : Str} {l : Nat} {env : Env} (hk : env.scope.kind = .function) (hy : env.scope.names.lookup y = some .local) (hl : (py.line == pos.line) = true)
    (ha : (scope.names.any fun (n, k) => n == y && (k == .local || k == .cell)) = false) : swapsWith (.DictComp k v gs scope pos) (some (.Name y py)) l env = pure true := by
  have ky : env.kindOf y = some .local := hy
  have hb : env.blockKind = .function := by
    unfold Env.blockKind
    rw [hk]
    rfl
  unfold swapsWith
  simp only [hb, ky, ha, Expr.pos, hl]
  rfl
theorem ps_setDc {i : Nat} {y : Str} {py : Pos} {kx vx tg iter : Expr} {ifs : List Expr} {scope : Scope} {own : List (Str × Nat)} {pos spos : Pos} {wi : TI} {g : TG} {tt : TT} {tk tv : TE} (hc : X.calm = true) (hN : X.N.Nodup) (hy : X.N[i]? = some y) (hyl : X.env.scope.names.lookup y = some .local)
    (hsw : swapsWith (.DictComp kx vx [⟨tg, iter, ifs, 0⟩] scope pos) (some (.Name y py)) spos.line X.env = pure true) (hi : PI X tg iter wi) (ok : BlkOk X.N X.env.scope scope own)
    (hg : ∀ (s : Shared) (H : Hp) (C : Addr) (cl : List (Str × Addr)) (fp : List Addr), PG (X.blk s H scope (compEnvC scope cl C X.env) fp) tg g) (ht : ∀ (s : Shared) (H : Hp) (C : Addr) (cl : List (Str × Addr)) (fp : List Addr), PTs (X.blk s H scope (compEnvC scope cl C X.env) fp) ifs tt)
    (hk : ∀ (s : Shared) (H : Hp) (C : Addr) (cl : List (Str × Addr)) (fp : List Addr), PE (X.blk s H scope (compEnvC scope cl C X.env) fp) kx tk)
    (he : ∀ (s : Shared) (H : Hp) (C : Addr) (cl : List (Str × Addr)) (fp : List Addr), PE (X.blk s H scope (compEnvC scope cl C X.env) fp) vx tv) (hs : ∀ x, foldedSetIterable iter X.env x = pure x := by intro _; rfl) :
    PS X (.Assign [.Name y py] (.DictComp kx vx [⟨tg, iter, ifs, 0⟩] scope pos) spos) (tAsg (tDc wi g tt tk tv (own.map (·.2))) (gName i)) := by
  refine ⟨fun pins s σ H D I h => ?_⟩
  rw [exec_Assign_Name_used _ _ _ _ hsw]
  refine wpAny_bind (wpAny_standAt (wpAny_bind ?_))
  show wpAny _ X.A (do let _ ← comprehension (.DictComp kx vx [⟨tg, iter, ifs, 0⟩] scope pos) scope X.env (firstIterPos [⟨tg, iter, ifs, 0⟩] pos) newDict false (eval iter X.env) (some (assign (.Name y py) X.env))) _ _ s
  have h : tDc wi g tt tk tv (own.map (·.2)) σ H (fun x H1 => gName i x σ H1 D.nx) := h
  refine wpAny_bind (thn (dc_core (Qf := fun _ s' => SP X pins D .next s') hc hN I hi ok hg ht hk he hs h fun L C s' m H' I' q hn f => ?_) fun _ s' hq => wpAny_pure (wpAny_pure hq))
  show wpAny _ _ (assign (.Name y py) X.env (.ref L)) _ _ _
  refine wpAny_assign_Name (store_ok2 (v := V.ref L) I' hN hy (.inl hyl) rfl (fun s2 I2 ⟨a, sb, ha⟩ => ?_) (.inr hyl))
  obtain ⟨f0, f1, f2, f3, f4, f5⟩ := f
  have haC : C ≠ a := by
    rcases ha with z | z
    · rw [z]
      exact f1
    · exact fun e => f4 y a z e.symm
  refine ⟨m, hn.sameBut sb haC, fun h3 sb3 => ?_⟩
  exact ⟨_, H', I2.turned (t' := s2.toks) (fun b o hb e => (sb3.2 b hb).trans e) f0 f1 f3 f4 f5, q⟩
end
/-- {k: v for a, b in enumerate(l)}: Pv by the turn and the heap, the dict at D within; the pair of a turn is a new tuple at T -/
theorem dc_enum {K : PySem.W.Frag} {a : Addr} {xs : List V} {g : TG} {tt : TT} {tk tv : TE} {vs : List Nat} {σ : L2.St} {H1 : Hp} {D : Addr} {Qd : Hp → Prop} (Pv : Nat → Hp → Prop) (h0 : Pv 0 (upd H1 D (.dK []))) (hl : ∀ i H, i ≤ xs.length → Pv i H → SqL K H a xs)
    (hs : ∀ i x T H, xs[i]? = some x → H T = none → Pv i H → g (.ref T) (wipe σ vs) (upd H T (.tup [.int (i : Nat), x])) fun σ2 H2 => wipe σ2 vs = wipe σ vs ∧ tt σ2 H2 fun b H3 =>
      if b = true then tk σ2 H3 fun y H4 => tv σ2 H4 fun z H5 => ∃ kvs k, y = kV k ∧ H5 D = some (.dK kvs) ∧ kvs.length < sizeLine ∧ Pv (i + 1) (upd H5 D (.dK (putK kvs k z))) else Pv (i + 1) H3) (hd : ∀ H, Pv xs.length H → Qd H) :
    ∃ W : Nat → Nat → Hp → Prop, (∃ m, W 0 m (upd H1 D (.dK []))) ∧ ∀ i m H, W i m H →
      ((Ite K a).stop i H ∧ Qd H) ∨ ((Ite K a).go i H ∧ ∃ Nx : Hp → Prop, (∀ H', Nx H' → ∃ m', m' < m ∧ W (i + 1) m' H') ∧ ∀ x H', (Ite K a).yld i H x H' → g x (wipe σ vs) H' fun σ2 H2 => wipe σ2 vs = wipe σ vs ∧ tt σ2 H2 fun b H3 =>
        if b = true then tk σ2 H3 fun y H4 => tv σ2 H4 fun z H5 => ∃ kvs k, y = kV k ∧ H5 D = some (.dK kvs) ∧ kvs.length < sizeLine ∧ Nx (upd H5 D (.dK (putK kvs k z))) else Nx H3) := by
  refine ⟨fun i m H => m = xs.length - i ∧ i ≤ xs.length ∧ Pv i H, ⟨xs.length, by simp, Nat.zero_le _, h0⟩, ?_⟩
  rintro i m H ⟨rfl, hi, p⟩
  have q := hl i H hi p
  by_cases hlt : i < xs.length
  · refine .inr ⟨⟨xs, xs[i], q, by simp [hlt]⟩, Pv (i + 1), fun H' p' => ⟨xs.length - (i + 1), by omega, rfl, hlt, p'⟩, fun x H' y => ?_⟩
    obtain ⟨T, z, rfl, nT, rfl, y⟩ := y
    exact hs i z T H (y xs q) nT p
  · have e : i = xs.length := by omega
    subst e
    exact .inl ⟨⟨xs, q, Nat.le_refl _⟩, hd H p⟩
end Vr

set_option Elab.async false
set_option linter.all false
set_option maxRecDepth 100000
namespace Mir
open PySem PySem.Spec PyProof.Rows L2

/-! ### plain values and stores -/
inductive W where
  | non
  | bl (b : Bool)
  | int (i : Int)
  | str (x : Str)
  | tup (ws : List W)
  | lro (ws : List W)
  | ref (n : Nat)
inductive O where
  | lst (ws : List W)
  | dct (kvs : List (Key × W))
abbrev Sto := List O
abbrev EnvM := List (Option W)

/-! ### how they lie in the heap -/
/-- a tuple: made in the run, or written at the top -/
def TuA (K : PySem.W.Frag) (H : Hp) (a : Addr) (xs : List V) : Prop :=
  H a = some (.tup xs) ∨ ∃ (o : Obj) (its : Array Value) (n : Nat), K.lookup a = some o ∧ o.cls = .type "tuple" ∧ o.data = .seq its n ∧ its.size ≤ sizeLine ∧ Vals xs its.toList
/-- a list that is never written -/
def LiA (K : PySem.W.Frag) (H : Hp) (a : Addr) (xs : List V) : Prop :=
  (∃ o, H a = some (.frz o (.lst xs))) ∨ ∃ (o : Obj) (its : Array Value) (n : Nat), K.lookup a = some o ∧ o.cls = .type "list" ∧ o.dict = none ∧ o.data = .seq its n ∧ its.size ≤ sizeLine ∧ Vals xs its.toList
theorem TuA.of {K : PySem.W.Frag} {H : Hp} {a : Addr} {xs : List V} (h : H a = some (.tup xs)) : TuA K H a xs := .inl h
theorem TuA.sq {K : PySem.W.Frag} {H : Hp} {a : Addr} {xs : List V} (h : TuA K H a xs) : SqT K H a xs := by
  rcases h with h | h
  · exact .inl (.inl h)
  · exact .inr h
theorem LiA.sq {K : PySem.W.Frag} {H : Hp} {a : Addr} {xs : List V} (h : LiA K H a xs) : SqL K H a xs := by
  rcases h with h | h
  · exact .inl (.inr h)
  · exact .inr h
mutual
inductive R (K : PySem.W.Frag) (m : List Addr) (H : Hp) : W → V → Prop
  | non : R K m H .non .non
  | bl (b : Bool) : R K m H (.bl b) (.bl b)
  | int (i : Int) : R K m H (.int i) (.int i)
  | str (x : Str) : R K m H (.str x) (.str x)
  | tup {p : Addr} {vs : List V} {ws : List W} : TuA K H p vs → RL K m H ws vs → R K m H (.tup ws) (.ref p)
  | lro {p : Addr} {vs : List V} {ws : List W} : LiA K H p vs → RL K m H ws vs → R K m H (.lro ws) (.ref p)
  | ref {n : Nat} {a : Addr} : m[n]? = some a → R K m H (.ref n) (.ref a)
inductive RL (K : PySem.W.Frag) (m : List Addr) (H : Hp) : List W → List V → Prop
  | nil : RL K m H [] []
  | cons {w : W} {v : V} {ws : List W} {vs : List V} : R K m H w v → RL K m H ws vs → RL K m H (w :: ws) (v :: vs)
end
inductive RK (K : PySem.W.Frag) (m : List Addr) (H : Hp) : List (Key × W) → List (Key × V) → Prop
  | nil : RK K m H [] []
  | cons {k : Key} {w : W} {v : V} {ws : List (Key × W)} {vs : List (Key × V)} : R K m H w v → RK K m H ws vs → RK K m H ((k, w) :: ws) ((k, v) :: vs)
/-- H' goes on from H: what is not at m stays -/
structure Adv (m : List Addr) (H : Hp) (m' : List Addr) (H' : Hp) : Prop where
  pre : ∃ t, m' = m ++ t
  same : ∀ a o, H a = some o → a ∉ m → H' a = some o
  new : ∀ a, a ∈ m' → a ∈ m ∨ H a = none
  tup : ∀ a xs, H a = some (.tup xs) → H' a = some (.tup xs)
  frz : ∀ a o u, H a = some (.frz o u) → H' a = some (.frz o u)
theorem Adv.refl (m : List Addr) (H : Hp) : Adv m H m H := ⟨⟨[], by simp⟩, fun _ _ h _ => h, fun _ h => .inl h, fun _ _ h => h, fun _ _ _ h => h⟩
theorem Adv.trans {m m1 m2 : List Addr} {H H1 H2 : Hp} (a : Adv m H m1 H1) (b : Adv m1 H1 m2 H2) : Adv m H m2 H2 := by
  refine ⟨?_, fun x o h n => ?_, fun x h => ?_, fun x xs h => b.tup x xs (a.tup x xs h), fun x o u h => b.frz x o u (a.frz x o u h)⟩
  · obtain ⟨t, rfl⟩ := a.pre
    obtain ⟨t', rfl⟩ := b.pre
    exact ⟨t ++ t', by rw [List.append_assoc]⟩
  · refine b.same x o (a.same x o h n) fun q => ?_
    rcases a.new x q with q | q
    · exact n q
    · rw [h] at q; cases q
  · rcases b.new x h with q | q
    · exact a.new x q
    · by_cases hm : x ∈ m
      · exact .inl hm
      · cases e : H x with
        | none => exact .inr rfl
        | some o =>
          rw [a.same x o e hm] at q
          cases q
/-- what descriptions lean on -/
structure Ext (m : List Addr) (H : Hp) (m' : List Addr) (H' : Hp) : Prop where
  pre : ∃ t, m' = m ++ t
  tup : ∀ a xs, H a = some (.tup xs) → H' a = some (.tup xs)
  frz : ∀ a o u, H a = some (.frz o u) → H' a = some (.frz o u)
theorem Adv.ext {m m' : List Addr} {H H' : Hp} (a : Adv m H m' H') : Ext m H m' H' := ⟨a.pre, a.tup, a.frz⟩
theorem Ext.get {m m' : List Addr} {H H' : Hp} (a : Ext m H m' H') {n : Nat} {x : Addr} (h : m[n]? = some x) : m'[n]? = some x := by
  obtain ⟨t, rfl⟩ := a.pre
  rw [List.getElem?_append_left (List.getElem?_eq_some_iff.mp h).1]
  exact h
theorem Adv.get {m m' : List Addr} {H H' : Hp} (a : Adv m H m' H') {n : Nat} {x : Addr} (h : m[n]? = some x) : m'[n]? = some x := by
  obtain ⟨t, rfl⟩ := a.pre
  rw [List.getElem?_append_left (List.getElem?_eq_some_iff.mp h).1]
  exact h
section
variable {K : PySem.W.Frag} {m m' : List Addr} {H H' : Hp}
theorem TuA.ext {a : Addr} {xs : List V} (A : Ext m H m' H') (h : TuA K H a xs) : TuA K H' a xs := by
  rcases h with h | h
  · exact .inl (A.tup _ _ h)
  · exact .inr h
theorem LiA.ext {a : Addr} {xs : List V} (A : Ext m H m' H') (h : LiA K H a xs) : LiA K H' a xs := by
  rcases h with ⟨o, h⟩ | h
  · exact .inl ⟨o, A.frz _ _ _ h⟩
  · exact .inr h
mutual
theorem R.ext (A : Ext m H m' H') : ∀ {w : W} {v : V}, R K m H w v → R K m' H' w v
  | .non, _, h => by cases h; exact .non
  | .bl _, _, h => by cases h; exact .bl _
  | .int _, _, h => by cases h; exact .int _
  | .str _, _, h => by cases h; exact .str _
  | .tup ws, _, h => by
    cases h with
    | tup h1 h2 => exact .tup (h1.ext A) (RL.ext A h2)
  | .lro ws, _, h => by
    cases h with
    | lro h1 h2 => exact .lro (h1.ext A) (RL.ext A h2)
  | .ref _, _, h => by
    cases h with
    | ref h1 => exact .ref (A.get h1)
theorem RL.ext (A : Ext m H m' H') : ∀ {ws : List W} {vs : List V}, RL K m H ws vs → RL K m' H' ws vs
  | [], _, h => by cases h; exact .nil
  | w :: ws, _, h => by
    cases h with
    | cons h1 h2 => exact .cons (R.ext A h1) (RL.ext A h2)
end
theorem RK.ext (A : Ext m H m' H') : ∀ {ws : List (Key × W)} {vs : List (Key × V)}, RK K m H ws vs → RK K m' H' ws vs
  | [], _, h => by cases h; exact .nil
  | w :: ws, _, h => by
    cases h with
    | cons h1 h2 => exact .cons (h1.ext A) (RK.ext A h2)
theorem R.adv (A : Adv m H m' H') {w : W} {v : V} (h : R K m H w v) : R K m' H' w v := R.ext A.ext h
theorem RL.adv (A : Adv m H m' H') {w : List W} {v : List V} (h : RL K m H w v) : RL K m' H' w v := RL.ext A.ext h
theorem RK.adv (A : Adv m H m' H') {w : List (Key × W)} {v : List (Key × V)} (h : RK K m H w v) : RK K m' H' w v := RK.ext A.ext h
theorem RL.len : ∀ {ws : List W} {vs : List V}, RL K m H ws vs → vs.length = ws.length
  | [], _, h => by cases h; rfl
  | w :: ws, _, h => by
    cases h with
    | cons h1 h2 => rw [List.length_cons, List.length_cons, RL.len h2]
theorem RL.get : ∀ {ws : List W} {vs : List V} {i : Nat} {v : V}, RL K m H ws vs → vs[i]? = some v → ∃ w, ws[i]? = some w ∧ R K m H w v
  | [], _, i, x, h, e => by cases h; cases e
  | d :: r, _, 0, x, h, e => by
    cases h with
    | cons h1 h2 => cases e; exact ⟨_, rfl, h1⟩
  | d :: r, _, i + 1, x, h, e => by
    cases h with
    | cons h1 h2 => exact RL.get (i := i) h2 e
theorem RL.at : ∀ {ws : List W} {vs : List V} {i : Nat} {w : W}, RL K m H ws vs → ws[i]? = some w → ∃ v, vs[i]? = some v ∧ R K m H w v
  | [], _, i, x, h, e => by cases e
  | d :: r, _, 0, x, h, e => by
    cases h with
    | cons h1 h2 => cases e; exact ⟨_, rfl, h1⟩
  | d :: r, _, i + 1, x, h, e => by
    cases h with
    | cons h1 h2 => exact RL.at (i := i) h2 e
theorem RL.app : ∀ {ws ws' : List W} {vs vs' : List V}, RL K m H ws vs → RL K m H ws' vs' → RL K m H (ws ++ ws') (vs ++ vs')
  | [], _, _, _, h, g => by cases h; exact g
  | d :: r, _, _, _, h, g => by
    cases h with
    | cons h1 h2 => exact .cons h1 (RL.app h2 g)
theorem RL.take : ∀ {ws : List W} {vs : List V} (n : Nat), RL K m H ws vs → RL K m H (ws.take n) (vs.take n)
  | [], _, n, h => by cases h; rw [List.take_nil, List.take_nil]; exact .nil
  | d :: r, _, 0, h => by rw [List.take_zero, List.take_zero]; exact .nil
  | d :: r, _, n + 1, h => by
    cases h with
    | cons h1 h2 => exact .cons h1 (RL.take n h2)
theorem RL.drop : ∀ {ws : List W} {vs : List V} (n : Nat), RL K m H ws vs → RL K m H (ws.drop n) (vs.drop n)
  | [], _, n, h => by cases h; rw [List.drop_nil, List.drop_nil]; exact .nil
  | d :: r, _, 0, h => h
  | d :: r, _, n + 1, h => by
    cases h with
    | cons h1 h2 => exact RL.drop n h2
theorem RL.set : ∀ {ws : List W} {vs : List V} (n : Nat) {w : W} {v : V}, RL K m H ws vs → R K m H w v → RL K m H (ws.set n w) (vs.set n v)
  | [], _, n, _, _, h, g => by cases h; exact .nil
  | d :: r, _, 0, _, _, h, g => by
    cases h with
    | cons h1 h2 => exact .cons g h2
  | d :: r, _, n + 1, _, _, h, g => by
    cases h with
    | cons h1 h2 => exact .cons h1 (RL.set n h2 g)
theorem RL.rev {ws : List W} {vs : List V} (h : RL K m H ws vs) : RL K m H ws.reverse vs.reverse := by
  have key : ∀ {ws : List W} {vs : List V} {as : List W} {bs : List V}, RL K m H ws vs → RL K m H as bs → RL K m H (ws.reverseAux as) (vs.reverseAux bs) := by
    intro ws
    induction ws with
    | nil => intro vs as bs h g; cases h; exact g
    | cons x r ih =>
      intro vs as bs h g
      cases h with
      | @cons _ v _ vs h1 h2 => exact @ih vs (x :: as) (v :: bs) h2 (.cons h1 g)
  exact key h .nil
theorem RL.dropLast {ws : List W} {vs : List V} (h : RL K m H ws vs) : RL K m H ws.dropLast vs.dropLast := by
  rw [List.dropLast_eq_take, List.dropLast_eq_take, h.len]
  exact h.take _
theorem RL.erase : ∀ {ws : List W} {vs : List V} (n : Nat), RL K m H ws vs → RL K m H (ws.eraseIdx n) (vs.eraseIdx n)
  | [], _, n, h => by cases h; exact .nil
  | d :: r, _, 0, h => by
    cases h with
    | cons h1 h2 => exact h2
  | d :: r, _, n + 1, h => by
    cases h with
    | cons h1 h2 => exact .cons h1 (RL.erase n h2)
theorem RL.one {w : W} {v : V} (h : R K m H w v) : RL K m H [w] [v] := .cons h .nil
theorem RL.at_of {ws : List W} {vs : List V} {i : Int} {w : W} (h : RL K m H ws vs) (e : atI ws i = some w) : ∃ v, atI vs i = some v ∧ R K m H w v := by
  unfold atI at e ⊢
  rw [h.len]
  cases q : ixN ws.length i with
  | none => rw [q] at e; cases e
  | some j =>
    rw [q] at e
    exact h.at e
theorem RL.cut {ws : List W} {vs : List V} (h : RL K m H ws vs) (lo hi : Option Int) :
    RL K m H ((ws.drop (HT.sIx ws.length 0 lo)).take (HT.sIx ws.length ws.length hi - HT.sIx ws.length 0 lo)) (cutV vs lo hi) := by
  unfold cutV
  rw [h.len]
  exact (h.drop _).take _

/-! ### the store -/
def OR (K : PySem.W.Frag) (m : List Addr) (H : Hp) (a : Addr) : O → Prop
  | .lst ws => ∃ vs, H a = some (.lst vs) ∧ RL K m H ws vs
  | .dct kvs => ∃ vs, H a = some (.dK vs) ∧ RK K m H kvs vs
structure SR (K : PySem.W.Frag) (m : List Addr) (H : Hp) (st : Sto) : Prop where
  len : m.length = st.length
  nd : m.Nodup
  ok : ∀ (n : Nat) (a : Addr) (o : O), m[n]? = some a → st[n]? = some o → OR K m H a o
def hoOk : O → HO → Prop
  | .lst _, .lst _ => True
  | .dct _, .dK _ => True
  | _, _ => False
theorem SR.at {st : Sto} (S : SR K m H st) {n : Nat} {o : O} (h : st[n]? = some o) : ∃ a, m[n]? = some a ∧ OR K m H a o := by
  have hl : n < m.length := by rw [S.len]; exact (List.getElem?_eq_some_iff.mp h).1
  exact ⟨m[n], List.getElem?_eq_getElem hl, S.ok n _ o (List.getElem?_eq_getElem hl) h⟩
theorem SR.there {st : Sto} (S : SR K m H st) {a : Addr} (h : a ∈ m) : ∃ u, H a = some u ∧ ((∃ vs, u = .lst vs) ∨ ∃ vs, u = .dK vs) := by
  obtain ⟨n, hn, rfl⟩ := List.mem_iff_getElem.mp h
  have hl : n < st.length := by rw [← S.len]; exact hn
  have q := S.ok n m[n] st[n] (List.getElem?_eq_getElem hn) (List.getElem?_eq_getElem hl)
  cases e : st[n] with
  | lst ws => rw [e] at q; obtain ⟨vs, q, _⟩ := q; exact ⟨_, q, .inl ⟨_, rfl⟩⟩
  | dct ws => rw [e] at q; obtain ⟨vs, q, _⟩ := q; exact ⟨_, q, .inr ⟨_, rfl⟩⟩
theorem OR.ext (A : Ext m H m' H') {a : Addr} {o : O} (h : OR K m H a o) (e : H' a = H a) : OR K m' H' a o := by
  cases o with
  | lst ws => obtain ⟨vs, q, r⟩ := h; exact ⟨vs, by rw [e]; exact q, r.ext A⟩
  | dct ws => obtain ⟨vs, q, r⟩ := h; exact ⟨vs, by rw [e]; exact q, r.ext A⟩
theorem OR.adv (A : Adv m H m' H') {a : Addr} {o : O} (h : OR K m H a o) (e : H' a = H a) : OR K m' H' a o := h.ext A.ext e
/-- a list that was made beside the store joins it -/
theorem Ext.join (D : Addr) : Ext m H (m ++ [D]) H := ⟨⟨[D], rfl⟩, fun _ _ h => h, fun _ _ _ h => h⟩
theorem SR.join {st : Sto} (S : SR K m H st) {p : Addr} {u : O} (hpm : p ∉ m) (h : OR K m H p u) : SR K (m ++ [p]) H (st ++ [u]) := by
  refine ⟨by rw [List.length_append, List.length_append, S.len]; rfl, List.nodup_append.mpr ⟨S.nd, by simp, fun a ha b hb => ?_⟩, fun n a o' h1 h2 => ?_⟩
  · rw [List.mem_singleton.mp hb]
    rintro rfl
    exact hpm ha
  · by_cases hn : n < m.length
    · rw [List.getElem?_append_left hn] at h1
      rw [List.getElem?_append_left (by rw [← S.len]; exact hn)] at h2
      exact (S.ok n a o' h1 h2).ext (Ext.join p) rfl
    · have e : n = m.length := by
        have := (List.getElem?_eq_some_iff.mp h1).1
        rw [List.length_append, List.length_singleton] at this
        omega
      subst e
      rw [List.getElem?_append_right (Nat.le_refl _), Nat.sub_self] at h1
      rw [S.len, List.getElem?_append_right (Nat.le_refl _), Nat.sub_self] at h2
      cases h1
      cases h2
      exact h.ext (Ext.join p) rfl
/-- a list that stands beside the store changes -/
theorem Ext.off {D : Addr} {xs : List V} {o : HO} (h : H D = some (.lst xs)) : Ext m H m (upd H D o) :=
  ⟨⟨[], by simp⟩, fun a ys e => by rw [upd_ne (ne_of e h (fun z => by cases z))]; exact e, fun a u y e => by rw [upd_ne (ne_of e h (fun z => by cases z))]; exact e⟩
theorem SR.off {st : Sto} (S : SR K m H st) {D : Addr} {xs : List V} {o : HO} (hD : D ∉ m) (h : H D = some (.lst xs)) : SR K m (upd H D o) st :=
  ⟨S.len, S.nd, fun n a u h1 h2 => (S.ok n a u h1 h2).ext (Ext.off h) (upd_ne fun z => hD (by rw [← z]; exact List.mem_of_getElem? h1))⟩
/-- a new tuple (or another thing that is not in the store) -/
theorem Adv.fresh {p : Addr} {o : HO} (hp : H p = none) : Adv m H m (upd H p o) :=
  ⟨⟨[], by simp⟩, fun a u h _ => by rw [upd_ne (ne_of_none h hp)]; exact h, fun _ h => .inl h, fun a xs h => by rw [upd_ne (ne_of_none h hp)]; exact h, fun a o u h => by rw [upd_ne (ne_of_none h hp)]; exact h⟩
theorem SR.fresh {st : Sto} (S : SR K m H st) {p : Addr} {o : HO} (hp : H p = none) : SR K m (upd H p o) st :=
  ⟨S.len, S.nd, fun n a u h1 h2 => by
    refine (S.ok n a u h1 h2).adv (Adv.fresh hp) ?_
    obtain ⟨u', h, _⟩ := S.there (List.mem_of_getElem? h1)
    rw [upd_ne (ne_of_none h hp)]⟩
/-- a new object of the store -/
theorem Adv.alloc {p : Addr} {o : HO} (hp : H p = none) : Adv m H (m ++ [p]) (upd H p o) :=
  ⟨⟨[p], rfl⟩, fun a u h _ => by rw [upd_ne (ne_of_none h hp)]; exact h, fun a h => by
    rcases List.mem_append.mp h with h | h
    · exact .inl h
    · rw [List.mem_singleton.mp h]; exact .inr hp, fun a xs h => by rw [upd_ne (ne_of_none h hp)]; exact h, fun a o u h => by rw [upd_ne (ne_of_none h hp)]; exact h⟩
theorem SR.alloc {st : Sto} (S : SR K m H st) {p : Addr} {o : HO} {u : O} (hp : H p = none) (h : OR K (m ++ [p]) (upd H p o) p u) : SR K (m ++ [p]) (upd H p o) (st ++ [u]) := by
  have hpm : p ∉ m := fun q => by
    obtain ⟨u, e, _⟩ := S.there q
    rw [hp] at e; cases e
  refine ⟨by rw [List.length_append, List.length_append, S.len]; rfl, List.nodup_append.mpr ⟨S.nd, by simp, fun a ha b hb => ?_⟩, fun n a o' h1 h2 => ?_⟩
  · rw [List.mem_singleton.mp hb]
    rintro rfl
    exact hpm ha
  · by_cases hn : n < m.length
    · rw [List.getElem?_append_left hn] at h1
      rw [List.getElem?_append_left (by rw [← S.len]; exact hn)] at h2
      refine (S.ok n a o' h1 h2).adv (Adv.alloc hp) ?_
      obtain ⟨u', h, _⟩ := S.there (List.mem_of_getElem? h1)
      rw [upd_ne (ne_of_none h hp)]
    · have e : n = m.length := by
        have := (List.getElem?_eq_some_iff.mp h1).1
        rw [List.length_append, List.length_singleton] at this
        omega
      subst e
      rw [List.getElem?_append_right (Nat.le_refl _), Nat.sub_self] at h1
      rw [S.len, List.getElem?_append_right (Nat.le_refl _), Nat.sub_self] at h2
      cases h1
      cases h2
      exact h
theorem alloc_at {st : Sto} (S : SR K m H st) {p : Addr} {H' : Hp} : R K (m ++ [p]) H' (.ref st.length) (.ref p) := by
  refine .ref ?_
  rw [← S.len, List.getElem?_append_right (Nat.le_refl _), Nat.sub_self]
  rfl
/-- an object of the store is written -/
theorem Adv.write {st : Sto} (S : SR K m H st) {n : Nat} {a : Addr} {o : HO} (h : m[n]? = some a) : Adv m H m (upd H a o) := by
  have ha := List.mem_of_getElem? h
  obtain ⟨u, e, k⟩ := S.there ha
  refine ⟨⟨[], by simp⟩, fun b u h n => ?_, fun _ h => .inl h, fun b xs h => ?_, fun b o u h => ?_⟩
  · rw [upd_ne (fun z => n (by rw [z]; exact ha))]; exact h
  · rw [upd_ne (fun z => ?_)]
    · exact h
    · rw [z, e] at h
      rcases k with ⟨_, rfl⟩ | ⟨_, rfl⟩ <;> cases h
  · rw [upd_ne (fun z => ?_)]
    · exact h
    · rw [z, e] at h
      rcases k with ⟨_, rfl⟩ | ⟨_, rfl⟩ <;> cases h
theorem SR.write {st : Sto} (S : SR K m H st) {n : Nat} {a : Addr} {o : HO} {u : O} (h : m[n]? = some a) (hu : OR K m (upd H a o) a u) : SR K m (upd H a o) (st.set n u) := by
  refine ⟨by rw [List.length_set]; exact S.len, S.nd, fun j b o' h1 h2 => ?_⟩
  by_cases e : n = j
  · subst e
    rw [h] at h1
    cases h1
    have hl : n < st.length := by rw [← S.len]; exact (List.getElem?_eq_some_iff.mp h).1
    rw [List.getElem?_set_self hl] at h2
    cases h2
    exact hu
  · rw [List.getElem?_set_ne e] at h2
    have hne : b ≠ a := fun z => by
      subst z
      obtain ⟨l1, e1⟩ := List.getElem?_eq_some_iff.mp h
      obtain ⟨l2, e2⟩ := List.getElem?_eq_some_iff.mp h1
      exact e ((List.getElem_inj S.nd).mp (e1.trans e2.symm))
    exact (S.ok j b o' h1 h2).adv (Adv.write S h) (upd_ne hne)
/-- the frame's slots -/
def EQ (K : PySem.W.Frag) (m : List Addr) (H : Hp) : Option W → Option V → Prop
  | some w, some v => R K m H w v
  | none, _ => True
  | some _, none => False
inductive ER (K : PySem.W.Frag) (m : List Addr) (H : Hp) : EnvM → List (Option V) → Prop
  | nil : ER K m H [] []
  | cons {x : Option W} {y : Option V} {ρ : EnvM} {σ : List (Option V)} : EQ K m H x y → ER K m H ρ σ → ER K m H (x :: ρ) (y :: σ)
theorem EQ.adv (A : Adv m H m' H') : ∀ {x : Option W} {y : Option V}, EQ K m H x y → EQ K m' H' x y
  | some _, some _, h => R.adv A h
  | none, _, _ => trivial
  | some _, none, h => h
theorem ER.adv (A : Adv m H m' H') : ∀ {ρ : EnvM} {σ : List (Option V)}, ER K m H ρ σ → ER K m' H' ρ σ
  | _, _, .nil => .nil
  | _, _, .cons h t => .cons (h.adv A) (t.adv A)
theorem ER.get : ∀ {ρ : EnvM} {σ : List (Option V)} {i : Nat} {w : W}, ER K m H ρ σ → ρ[i]? = some (some w) → ∃ v, σ[i]? = some (some v) ∧ R K m H w v
  | _, _, _, _, .nil, e => by cases e
  | _, _, 0, w, .cons (x := x) (y := y) h t, e => by
    cases e
    cases y with
    | none => exact False.elim h
    | some v => exact ⟨v, rfl, h⟩
  | _, _, i + 1, w, .cons h t, e => ER.get (i := i) t e
theorem ER.set : ∀ {ρ : EnvM} {σ : List (Option V)} (i : Nat) {w : W} {v : V}, ER K m H ρ σ → R K m H w v → ER K m H (ρ.set i (some w)) (σ.set i (some v))
  | _, _, _, _, _, .nil, r => .nil
  | _, _, 0, w, _, .cons h t, r => .cons r t
  | _, _, i + 1, w, _, .cons h t, r => .cons h (ER.set i t r)
theorem ER.forget : ∀ {ρ : EnvM} {σ : List (Option V)} (i : Nat), ER K m H ρ σ → ER K m H (ρ.set i none) (σ.set i none)
  | _, _, _, .nil => .nil
  | _, _, 0, .cons h t => .cons trivial t
  | _, _, i + 1, .cons h t => .cons h (ER.forget i t)
theorem ER.len : ∀ {ρ : EnvM} {σ : List (Option V)}, ER K m H ρ σ → ρ.length = σ.length
  | _, _, .nil => rfl
  | _, _, .cons h t => by rw [List.length_cons, List.length_cons, ER.len t]
theorem ER.nones (n : Nat) : ER K m H (List.replicate n none) (List.replicate n none) := by
  induction n with
  | zero => exact .nil
  | succ n ih => exact .cons trivial ih
theorem ER.app : ∀ {ρ ρ' : EnvM} {σ σ' : List (Option V)}, ER K m H ρ σ → ER K m H ρ' σ' → ER K m H (ρ ++ ρ') (σ ++ σ')
  | _, _, _, _, .nil, g => g
  | _, _, _, _, .cons h t, g => .cons h (ER.app t g)
theorem RL.env : ∀ {ws : List W} {vs : List V}, RL K m H ws vs → ER K m H (ws.map some) (vs.map some)
  | [], _, h => by cases h; exact .nil
  | w :: ws, _, h => by
    cases h with
    | cons h1 h2 => exact .cons h1 (RL.env h2)
end
end Mir

set_option Elab.async false
set_option linter.all false
set_option maxRecDepth 100000
namespace Mir
open PySem PySem.Spec PyProof.Rows L2

/-! ### results -/
abbrev Rz (α : Type) := Option (α × Sto)
def bd {α β : Type} (x : Rz α) (f : α → Sto → Rz β) : Rz β := match x with
  | some (a, s) => f a s
  | none => none
theorem bd_some {α β : Type} {a : α} {s : Sto} {f : α → Sto → Rz β} : bd (some (a, s)) f = f a s := rfl
theorem bd_none {α β : Type} {f : α → Sto → Rz β} : bd (none : Rz α) f = none := rfl
theorem bd_inv {α β : Type} {x : Rz α} {f : α → Sto → Rz β} {r : β × Sto} (h : bd x f = some r) : ∃ a s, x = some (a, s) ∧ f a s = some r := by
  cases x with
  | none => cases h
  | some p => exact ⟨p.1, p.2, rfl, h⟩
theorem bd_assoc {α β γ : Type} {x : Rz α} {f : α → Sto → Rz β} {g : β → Sto → Rz γ} : bd (bd x f) g = bd x fun a s => bd (f a s) g := by
  cases x <;> rfl
abbrev FE := EnvM → Sto → Rz W
abbrev FT := EnvM → Sto → Rz Bool
abbrev FA := EnvM → Sto → Rz (List W)
abbrev FP := EnvM → Sto → Rz (Option Int)
inductive Out where
  | nx (ρ : EnvM)
  | rt (w : W)
  | bk (ρ : EnvM)
  | ct (ρ : EnvM)
abbrev FS := EnvM → Sto → Rz Out

/-! ### what is wished behind a result -/
def wE (K : PySem.W.Frag) (m : List Addr) (H : Hp) (r : Rz W) (Q : VK) : Prop := ∃ w s, r = some (w, s) ∧ ∀ m' H' v, Adv m H m' H' → SR K m' H' s → R K m' H' w v → Q v H'
def wT (K : PySem.W.Frag) (m : List Addr) (H : Hp) (r : Rz Bool) (Q : Bool → Hp → Prop) : Prop := ∃ b s, r = some (b, s) ∧ ∀ m' H', Adv m H m' H' → SR K m' H' s → Q b H'
def wA (K : PySem.W.Frag) (m : List Addr) (H : Hp) (r : Rz (List W)) (Q : List V → Hp → Prop) : Prop := ∃ ws s, r = some (ws, s) ∧ ∀ m' H' vs, Adv m H m' H' → SR K m' H' s → RL K m' H' ws vs → Q vs H'
def wP (K : PySem.W.Frag) (m : List Addr) (H : Hp) (r : Rz (Option Int)) (Q : Option Int → Hp → Prop) : Prop := ∃ i s, r = some (i, s) ∧ ∀ m' H', Adv m H m' H' → SR K m' H' s → Q i H'
def outE (K : PySem.W.Frag) (m : List Addr) (H : Hp) (s : Sto) (D : Ends) : Out → Prop
  | .nx ρ => ∀ m' H' σ', Adv m H m' H' → SR K m' H' s → ER K m' H' ρ σ' → D.nx σ' H'
  | .bk ρ => ∀ m' H' σ', Adv m H m' H' → SR K m' H' s → ER K m' H' ρ σ' → D.bk σ' H'
  | .ct ρ => ∀ m' H' σ', Adv m H m' H' → SR K m' H' s → ER K m' H' ρ σ' → D.ct σ' H'
  | .rt w => ∀ m' H' v, Adv m H m' H' → SR K m' H' s → R K m' H' w v → D.rt v H'
def wS (K : PySem.W.Frag) (m : List Addr) (H : Hp) (r : Rz Out) (D : Ends) : Prop := ∃ o s, r = some (o, s) ∧ outE K m H s D o
/-! ### the readings -/
def tF (K : PySem.W.Frag) (f : FE) : TE := fun σ H Q => ∃ m ρ s, ER K m H ρ σ ∧ SR K m H s ∧ wE K m H (f ρ s) Q
def tT (K : PySem.W.Frag) (f : FT) : TT := fun σ H Q => ∃ m ρ s, ER K m H ρ σ ∧ SR K m H s ∧ wT K m H (f ρ s) Q
def tA (K : PySem.W.Frag) (f : FA) : TA := fun σ H Q => ∃ m ρ s, ER K m H ρ σ ∧ SR K m H s ∧ wA K m H (f ρ s) Q
def tP (K : PySem.W.Frag) (f : FP) : TO := fun σ H Q => ∃ m ρ s, ER K m H ρ σ ∧ SR K m H s ∧ wP K m H (f ρ s) Q
def tS (K : PySem.W.Frag) (f : FS) : TS := fun D σ H => ∃ m ρ s, ER K m H ρ σ ∧ SR K m H s ∧ wS K m H (f ρ s) D
def OpF (K : PySem.W.Frag) (r : R2) (g : W → W → Sto → Rz W) : Prop := ∀ m H s x y v u Q, SR K m H s → R K m H x v → R K m H y u → wE K m H (g x y s) Q → r v u H Q
def UnF (K : PySem.W.Frag) (r : V → Hp → VK → Prop) (g : W → Sto → Rz W) : Prop := ∀ m H s x v Q, SR K m H s → R K m H x v → wE K m H (g x s) Q → r v H Q
def CallF (K : PySem.W.Frag) (r : List V → Hp → VK → Prop) (g : List W → Sto → Rz W) : Prop := ∀ m H s ws vs Q, SR K m H s → RL K m H ws vs → wE K m H (g ws s) Q → r vs H Q
def MtF (K : PySem.W.Frag) (r : V → List V → Hp → VK → Prop) (g : W → List W → Sto → Rz W) : Prop := ∀ m H s x v ws vs Q, SR K m H s → R K m H x v → RL K m H ws vs → wE K m H (g x ws s) Q → r v vs H Q
def SlF (K : PySem.W.Frag) (r : V → Option Int → Option Int → Hp → VK → Prop) (g : W → Option Int → Option Int → Sto → Rz W) : Prop := ∀ m H s x v lo hi Q, SR K m H s → R K m H x v → wE K m H (g x lo hi s) Q → r v lo hi H Q

section
variable {X : Cx}
theorem _root_.L2.PE.imp {e : Expr} {t t' : TE} (h : PE X e t) (q : ∀ σ H Q, t' σ H Q → t σ H Q) : PE X e t' := ⟨fun pins s σ H Q I r => h.run pins s σ H Q I (q _ _ _ r)⟩
theorem _root_.L2.PT.imp {e : Expr} {t t' : TT} (h : PT X e t) (q : ∀ σ H Q, t' σ H Q → t σ H Q) : PT X e t' := ⟨fun pins s σ H Q I r => h.run pins s σ H Q I (q _ _ _ r)⟩
theorem _root_.L2.PW.imp {e : Expr} {t t' : TT} (h : PW X e t) (q : ∀ σ H Q, t' σ H Q → t σ H Q) : PW X e t' := ⟨fun whole pins s σ H Q I r => h.run whole pins s σ H Q I (q _ _ _ r)⟩
theorem _root_.L2.PA.imp {e : List Expr} {t t' : TA} (h : PA X e t) (q : ∀ σ H Q, t' σ H Q → t σ H Q) : PA X e t' := ⟨fun pos pins s σ H Q I r => h.run pos pins s σ H Q I (q _ _ _ r)⟩
theorem _root_.L2.PS.imp {st : Stmt} {t t' : TS} (h : PS X st t) (q : ∀ D σ H, t' D σ H → t D σ H) : PS X st t' := ⟨fun pins s σ H D I r => h.run pins s σ H D I (q _ _ _ r)⟩
theorem _root_.L2.PSs.imp {st : List Stmt} {t t' : TS} (h : PSs X st t) (q : ∀ D σ H, t' D σ H → t D σ H) : PSs X st t' := ⟨fun pins s σ H D I r => h.run pins s σ H D I (q _ _ _ r)⟩
theorem _root_.L2.PO.imp {e : Option Expr} {t t' : TO} (h : PO X e t) (q : ∀ σ H Q, t' σ H Q → t σ H Q) : PO X e t' := by
  cases h with
  | mk run => exact ⟨fun pins s σ H Q I r => run pins s σ H Q I (q _ _ _ r)⟩
theorem wE.adv {K : PySem.W.Frag} {m m1 : List Addr} {H H1 : Hp} {r : Rz W} {Q : VK} (h : wE K m H r Q) (A : Adv m H m1 H1) : wE K m1 H1 r Q := by
  obtain ⟨w, s, e, q⟩ := h
  exact ⟨w, s, e, fun m' H' v A' => q m' H' v (A.trans A')⟩
theorem wT.adv {K : PySem.W.Frag} {m m1 : List Addr} {H H1 : Hp} {r : Rz Bool} {Q : Bool → Hp → Prop} (h : wT K m H r Q) (A : Adv m H m1 H1) : wT K m1 H1 r Q := by
  obtain ⟨w, s, e, q⟩ := h
  exact ⟨w, s, e, fun m' H' A' => q m' H' (A.trans A')⟩
theorem wA.adv {K : PySem.W.Frag} {m m1 : List Addr} {H H1 : Hp} {r : Rz (List W)} {Q : List V → Hp → Prop} (h : wA K m H r Q) (A : Adv m H m1 H1) : wA K m1 H1 r Q := by
  obtain ⟨w, s, e, q⟩ := h
  exact ⟨w, s, e, fun m' H' v A' => q m' H' v (A.trans A')⟩
theorem outE.adv {K : PySem.W.Frag} {m m1 : List Addr} {H H1 : Hp} {s : Sto} {D : Ends} {o : Out} (h : outE K m H s D o) (A : Adv m H m1 H1) : outE K m1 H1 s D o := by
  cases o with
  | nx ρ => exact fun m' H' σ' A' => h m' H' σ' (A.trans A')
  | bk ρ => exact fun m' H' σ' A' => h m' H' σ' (A.trans A')
  | ct ρ => exact fun m' H' σ' A' => h m' H' σ' (A.trans A')
  | rt w => exact fun m' H' σ' A' => h m' H' σ' (A.trans A')
theorem wS.adv {K : PySem.W.Frag} {m m1 : List Addr} {H H1 : Hp} {r : Rz Out} {D : Ends} (h : wS K m H r D) (A : Adv m H m1 H1) : wS K m1 H1 r D := by
  obtain ⟨o, s, e, q⟩ := h
  exact ⟨o, s, e, q.adv A⟩
/-- the chain: first x, then its follower, in the place where x has come -/
theorem wE.bdE {K : PySem.W.Frag} {m : List Addr} {H : Hp} {x : Rz W} {f : W → Sto → Rz W} {Q : VK} (h : wE K m H (bd x f) Q) : wE K m H x fun v H' => ∃ m' w s, Adv m H m' H' ∧ SR K m' H' s ∧ R K m' H' w v ∧ x = some (w, s) ∧ wE K m' H' (f w s) Q := by
  obtain ⟨w, s, e, q⟩ := h
  obtain ⟨a, s1, e1, e2⟩ := bd_inv e
  exact ⟨a, s1, e1, fun m' H' v A S r => ⟨m', a, s1, A, S, r, e1, w, s, e2, fun m2 H2 v2 A2 => q m2 H2 v2 (A.trans A2)⟩⟩

/-! ### names, constants -/
def eVar (i : Nat) : FE := fun ρ s => match ρ[i]? with
  | some (some w) => some (w, s)
  | _ => none
theorem eVar_at {i : Nat} {ρ : EnvM} {s : Sto} {w : W} (h : ρ[i]? = some (some w)) : eVar i ρ s = some (w, s) := by unfold eVar; rw [h]
def eC (w : W) : FE := fun _ s => some (w, s)
theorem eVar_inv {i : Nat} {ρ : EnvM} {s : Sto} {r : W × Sto} (h : eVar i ρ s = some r) : ρ[i]? = some (some r.1) ∧ s = r.2 := by
  unfold eVar at h
  cases e : ρ[i]? with
  | none => rw [e] at h; cases h
  | some o =>
    cases o with
    | none => rw [e] at h; cases h
    | some w => rw [e] at h; cases h; exact ⟨rfl, rfl⟩
variable {e a b : Expr} {es : List Expr} {pos : Pos}
theorem m_var (i : Nat) {x : Str} (hN : X.N[i]? = some x := by rfl) (hv : Vis X.env.scope x := by first | exact Or.inl rfl | exact Or.inr (Or.inl rfl) | exact Or.inr (Or.inr rfl)) (hd : (x == ("__debug__" : Str)) = false := by decide)
    (hcd : (x == ("__classdict__" : Str)) = false := by decide) : PE X (.Name x pos) (tF X.K (eVar i)) := (pe_var hN hv hd hcd).imp fun σ H Q ⟨m, ρ, s, er, sr, w, s', h, q⟩ => by
  obtain ⟨h1, h2⟩ := eVar_inv h
  obtain ⟨v, hv, r⟩ := er.get h1
  have h2 : s = s' := h2
  subst h2
  exact ⟨v, hv, q m H v (Adv.refl m H) sr r⟩
theorem m_c {v : V} {w : W} (h : PE X e (tC v)) (r : ∀ m H, R X.K m H w v) : PE X e (tF X.K (eC w)) := h.imp fun σ H Q ⟨m, ρ, s, er, sr, w', s', e', q⟩ => by
  cases e'
  exact q m H v (Adv.refl m H) sr (r m H)
theorem m_int {i j} : PE X (.Constant (.int i) j pos) (tF X.K (eC (.int i))) := m_c pe_int fun _ _ => .int _
theorem m_bl {i j} : PE X (.Constant (.bool i) j pos) (tF X.K (eC (.bl i))) := m_c pe_bl fun _ _ => .bl _
theorem m_non {j} : PE X (.Constant .none j pos) (tF X.K (eC .non)) := m_c pe_non fun _ _ => .non
theorem m_str {x j} : PE X (.Constant (.str x) j pos) (tF X.K (eC (.str x))) := m_c pe_str fun _ _ => .str _

/-! ### operators, calls, methods by values -/
def eOp (g : W → W → Sto → Rz W) (a b : FE) : FE := fun ρ s => bd (a ρ s) fun x s1 => bd (b ρ s1) fun y s2 => g x y s2
def eUn (g : W → Sto → Rz W) (a : FE) : FE := fun ρ s => bd (a ρ s) fun x s1 => g x s1
def aNil : FA := fun _ s => some ([], s)
def aCons (a : FE) (r : FA) : FA := fun ρ s => bd (a ρ s) fun x s1 => bd (r ρ s1) fun xs s2 => some (x :: xs, s2)
def eFn (g : List W → Sto → Rz W) (a : FA) : FE := fun ρ s => bd (a ρ s) fun xs s1 => g xs s1
def eMt (c : W → Sto → Bool) (g : W → List W → Sto → Rz W) (o : FE) (a : FA) : FE := fun ρ s => bd (o ρ s) fun x s1 => if c x s1 = true then bd (a ρ s1) fun xs s2 => g x xs s2 else none
theorem tF_op {K : PySem.W.Frag} {r : R2} {g : W → W → Sto → Rz W} {fa fb : FE} (hg : OpF K r g) : ∀ σ H Q, tF K (eOp g fa fb) σ H Q → tOp r (tF K fa) (tF K fb) σ H Q := by
  rintro σ H Q ⟨m, ρ, s, er, sr, w, s', e, q⟩
  obtain ⟨x, s1, e1, e⟩ := bd_inv e
  obtain ⟨y, s2, e2, e⟩ := bd_inv e
  exact ⟨m, ρ, s, er, sr, x, s1, e1, fun m1 H1 v A1 S1 r1 => ⟨m1, ρ, s1, er.adv A1, S1, y, s2, e2, fun m2 H2 u A2 S2 r2 =>
    hg m2 H2 s2 x y v u Q S2 (r1.adv A2) r2 ⟨w, s', e, fun m3 H3 z A3 => q m3 H3 z ((A1.trans A2).trans A3)⟩⟩⟩
theorem tF_un {K : PySem.W.Frag} {r : V → Hp → VK → Prop} {g : W → Sto → Rz W} {fa : FE} (hg : UnF K r g) : ∀ σ H Q, tF K (eUn g fa) σ H Q → tUn r (tF K fa) σ H Q := by
  rintro σ H Q ⟨m, ρ, s, er, sr, w, s', e, q⟩
  obtain ⟨x, s1, e1, e⟩ := bd_inv e
  exact ⟨m, ρ, s, er, sr, x, s1, e1, fun m1 H1 v A1 S1 r1 => hg m1 H1 s1 x v Q S1 r1 ⟨w, s', e, fun m3 H3 z A3 => q m3 H3 z (A1.trans A3)⟩⟩
theorem tF_fn {K : PySem.W.Frag} {r : List V → Hp → VK → Prop} {g : List W → Sto → Rz W} {fa : FA} (hg : CallF K r g) : ∀ σ H Q, tF K (eFn g fa) σ H Q → (fun σ H Q => tA K fa σ H fun vs H1 => r vs H1 Q : TE) σ H Q := by
  rintro σ H Q ⟨m, ρ, s, er, sr, w, s', e, q⟩
  obtain ⟨x, s1, e1, e⟩ := bd_inv e
  exact ⟨m, ρ, s, er, sr, x, s1, e1, fun m1 H1 v A1 S1 r1 => hg m1 H1 s1 x v Q S1 r1 ⟨w, s', e, fun m3 H3 z A3 => q m3 H3 z (A1.trans A3)⟩⟩
theorem m_op {op : Operator} {r : R2} {g : W → W → Sto → Rz W} {fa fb : FE} (ho : OpR X (binaryOp op) r) (hg : OpF X.K r g) (ha : PE X a (tF X.K fa)) (hb : PE X b (tF X.K fb)) : PE X (.BinOp a op b pos) (tF X.K (eOp g fa fb)) := (pe_op ho ha hb).imp (tF_op hg)
theorem m_un {op : UnaryOp} {r : V → Hp → VK → Prop} {g : W → Sto → Rz W} {fa : FE} (ho : UnR X (unaryOp op) r) (hg : UnF X.K r g) (ha : PE X a (tF X.K fa)) : PE X (.UnaryOp op a pos) (tF X.K (eUn g fa)) := (pe_un ho ha).imp (tF_un hg)
theorem m_ix {r : R2} {g : W → W → Sto → Rz W} {fa fb : FE} (hr : IxR X r) (hg : OpF X.K r g) (ha : PE X a (tF X.K fa)) (hb : PE X b (tF X.K fb)) (hs : PlainIx b) : PE X (.Subscript a b pos) (tF X.K (eOp g fa fb)) := (pe_ix hr ha hb hs).imp (tF_op hg)
theorem m_cmp {op : CmpOp} {r : R2} {g : W → W → Sto → Rz W} {fa fb : FE} (ho : OpR X (compareOp op) r) (hg : OpF X.K r g) (ha : PE X a (tF X.K fa)) (hb : PE X b (tF X.K fb)) (hm : behindInMarks op b = false) : PE X (.Compare a [op] [b] pos) (tF X.K (eOp g fa fb)) :=
  (pe_cmpR ho ha hb hm).imp (tF_op hg)
theorem ma_nil : PA X [] (tA X.K aNil) := pa_nil.imp fun σ H Q ⟨m, ρ, s, er, sr, ws, s', e, q⟩ => by
  cases e
  exact q m H [] (Adv.refl m H) sr .nil
theorem ma_cons {fa : FE} {fr : FA} (ha : PE X e (tF X.K fa)) (hr : PA X es (tA X.K fr)) (hs : starEach (e :: es) X.env = (false, eval e X.env) :: starEach es X.env := by rfl) : PA X (e :: es) (tA X.K (aCons fa fr)) :=
  (pa_cons ha hr hs).imp fun σ H Q ⟨m, ρ, s, er, sr, ws, s', e, q⟩ => by
    obtain ⟨x, s1, e1, e⟩ := bd_inv e
    obtain ⟨y, s2, e2, e⟩ := bd_inv e
    cases e
    exact ⟨m, ρ, s, er, sr, x, s1, e1, fun m1 H1 v A1 S1 r1 => ⟨m1, ρ, s1, er.adv A1, S1, y, _, e2, fun m2 H2 u A2 S2 r2 => q m2 H2 (v :: u) (A1.trans A2) S2 (.cons (r1.adv A2) r2)⟩⟩
/-- a star of a tuple or a list -/
def seqOf (x : W) (s : Sto) : Option (List W) := match x with
  | .tup ws => some ws
  | .lro ws => some ws
  | .ref n => match s[n]? with
    | some (.lst ws) => some ws
    | _ => none
  | _ => none
theorem seq_of {K : PySem.W.Frag} {m : List Addr} {H : Hp} {s : Sto} {x : W} {v : V} {ws : List W} (S : SR K m H s) (r : R K m H x v) (h : seqOf x s = some ws) : ∃ p vs, v = .ref p ∧ (SqT K H p vs ∨ SqL K H p vs) ∧ RL K m H ws vs := by
  cases r with
  | non => cases h
  | bl => cases h
  | int => cases h
  | str => cases h
  | tup h1 h2 => cases h; exact ⟨_, _, rfl, .inl h1.sq, h2⟩
  | lro h1 h2 => cases h; exact ⟨_, _, rfl, .inr h1.sq, h2⟩
  | @ref n a h1 =>
    cases e : s[n]? with
    | none => simp only [seqOf, e] at h; cases h
    | some o =>
      cases o with
      | dct _ => simp only [seqOf, e] at h; cases h
      | lst ws' =>
        simp only [seqOf, e] at h
        cases h
        obtain ⟨a', h2, vs, h3, h4⟩ := S.at e
        rw [h1] at h2
        cases h2
        exact ⟨_, _, rfl, .inr (SqL.of h3), h4⟩
def aStar (a : FE) (r : FA) : FA := fun ρ s => bd (a ρ s) fun x s1 => match seqOf x s1 with
  | some ws => bd (r ρ s1) fun xs s2 => some (ws ++ xs, s2)
  | none => none
theorem ma_star {p : Pos} {fa : FE} {fr : FA} (ha : PE X e (tF X.K fa)) (hr : PA X es (tA X.K fr)) (hs : starEach (.Starred e p :: es) X.env = (true, eval e X.env) :: starEach es X.env := by rfl) : PA X (.Starred e p :: es) (tA X.K (aStar fa fr)) :=
  (StX.pa_star ha hr hs).imp fun σ H Q ⟨m, ρ, s, er, sr, ws, s', e, q⟩ => by
    obtain ⟨x, s1, e1, e⟩ := bd_inv e
    cases es : seqOf x s1 with
    | none => rw [es] at e; cases e
    | some zs =>
      rw [es] at e
      obtain ⟨y, s2, e2, e⟩ := bd_inv e
      cases e
      refine ⟨m, ρ, s, er, sr, x, s1, e1, fun m1 H1 v A1 S1 r1 => ?_⟩
      obtain ⟨p, vs, e3, h3, r3⟩ := seq_of S1 r1 es
      exact ⟨p, vs, e3, h3, m1, ρ, s1, er.adv A1, S1, y, _, e2, fun m2 H2 u A2 S2 r2 => q m2 H2 (vs ++ u) (A1.trans A2) S2 ((r3.adv A2).app r2)⟩
/-- built-ins by name -/
theorem m_callB {id : String} {x : Str} {p : Pos} {r : List V → Hp → VK → Prop} {g : List W → Sto → Rz W} {fa : FA} (hc : CallR X (.builtin id) r) (hg' : CallF X.K r g) (hg : Gl X x) (hm : X.mg x = none) (hv : bootBuiltins x = some (.builtin id)) (ha : PA X (e :: es) (tA X.K fa)) (hn : x ≠ "__name__" := by decide) (hdb : (x == ("__debug__" : Str)) = false := by decide)
    (he : starEach (e :: es) X.env = (false, eval e X.env) :: starEach es X.env := by rfl) (hpl : (backTo pos (starEach es X.env)).any (·.1) = false := by rfl) : PE X (.Call (.Name x p) (e :: es) [] pos) (tF X.K (eFn g fa)) := (pe_callB hc hg hm hv ha hn hdb he hpl).imp (tF_fn hg')
theorem m_callTy {T : String} {x : Str} {p : Pos} {r : List V → Hp → VK → Prop} {g : List W → Sto → Rz W} {fa : FA} (hc : CallR X (.type T) r) (hg' : CallF X.K r g) (hg : Gl X x) (hm : X.mg x = none) (hv : bootBuiltins x = some (.type T)) (ha : PA X (e :: es) (tA X.K fa)) (hn : x ≠ "__name__" := by decide) (hdb : (x == ("__debug__" : Str)) = false := by decide)
    (he : starEach (e :: es) X.env = (false, eval e X.env) :: starEach es X.env := by rfl) (hpl : (backTo pos (starEach es X.env)).any (·.1) = false := by rfl) : PE X (.Call (.Name x p) (e :: es) [] pos) (tF X.K (eFn g fa)) := (pe_callTy hc hg hm hv ha hn hdb he hpl).imp (tF_fn hg')
end
end Mir

set_option Elab.async false
set_option linter.all false
set_option maxRecDepth 100000
namespace Mir
open PySem PySem.Spec PyProof.Rows L2
section
variable {X : Cx} {e a b c : Expr} {es : List Expr} {pos : Pos}
/-! ### tests, truth -/
def bTest (f : FE) : FT := fun ρ s => bd (f ρ s) fun x s1 => match x with
  | .bl k => some (k, s1)
  | _ => none
theorem tT_test {K : PySem.W.Frag} {f : FE} : ∀ σ H Q, tT K (bTest f) σ H Q → (tF K f) σ H fun x H' => ∃ k, x = .bl k ∧ Q k H' := by
  rintro σ H Q ⟨m, ρ, s, er, sr, k, s', e, q⟩
  obtain ⟨x, s1, e1, e⟩ := bd_inv e
  cases x with
  | bl k' =>
    cases e
    exact ⟨m, ρ, s, er, sr, _, _, e1, fun m1 H1 v A1 S1 r1 => by cases r1; exact ⟨k, rfl, q m1 H1 A1 S1⟩⟩
  | _ => cases e
theorem mt_cmp {op : CmpOp} {r : R2} {g : W → W → Sto → Rz W} {fa fb : FE} (ho : OpR X (compareOp op) r) (hg : OpF X.K r g) (ha : PE X a (tF X.K fa)) (hb : PE X b (tF X.K fb)) (hm : behindInMarks op b = false) : PT X (.Compare a [op] [b] pos) (tT X.K (bTest (eOp g fa fb))) :=
  (pt_cmpR ho ha hb hm).imp fun σ H Q h => tF_op hg σ H _ (tT_test σ H Q h)
theorem mt_val {f : FE} (h : PE X e (tF X.K f)) (he : ∀ whole, isTrue e X.env whole = (do let v ← whole; standAt e.pos; holding [v] (truthy v)) := by intro _; rfl) : PT X e (tT X.K (bTest f)) := (pt_val h he).imp fun σ H Q q => tT_test σ H Q q
/-- truth of any value -/
def truW (x : W) (s : Sto) : Option Bool := match x with
  | .non => some false
  | .bl b => some b
  | .int i => some (i != 0)
  | .str y => if y.length ≤ sizeLine then some ((y.length : Int) != 0) else none
  | .tup ws => some (!ws.isEmpty)
  | .lro ws => some (!ws.isEmpty)
  | .ref n => match s[n]? with
    | some (.lst ws) => some (!ws.isEmpty)
    | some (.dct kvs) => some (!kvs.isEmpty)
    | none => none
theorem RL.emp {K : PySem.W.Frag} {m : List Addr} {H : Hp} {ws : List W} {vs : List V} (h : RL K m H ws vs) : vs.isEmpty = ws.isEmpty := by cases h <;> rfl
theorem RK.emp {K : PySem.W.Frag} {m : List Addr} {H : Hp} {ws : List (Key × W)} {vs : List (Key × V)} (h : RK K m H ws vs) : vs.isEmpty = ws.isEmpty := by cases h <;> rfl
theorem tru_of {K : PySem.W.Frag} {m : List Addr} {H : Hp} {s : Sto} {x : W} {v : V} {k : Bool} (S : SR K m H s) (r : R K m H x v) (h : truW x s = some k) : TruV K v H k := by
  cases r with
  | non => cases h; rfl
  | bl b => cases h; rfl
  | int i => cases h; rfl
  | str y =>
    simp only [truW] at h
    split at h
    · rename_i hl
      cases h
      exact ⟨hl, rfl⟩
    · cases h
  | tup h1 h2 => cases h; exact .inr (.inl ⟨_, h1.sq, by rw [h2.emp]⟩)
  | lro h1 h2 => cases h; exact .inl ⟨_, h1.sq, by rw [h2.emp]⟩
  | @ref n a h1 =>
    cases e : s[n]? with
    | none => simp only [truW, e] at h; cases h
    | some o =>
      obtain ⟨a', h2, h3⟩ := S.at e
      rw [h1] at h2
      cases h2
      cases o with
      | lst ws =>
        simp only [truW, e] at h
        cases h
        obtain ⟨vs, h3, h4⟩ := h3
        exact .inl ⟨_, SqL.of h3, by rw [h4.emp]⟩
      | dct ws =>
        simp only [truW, e] at h
        cases h
        obtain ⟨vs, h3, h4⟩ := h3
        exact .inr (.inr ⟨_, h3, by rw [h4.emp]⟩)
def bTruth (f : FE) : FT := fun ρ s => bd (f ρ s) fun x s1 => match truW x s1 with
  | some k => some (k, s1)
  | none => none
theorem mt_truth {f : FE} (h : PE X e (tF X.K f)) (he : ∀ whole, isTrue e X.env whole = (do let v ← whole; standAt e.pos; holding [v] (truthy v)) := by intro _; rfl) : PT X e (tT X.K (bTruth f)) :=
  (pt_truth h he).imp fun σ H Q ⟨m, ρ, s, er, sr, k, s', e, q⟩ => by
    obtain ⟨x, s1, e1, e⟩ := bd_inv e
    cases et : truW x s1 with
    | none => simp only [et] at e; cases e
    | some k' =>
      simp only [et] at e
      cases e
      exact ⟨m, ρ, s, er, sr, x, _, e1, fun m1 H1 v A1 S1 r1 => ⟨_, tru_of S1 r1 et, q m1 H1 A1 S1⟩⟩
def bAnd (t u : FT) : FT := fun ρ s => bd (t ρ s) fun k s1 => if k = true then u ρ s1 else some (false, s1)
def bOr (t u : FT) : FT := fun ρ s => bd (t ρ s) fun k s1 => if k = true then some (true, s1) else u ρ s1
def bNot (t : FT) : FT := fun ρ s => bd (t ρ s) fun k s1 => some (!k, s1)

theorem mw_and1 {t : FT} (h : PT X a (tT X.K t)) : PW X (.BoolOp .And [a] pos) (tT X.K t) := pw_and1 h
theorem mw_or1 {t : FT} (h : PT X a (tT X.K t)) : PW X (.BoolOp .Or [a] pos) (tT X.K t) := pw_or1 h
theorem mw_and {t u : FT} {rest : List Expr} (ha : PT X a (tT X.K t)) (hb : PW X (.BoolOp .And (b :: rest) pos) (tT X.K u)) : PW X (.BoolOp .And (a :: b :: rest) pos) (tT X.K (bAnd t u)) :=
  (pw_and ha hb).imp fun σ H Q ⟨m, ρ, s, er, sr, k, s', e, q⟩ => by
    obtain ⟨c, s1, e1, e⟩ := bd_inv e
    refine ⟨m, ρ, s, er, sr, c, s1, e1, fun m1 H1 A1 S1 => ?_⟩
    cases c with
    | true =>
      rw [if_pos rfl] at e ⊢
      exact ⟨m1, ρ, s1, er.adv A1, S1, k, s', e, fun m2 H2 A2 => q m2 H2 (A1.trans A2)⟩
    | false =>
      rw [if_neg Bool.false_ne_true] at e ⊢
      cases e
      exact q m1 H1 A1 S1
theorem mw_or {t u : FT} {rest : List Expr} (ha : PT X a (tT X.K t)) (hb : PW X (.BoolOp .Or (b :: rest) pos) (tT X.K u)) : PW X (.BoolOp .Or (a :: b :: rest) pos) (tT X.K (bOr t u)) :=
  (pw_or ha hb).imp fun σ H Q ⟨m, ρ, s, er, sr, k, s', e, q⟩ => by
    obtain ⟨c, s1, e1, e⟩ := bd_inv e
    refine ⟨m, ρ, s, er, sr, c, s1, e1, fun m1 H1 A1 S1 => ?_⟩
    cases c with
    | false =>
      rw [if_neg Bool.false_ne_true] at e ⊢
      exact ⟨m1, ρ, s1, er.adv A1, S1, k, s', e, fun m2 H2 A2 => q m2 H2 (A1.trans A2)⟩
    | true =>
      rw [if_pos rfl] at e ⊢
      cases e
      exact q m1 H1 A1 S1
theorem mt_not {t : FT} (ha : PT X a (tT X.K t)) : PT X (.UnaryOp .Not a pos) (tT X.K (bNot t)) :=
  (pt_not ha).imp fun σ H Q ⟨m, ρ, s, er, sr, k, s', e, q⟩ => by
    obtain ⟨c, s1, e1, e⟩ := bd_inv e
    cases e
    exact ⟨m, ρ, s, er, sr, c, _, e1, fun m1 H1 A1 S1 => q m1 H1 A1 S1⟩
/-! ### and, or, not, if as values -/
def eAnd (f g : FE) : FE := fun ρ s => bd (f ρ s) fun x s1 => match truW x s1 with
  | some k => if k = true then g ρ s1 else some (x, s1)
  | none => none
def eOr (f g : FE) : FE := fun ρ s => bd (f ρ s) fun x s1 => match truW x s1 with
  | some k => if k = true then some (x, s1) else g ρ s1
  | none => none
def eNot (f : FE) : FE := fun ρ s => bd (f ρ s) fun x s1 => match truW x s1 with
  | some k => some (.bl (!k), s1)
  | none => none
def eIf (t : FT) (f g : FE) : FE := fun ρ s => bd (t ρ s) fun k s1 => if k = true then f ρ s1 else g ρ s1
theorem m_one {op} {f : FE} (h : PE X a (tF X.K f)) : PE X (.BoolOp op [a] pos) (tF X.K f) := pe_one h
theorem m_and {f g : FE} {rest : List Expr} (ha : PE X a (tF X.K f)) (hb : PE X (.BoolOp .And (b :: rest) pos) (tF X.K g)) : PE X (.BoolOp .And (a :: b :: rest) pos) (tF X.K (eAnd f g)) :=
  (pe_andT ha hb).imp fun σ H Q ⟨m, ρ, s, er, sr, w, s', e, q⟩ => by
    obtain ⟨x, s1, e1, e⟩ := bd_inv e
    refine ⟨m, ρ, s, er, sr, x, s1, e1, fun m1 H1 v A1 S1 r1 => ?_⟩
    cases et : truW x s1 with
    | none => simp only [et] at e; cases e
    | some k =>
      refine ⟨k, tru_of S1 r1 et, ?_⟩
      cases k with
      | true =>
        simp only [et, if_true] at e
        rw [if_pos rfl]
        exact ⟨m1, ρ, s1, er.adv A1, S1, w, s', e, fun m2 H2 v A2 => q m2 H2 v (A1.trans A2)⟩
      | false =>
        simp only [et, Bool.false_eq_true, if_false] at e
        rw [if_neg Bool.false_ne_true]
        cases e
        exact q m1 H1 v A1 S1 r1
theorem m_or {f g : FE} {rest : List Expr} (ha : PE X a (tF X.K f)) (hb : PE X (.BoolOp .Or (b :: rest) pos) (tF X.K g)) : PE X (.BoolOp .Or (a :: b :: rest) pos) (tF X.K (eOr f g)) :=
  (pe_orT ha hb).imp fun σ H Q ⟨m, ρ, s, er, sr, w, s', e, q⟩ => by
    obtain ⟨x, s1, e1, e⟩ := bd_inv e
    refine ⟨m, ρ, s, er, sr, x, s1, e1, fun m1 H1 v A1 S1 r1 => ?_⟩
    cases et : truW x s1 with
    | none => simp only [et] at e; cases e
    | some k =>
      refine ⟨k, tru_of S1 r1 et, ?_⟩
      cases k with
      | false =>
        simp only [et, Bool.false_eq_true, if_false] at e
        rw [if_neg Bool.false_ne_true]
        exact ⟨m1, ρ, s1, er.adv A1, S1, w, s', e, fun m2 H2 v A2 => q m2 H2 v (A1.trans A2)⟩
      | true =>
        simp only [et, if_true] at e
        rw [if_pos rfl]
        cases e
        exact q m1 H1 v A1 S1 r1
theorem m_not {f : FE} (ha : PE X a (tF X.K f)) : PE X (.UnaryOp .Not a pos) (tF X.K (eNot f)) :=
  (pe_notT ha).imp fun σ H Q ⟨m, ρ, s, er, sr, w, s', e, q⟩ => by
    obtain ⟨x, s1, e1, e⟩ := bd_inv e
    refine ⟨m, ρ, s, er, sr, x, s1, e1, fun m1 H1 v A1 S1 r1 => ?_⟩
    cases et : truW x s1 with
    | none => simp only [et] at e; cases e
    | some k =>
      simp only [et] at e
      cases e
      exact ⟨k, tru_of S1 r1 et, q m1 H1 _ A1 S1 (.bl _)⟩
theorem m_if {t : FT} {f g : FE} (hc : PT X c (tT X.K t)) (ha : PE X a (tF X.K f)) (hb : PE X b (tF X.K g)) : PE X (.IfExp c a b pos) (tF X.K (eIf t f g)) :=
  (pe_ifExp hc ha hb).imp fun σ H Q ⟨m, ρ, s, er, sr, w, s', e, q⟩ => by
    obtain ⟨k, s1, e1, e⟩ := bd_inv e
    refine ⟨m, ρ, s, er, sr, k, s1, e1, fun m1 H1 A1 S1 => ?_⟩
    cases k with
    | true =>
      rw [if_pos rfl] at e ⊢
      exact ⟨m1, ρ, s1, er.adv A1, S1, w, s', e, fun m2 H2 v A2 => q m2 H2 v (A1.trans A2)⟩
    | false =>
      rw [if_neg Bool.false_ne_true] at e ⊢
      exact ⟨m1, ρ, s1, er.adv A1, S1, w, s', e, fun m2 H2 v A2 => q m2 H2 v (A1.trans A2)⟩
/-! ### displays -/
def eTup (f : FA) : FE := fun ρ s => bd (f ρ s) fun ws s1 => if ws.length ≤ 100000 then some (.tup ws, s1) else none
def eLst (f : FA) : FE := fun ρ s => bd (f ρ s) fun ws s1 => if ws.length ≤ 100000 then some (.ref s1.length, s1 ++ [.lst ws]) else none
theorem szl {n : Nat} (h : n ≤ 100000) : n ≤ sizeLine := Nat.le_trans h (by decide)
theorem szt {n : Nat} (h : n ≤ 100000) : n < sizeLine := Nat.lt_of_le_of_lt h (by decide)
/-- a new tuple has come -/
theorem new_tup {K : PySem.W.Frag} {m : List Addr} {H : Hp} {s : Sto} {ws : List W} {vs : List V} {p : Addr} {Q : VK} (S : SR K m H s) (r : RL K m H ws vs) (hp : H p = none) (q : ∀ m' H' v, Adv m H m' H' → SR K m' H' s → R K m' H' (.tup ws) v → Q v H') : Q (.ref p) (upd H p (.tup vs)) :=
  q m _ _ (Adv.fresh hp) (S.fresh hp) (.tup (.inl upd_same) (r.adv (Adv.fresh hp)))
/-- a new list has come -/
theorem new_lst {K : PySem.W.Frag} {m : List Addr} {H : Hp} {s : Sto} {ws : List W} {vs : List V} {p : Addr} {Q : VK} (S : SR K m H s) (r : RL K m H ws vs) (hp : H p = none) (q : ∀ m' H' v, Adv m H m' H' → SR K m' H' (s ++ [.lst ws]) → R K m' H' (.ref s.length) v → Q v H') : Q (.ref p) (upd H p (.lst vs)) :=
  q (m ++ [p]) _ _ (Adv.alloc hp) (S.alloc hp ⟨vs, upd_same, r.adv (Adv.alloc hp)⟩) (alloc_at S)
theorem m_tup {f : FA} {x1} (h : PA X es (tA X.K f)) : PE X (.Tuple es x1 pos) (tF X.K (eTup f)) :=
  (pe_tup h).imp fun σ H Q ⟨m, ρ, s, er, sr, w, s', e, q⟩ => by
    obtain ⟨ws, s1, e1, e⟩ := bd_inv e
    refine ⟨m, ρ, s, er, sr, ws, s1, e1, fun m1 H1 vs A1 S1 r1 => ?_⟩
    split at e
    · rename_i hl
      cases e
      exact ⟨szl (by rw [r1.len]; exact hl), fun p hp => new_tup S1 r1 hp fun m2 H2 v A2 => q m2 H2 v (A1.trans A2)⟩
    · cases e
theorem m_lst {f : FA} (h : PA X es (tA X.K f)) : PE X (.List es pos) (tF X.K (eLst f)) :=
  (pe_lst h).imp fun σ H Q ⟨m, ρ, s, er, sr, w, s', e, q⟩ => by
    obtain ⟨ws, s1, e1, e⟩ := bd_inv e
    refine ⟨m, ρ, s, er, sr, ws, s1, e1, fun m1 H1 vs A1 S1 r1 => ?_⟩
    split at e
    · rename_i hl
      cases e
      exact ⟨szl (by rw [r1.len]; exact hl), fun p hp => new_lst S1 r1 hp fun m2 H2 v A2 => q m2 H2 v (A1.trans A2)⟩
    · cases e
def eDnew : FE := fun _ s => some (.ref s.length, s ++ [.dct []])
theorem m_dnew : PE X (.Dict [] [] pos) (tF X.K eDnew) :=
  pe_dnewK.imp fun σ H Q ⟨m, ρ, s, er, sr, w, s', e, q⟩ => by
    cases e
    exact fun p hp => q (m ++ [p]) _ _ (Adv.alloc hp) (sr.alloc hp ⟨[], upd_same, .nil⟩) (alloc_at sr)
/-! ### slices -/
def pNo : FP := fun _ s => some (none, s)
def pAt (f : FE) : FP := fun ρ s => bd (f ρ s) fun x s1 => match x with
  | .int i => some (some i, s1)
  | _ => none
theorem mp_none : PO X none (tP X.K pNo) := po_none.imp fun σ H Q ⟨m, ρ, s, er, sr, w, s', e, q⟩ => by
  cases e
  exact q m H (Adv.refl m H) sr
theorem mp_some {f : FE} (h : PE X e (tF X.K f)) : PO X (some e) (tP X.K (pAt f)) := (po_some h).imp fun σ H Q ⟨m, ρ, s, er, sr, w, s', e, q⟩ => by
  obtain ⟨x, s1, e1, e⟩ := bd_inv e
  refine ⟨m, ρ, s, er, sr, x, s1, e1, fun m1 H1 v A1 S1 r1 => ?_⟩
  cases r1 with
  | int i => cases e; exact ⟨i, rfl, q m1 H1 A1 S1⟩
  | _ => cases e
def eSl (g : W → Option Int → Option Int → Sto → Rz W) (f : FE) (lo hi : FP) : FE := fun ρ s => bd (f ρ s) fun x s1 => bd (lo ρ s1) fun l s2 => bd (hi ρ s2) fun u s3 => g x l u s3
theorem m_slice {r : V → Option Int → Option Int → Hp → VK → Prop} {g : W → Option Int → Option Int → Sto → Rz W} {f : FE} {l u : FP} {lo hi : Option Expr} {p2 : Pos} (hr : SlR X r) (hg : SlF X.K r g) (he : PE X e (tF X.K f)) (hl : PO X lo (tP X.K l)) (hu : PO X hi (tP X.K u)) : PE X (.Subscript e (.Slice lo hi none p2) pos) (tF X.K (eSl g f l u)) :=
  (pe_slice hr he hl hu).imp fun σ H Q ⟨m, ρ, s, er, sr, w, s', e, q⟩ => by
    obtain ⟨x, s1, e1, e⟩ := bd_inv e
    obtain ⟨y, s2, e2, e⟩ := bd_inv e
    obtain ⟨z, s3, e3, e⟩ := bd_inv e
    exact ⟨m, ρ, s, er, sr, x, s1, e1, fun m1 H1 v A1 S1 r1 => ⟨m1, ρ, s1, er.adv A1, S1, y, s2, e2, fun m2 H2 A2 S2 => ⟨m2, ρ, s2, (er.adv A1).adv A2, S2, z, s3, e3, fun m3 H3 A3 S3 =>
      hg m3 H3 s3 x v y z Q S3 ((r1.adv A2).adv A3) ⟨w, s', e, fun m4 H4 v4 A4 => q m4 H4 v4 (((A1.trans A2).trans A3).trans A4)⟩⟩⟩⟩
end
end Mir

set_option Elab.async false
set_option linter.all false
set_option maxRecDepth 100000
namespace Mir
open PySem PySem.Spec PyProof.Rows L2
/-! ### targets: names, tuples of such -/
inductive Tg where
  | name (i : Nat)
  | tup (ts : List Tg)
mutual
def tgT (K : PySem.W.Frag) : Tg → TG
  | .name i => gName i
  | .tup ts => gTup K ts.length (tgTs K ts)
def tgTs (K : PySem.W.Frag) : List Tg → TGs
  | [] => gNil
  | t :: ts => gCons (tgT K t) (tgTs K ts)
end
mutual
def tgM : Tg → W → EnvM → Option EnvM
  | .name i, w, ρ => some (ρ.set i (some w))
  | .tup ts, .tup ws, ρ => tgMs ts ws ρ
  | .tup _, _, _ => none
def tgMs : List Tg → List W → EnvM → Option EnvM
  | [], [], ρ => some ρ
  | t :: ts, w :: ws, ρ => match tgM t w ρ with
    | some ρ' => tgMs ts ws ρ'
    | none => none
  | _, _, _ => none
end
mutual
def Tg.names : Tg → List Nat
  | .name i => [i]
  | .tup ts => Tg.namesL ts
def Tg.namesL : List Tg → List Nat
  | [] => []
  | t :: ts => t.names ++ Tg.namesL ts
end
/-- a slot that is wiped anyway -/
theorem wipe_set {σ : L2.St} {i : Nat} {x : Option V} : ∀ {vs : List Nat}, i ∈ vs → wipe (σ.set i x) vs = wipe σ vs := by
  intro vs
  induction vs with
  | nil => intro h; cases h
  | cons v vs ih =>
    intro h
    have comm : ∀ (vs : List Nat) (τ : L2.St), i ∉ vs → wipe (τ.set i x) vs = (wipe τ vs).set i x := by
      intro vs
      induction vs with
      | nil => intros; rfl
      | cons w ws ih2 =>
        intro τ h
        rw [List.mem_cons, not_or] at h
        show (wipe (τ.set i x) ws).set w none = ((wipe τ ws).set w none).set i x
        rw [ih2 τ h.2, List.set_comm _ _ h.1]
    show (wipe (σ.set i x) vs).set v none = (wipe σ vs).set v none
    by_cases hi : i ∈ vs
    · rw [ih hi]
    · rw [comm vs σ hi]
      have e : i = v := (List.mem_cons.mp h).resolve_right hi
      subst e
      rw [List.set_set]
section
variable {K : PySem.W.Frag} {m : List Addr} {H : Hp}
mutual
theorem tg_ok : ∀ (t : Tg) {w : W} {v : V} {ρ ρ' : EnvM} {σ : L2.St} {Q : L2.St → Hp → Prop}, ER K m H ρ σ → R K m H w v → tgM t w ρ = some ρ' →
    (∀ σ', ER K m H ρ' σ' → (∀ vs, (∀ i ∈ t.names, i ∈ vs) → wipe σ' vs = wipe σ vs) → Q σ' H) → tgT K t v σ H Q
  | .name i, w, v, ρ, ρ', σ, Q, er, r, e, q => by
    rw [tgM] at e
    cases e
    rw [tgT]
    exact q _ (er.set i r) fun vs h => wipe_set (h i (by rw [Tg.names]; exact List.mem_cons_self))
  | .tup ts, w, v, ρ, ρ', σ, Q, er, r, e, q => by
    rw [tgT]
    cases r with
    | tup h1 h2 =>
      rw [tgM] at e
      refine ⟨_, _, rfl, h1.sq, ?_, ?_⟩
      · exact (h2.len).trans (tgMs_len ts e).symm
      · exact tgs_ok ts er h2 e fun σ' er' h => q σ' er' fun vs hv => h vs (by rw [Tg.names] at hv; exact hv)
    | _ => simp only [tgM] at e <;> cases e
theorem tgs_ok : ∀ (ts : List Tg) {ws : List W} {vs : List V} {ρ ρ' : EnvM} {σ : L2.St} {Q : L2.St → Hp → Prop}, ER K m H ρ σ → RL K m H ws vs → tgMs ts ws ρ = some ρ' →
    (∀ σ', ER K m H ρ' σ' → (∀ vs, (∀ i ∈ Tg.namesL ts, i ∈ vs) → wipe σ' vs = wipe σ vs) → Q σ' H) → tgTs K ts vs σ H Q
  | [], ws, vs, ρ, ρ', σ, Q, er, r, e, q => by
    cases r with
    | nil =>
      rw [tgMs] at e
      cases e
      rw [tgTs]
      exact ⟨rfl, q _ er fun _ _ => rfl⟩
    | cons _ _ => simp only [tgMs] at e; cases e
  | t :: ts, ws, vs, ρ, ρ', σ, Q, er, r, e, q => by
    cases r with
    | nil => simp only [tgMs] at e; cases e
    | cons r1 r2 =>
      rw [tgMs] at e
      cases h1 : tgM t _ ρ with
      | none => rw [h1] at e; cases e
      | some ρ1 =>
        rw [h1] at e
        rw [tgTs]
        refine ⟨_, _, rfl, tg_ok t er r1 h1 fun σ1 er1 w1 => tgs_ok ts er1 r2 e fun σ2 er2 w2 => q σ2 er2 fun vs hv => ?_⟩
        rw [Tg.namesL] at hv
        rw [w2 vs fun i hi => hv i (List.mem_append_right _ hi), w1 vs fun i hi => hv i (List.mem_append_left _ hi)]
theorem tgMs_len : ∀ (ts : List Tg) {ws : List W} {ρ ρ' : EnvM}, tgMs ts ws ρ = some ρ' → ts.length = ws.length
  | [], [], _, _, _ => rfl
  | [], _ :: _, _, _, e => by simp only [tgMs] at e; cases e
  | _ :: _, [], _, _, e => by simp only [tgMs] at e; cases e
  | t :: ts, w :: ws, ρ, ρ', e => by
    rw [tgMs] at e
    cases h1 : tgM t w ρ with
    | none => rw [h1] at e; cases e
    | some ρ1 =>
      rw [h1] at e
      rw [List.length_cons, List.length_cons, tgMs_len ts e]
end
end
section
variable {X : Cx} {e a b c : Expr} {es : List Expr} {pos : Pos} {st : Stmt} {rest : List Stmt}
/-! ### statements -/
def sNil : FS := fun ρ s => some (.nx ρ, s)
def sCons (f g : FS) : FS := fun ρ s => bd (f ρ s) fun o s1 => match o with
  | .nx ρ1 => g ρ1 s1
  | o => some (o, s1)
def sSet (i : Nat) (f : FE) : FS := fun ρ s => bd (f ρ s) fun w s1 => some (.nx (ρ.set i (some w)), s1)
def sAsg (t : Tg) (f : FE) : FS := fun ρ s => bd (f ρ s) fun w s1 => match tgM t w ρ with
  | some ρ1 => some (.nx ρ1, s1)
  | none => none
def sDo (f : FE) : FS := fun ρ s => bd (f ρ s) fun _ s1 => some (.nx ρ, s1)
def sRet (f : FE) : FS := fun ρ s => bd (f ρ s) fun w s1 => some (.rt w, s1)
def sRetN : FS := fun _ s => some (.rt .non, s)
def sIf (t : FT) (f g : FS) : FS := fun ρ s => bd (t ρ s) fun k s1 => if k = true then f ρ s1 else g ρ s1
def sBrk : FS := fun ρ s => some (.bk ρ, s)
def sCnt : FS := fun ρ s => some (.ct ρ, s)
theorem ms_pass : PS X (.Pass pos) (tS X.K sNil) := ps_pass.imp fun D σ H ⟨m, ρ, s, er, sr, o, s', e, q⟩ => by cases e; exact q m H σ (Adv.refl m H) sr er
theorem ms_brk : PS X (.Break pos) (tS X.K sBrk) := ps_break.imp fun D σ H ⟨m, ρ, s, er, sr, o, s', e, q⟩ => by cases e; exact q m H σ (Adv.refl m H) sr er
theorem ms_cnt : PS X (.Continue pos) (tS X.K sCnt) := ps_continue.imp fun D σ H ⟨m, ρ, s, er, sr, o, s', e, q⟩ => by cases e; exact q m H σ (Adv.refl m H) sr er
theorem mss_nil : PSs X [] (tS X.K sNil) := pss_nil.imp fun D σ H ⟨m, ρ, s, er, sr, o, s', e, q⟩ => by cases e; exact q m H σ (Adv.refl m H) sr er
theorem mss_one {f : FS} (h : PS X st (tS X.K f)) : PSs X [st] (tS X.K f) := pss_one h
theorem mss_cons {f g : FS} (h1 : PS X st (tS X.K f)) (h2 : PSs X rest (tS X.K g)) : PSs X (st :: rest) (tS X.K (sCons f g)) :=
  (pss_cons h1 h2).imp fun D σ H ⟨m, ρ, s, er, sr, o, s', e, q⟩ => by
    obtain ⟨o1, s1, e1, e⟩ := bd_inv e
    refine ⟨m, ρ, s, er, sr, o1, s1, e1, ?_⟩
    cases o1 with
    | nx ρ1 => exact fun m1 H1 σ1 A1 S1 er1 => ⟨m1, ρ1, s1, er1, S1, o, s', e, q.adv A1⟩
    | rt w => cases e; exact q
    | bk ρ1 => cases e; exact q
    | ct ρ1 => cases e; exact q
theorem ms_set {i : Nat} {x : Str} {pos' : Pos} {f : FE} (hN : X.N.Nodup) (hi : X.N[i]? = some x) (hx : Loc X.env.scope x) (he : PE X e (tF X.K f)) (hs : swapsWith e (some (.Name x pos')) pos.line X.env = pure false := by rfl) (hf : X.fn x = true ∨ X.env.scope.names.lookup x = some .local := by first | exact .inl rfl | exact .inr rfl | assumption) :
    PS X (.Assign [.Name x pos'] e pos) (tS X.K (sSet i f)) :=
  (ps_set hN hi hx he hs hf).imp fun D σ H ⟨m, ρ, s, er, sr, o, s', e, q⟩ => by
    obtain ⟨w, s1, e1, e⟩ := bd_inv e
    cases e
    exact ⟨m, ρ, s, er, sr, w, _, e1, fun m1 H1 v A1 S1 r1 => q m1 H1 _ A1 S1 ((er.adv A1).set i r1)⟩
theorem ms_asg {tg : Expr} {t : Tg} {f : FE} (he : PE X e (tF X.K f)) (hg : PG X tg (tgT X.K t)) (hs : swapsWithSole [tg] e pos.line X.env = pure false := by rfl) (hw : swappedStores [tg] e X.env = pure none := by rfl)
    (h1 : (assignEach [tg] X.env).map (·.2) = [assign tg X.env] := by rfl) : PS X (.Assign [tg] e pos) (tS X.K (sAsg t f)) :=
  (ps_asg he hg hs hw h1).imp fun D σ H ⟨m, ρ, s, er, sr, o, s', e, q⟩ => by
    obtain ⟨w, s1, e1, e⟩ := bd_inv e
    cases et : tgM t w ρ with
    | none => simp only [et] at e; cases e
    | some ρ1 =>
      simp only [et] at e
      cases e
      exact ⟨m, ρ, s, er, sr, w, _, e1, fun m1 H1 v A1 S1 r1 => tg_ok t (er.adv A1) r1 et fun σ' er' _ => q m1 H1 σ' A1 S1 er'⟩
theorem ms_expr {f : FE} (he : PE X e (tF X.K f)) (hs : swapsWith e none pos.line X.env = pure false := by rfl) : PS X (.Expr e pos) (tS X.K (sDo f)) :=
  (ps_expr he hs).imp fun D σ H ⟨m, ρ, s, er, sr, o, s', e, q⟩ => by
    obtain ⟨w, s1, e1, e⟩ := bd_inv e
    cases e
    exact ⟨m, ρ, s, er, sr, w, _, e1, fun m1 H1 v A1 S1 r1 => q m1 H1 _ A1 S1 (er.adv A1)⟩
theorem ms_ret {f : FE} (he : PE X e (tF X.K f)) : PS X (.Return (some e) pos) (tS X.K (sRet f)) :=
  (ps_ret he).imp fun D σ H ⟨m, ρ, s, er, sr, o, s', e, q⟩ => by
    obtain ⟨w, s1, e1, e⟩ := bd_inv e
    cases e
    exact ⟨m, ρ, s, er, sr, w, _, e1, fun m1 H1 v A1 S1 r1 => q m1 H1 _ A1 S1 r1⟩
theorem ms_retN : PS X (.Return none pos) (tS X.K sRetN) := ps_retN.imp fun D σ H ⟨m, ρ, s, er, sr, o, s', e, q⟩ => by cases e; exact q m H _ (Adv.refl m H) sr .non
theorem ms_if {t : FT} {f g : FS} {as bs : List Stmt} (hc : PT X c (tT X.K t)) (ha : PSs X as (tS X.K f)) (hb : PSs X bs (tS X.K g)) : PS X (.If c as bs pos) (tS X.K (sIf t f g)) :=
  (ps_if hc ha hb).imp fun D σ H ⟨m, ρ, s, er, sr, o, s', e, q⟩ => by
    obtain ⟨k, s1, e1, e⟩ := bd_inv e
    refine ⟨m, ρ, s, er, sr, k, s1, e1, fun m1 H1 A1 S1 => ?_⟩
    cases k with
    | true =>
      rw [if_pos rfl] at e ⊢
      exact ⟨m1, ρ, s1, er.adv A1, S1, o, s', e, q.adv A1⟩
    | false =>
      rw [if_neg Bool.false_ne_true] at e ⊢
      exact ⟨m1, ρ, s1, er.adv A1, S1, o, s', e, q.adv A1⟩
/-- xs[i] = e -/
def setAt (o i w : W) (s : Sto) : Option Sto := match o, i with
  | .ref n, .int k => match s[n]? with
    | some (.lst ws) => match ixN ws.length k with
      | some j => some (s.set n (.lst (ws.set j w)))
      | none => none
    | _ => none
  | _, _ => none
def sPut (o i f : FE) : FS := fun ρ s => bd (f ρ s) fun w s1 => bd (o ρ s1) fun x s2 => bd (i ρ s2) fun y s3 => match setAt x y w s3 with
  | some s4 => some (.nx ρ, s4)
  | none => none
theorem ms_put {o i : Expr} {tpos : Pos} {fo fi f : FE} (he : PE X e (tF X.K f)) (ho : PE X o (tF X.K fo)) (hi : PE X i (tF X.K fi))
    (ha : ∀ v, assign (.Subscript o i tpos) X.env v = (do
      let ov ← holding [v] (eval o X.env)
      let iv ← holding [v, ov] (eval i X.env)
      standAt tpos
      holding [v, ov, iv] (setItem ov iv v)
      release [v, ov, iv] []) := by intro _; rfl)
    (hs : swapsWithSole [.Subscript o i tpos] e pos.line X.env = pure false := by rfl) (hw : swappedStores [.Subscript o i tpos] e X.env = pure none := by rfl)
    (h1 : (assignEach [.Subscript o i tpos] X.env).map (·.2) = [assign (.Subscript o i tpos) X.env] := by rfl) : PS X (.Assign [.Subscript o i tpos] e pos) (tS X.K (sPut fo fi f)) :=
  (ps_asg he (pg_sub ho hi set_list ha) hs hw h1).imp fun D σ H ⟨m, ρ, s, er, sr, oo, s', e, q⟩ => by
    obtain ⟨w, s1, e1, e⟩ := bd_inv e
    obtain ⟨x, s2, e2, e⟩ := bd_inv e
    obtain ⟨y, s3, e3, e⟩ := bd_inv e
    refine ⟨m, ρ, s, er, sr, w, s1, e1, fun m1 H1 v A1 S1 r1 => ⟨m1, ρ, s1, er.adv A1, S1, x, s2, e2, fun m2 H2 u A2 S2 r2 => ⟨m2, ρ, s2, (er.adv A1).adv A2, S2, y, s3, e3, fun m3 H3 z A3 S3 r3 => ?_⟩⟩⟩
    have r2' := r2.adv A3
    have r1' := (r1.adv A2).adv A3
    cases es : setAt x y w s3 with
    | none => simp only [es] at e; cases e
    | some s4 =>
      simp only [es] at e
      cases e
      cases r2' with
      | @ref n a hn =>
        cases r3 with
        | int k =>
          simp only [setAt] at es
          cases eo : s3[n]? with
          | none => simp only [eo] at es; cases es
          | some ob =>
            cases ob with
            | dct _ => simp only [eo] at es; cases es
            | lst ws =>
              simp only [eo] at es
              cases ek : ixN ws.length k with
              | none => simp only [ek] at es; cases es
              | some j =>
                simp only [ek] at es
                cases es
                obtain ⟨a', h2, vs, h3, h4⟩ := S3.at eo
                rw [hn] at h2
                cases h2
                refine ⟨a, vs, k, j, rfl, rfl, h3, by rw [h4.len]; exact ek, ?_⟩
                have A4 : Adv m3 H3 m3 (upd H3 a (.lst (vs.set j v))) := Adv.write S3 hn
                exact q m3 _ σ (((A1.trans A2).trans A3).trans A4) (S3.write hn ⟨_, upd_same, (h4.adv A4).set j (r1'.adv A4)⟩) ((((er.adv A1).adv A2).adv A3).adv A4)
        | _ => simp only [setAt] at es <;> cases es
      | _ => simp only [setAt] at es <;> cases es
/-- x op= e of a local -/
def sAug (i : Nat) (g : W → W → Sto → Rz W) (f : FE) : FS := fun ρ s => match ρ[i]? with
  | some (some x) => bd (f ρ s) fun y s1 => bd (g x y s1) fun z s2 => some (.nx (ρ.set i (some z)), s2)
  | _ => none
theorem ms_aug {i : Nat} {x : Str} {op : Operator} {ti : TIp} {pos' : Pos} {g : W → W → Sto → Rz W} {f : FE} (hN : X.N.Nodup) (hi : X.N[i]? = some x) (hx : Loc X.env.scope x) (he : PE X e (tF X.K f)) (ho : PIp X op ti) (hg : OpF X.K ti g) (hf : X.fn x = true ∨ X.env.scope.names.lookup x = some .local := by first | exact .inl rfl | exact .inr rfl | assumption) :
    PS X (.AugAssign (.Name x pos') op e pos) (tS X.K (sAug i g f)) :=
  (ps_aug hN hi hx he ho hf).imp fun D σ H ⟨m, ρ, s, er, sr, o, s', e, q⟩ => by
    cases hx : ρ[i]? with
    | none => simp only [sAug, hx] at e; cases e
    | some ox =>
      cases ox with
      | none => simp only [sAug, hx] at e; cases e
      | some x =>
        simp only [sAug, hx] at e
        obtain ⟨y, s1, e1, e⟩ := bd_inv e
        obtain ⟨z, s2, e2, e⟩ := bd_inv e
        cases e
        obtain ⟨v, hv, r⟩ := er.get hx
        exact ⟨v, hv, m, ρ, s, er, sr, y, s1, e1, fun m1 H1 u A1 S1 r1 => hg m1 H1 s1 x y v u _ S1 (r.adv A1) r1 ⟨z, _, e2, fun m2 H2 zv A2 S2 r2 => q m2 H2 _ (A1.trans A2) S2 (((er.adv A1).adv A2).set i r2)⟩⟩
/-! ### while -/
def wh (t : FT) (b : FS) : Nat → FS
  | 0, _, _ => none
  | n + 1, ρ, s => bd (t ρ s) fun k s1 => if k = true then bd (b ρ s1) fun o s2 => match o with
      | .nx ρ' => wh t b n ρ' s2
      | .ct ρ' => wh t b n ρ' s2
      | .bk ρ' => some (.nx ρ', s2)
      | .rt w => some (.rt w, s2)
    else some (.nx ρ, s1)
def sWh (n : EnvM → Sto → Nat) (t : FT) (b : FS) : FS := fun ρ s => wh t b (n ρ s) ρ s
theorem ms_while {n : EnvM → Sto → Nat} {t : FT} {b : FS} {body : List Stmt} (hp : PassesOwn (model X.prog X.w) X.A X.env X.xe) (hc : PT X c (tT X.K t)) (hb : PSs X body (tS X.K b)) : PS X (.While c body [] pos) (tS X.K (sWh n t b)) :=
  (ps_while hp hc hb).imp fun D σ H ⟨m, ρ, s, er, sr, o, s', e, q⟩ => by
    refine ⟨fun μ σ1 H1 => ∃ m1 ρ1 s1, Adv m H m1 H1 ∧ ER X.K m1 H1 ρ1 σ1 ∧ SR X.K m1 H1 s1 ∧ wh t b μ ρ1 s1 = some (o, s'), ⟨n ρ s, m, ρ, s, Adv.refl m H, er, sr, e⟩, ?_⟩
    rintro μ σ1 H1 ⟨m1, ρ1, s1, A1, er1, S1, e1⟩
    cases μ with
    | zero => cases e1
    | succ μ =>
      rw [wh] at e1
      obtain ⟨k, s2, e2, e1⟩ := bd_inv e1
      refine ⟨m1, ρ1, s1, er1, S1, k, s2, e2, fun m2 H2 A2 S2 => ?_⟩
      cases k with
      | false =>
        rw [if_neg Bool.false_ne_true] at e1 ⊢
        cases e1
        exact q m2 H2 σ1 (A1.trans A2) S2 (er1.adv A2)
      | true =>
        rw [if_pos rfl] at e1 ⊢
        obtain ⟨o3, s3, e3, e1⟩ := bd_inv e1
        refine ⟨fun σ' H' => ∃ m', m' < μ + 1 ∧ ∃ m1 ρ1 s1, Adv m H m1 H' ∧ ER X.K m1 H' ρ1 σ' ∧ SR X.K m1 H' s1 ∧ wh t b m' ρ1 s1 = some (o, s'), fun _ _ h => h, m2, ρ1, s2, er1.adv A2, S2, o3, s3, e3, ?_⟩
        cases o3 with
        | nx ρ3 => exact fun m3 H3 σ3 A3 S3 er3 => ⟨μ, Nat.lt_succ_self μ, m3, ρ3, s3, (A1.trans A2).trans A3, er3, S3, e1⟩
        | ct ρ3 => exact fun m3 H3 σ3 A3 S3 er3 => ⟨μ, Nat.lt_succ_self μ, m3, ρ3, s3, (A1.trans A2).trans A3, er3, S3, e1⟩
        | bk ρ3 => cases e1; exact fun m3 H3 σ3 A3 S3 er3 => q m3 H3 σ3 ((A1.trans A2).trans A3) S3 er3
        | rt w => cases e1; exact fun m3 H3 v A3 S3 r3 => q m3 H3 v ((A1.trans A2).trans A3) S3 r3
/-! ### what is walked -/
def okc (c : Option (Nat × List W)) (s : Sto) : Prop := match c with
  | none => True
  | some (n, ws) => s[n]? = some (.lst ws)
structure ItOk (K : PySem.W.Frag) (J : It) (m0 : List Addr) (H0 : Hp) (xs : List W) (c : Option (Nat × List W)) : Prop where
  go : ∀ m H s i x, Adv m0 H0 m H → SR K m H s → okc c s → xs[i]? = some x → J.go i H ∧ ∀ v H', J.yld i H v H' → ∃ m', Adv m H m' H' ∧ SR K m' H' s ∧ R K m' H' x v
  stop : ∀ m H s, Adv m0 H0 m H → SR K m H s → okc c s → J.stop xs.length H
abbrev FI := EnvM → Sto → Rz (List W × Option (Nat × List W))
def tI (K : PySem.W.Frag) (f : FI) : TI := fun σ H Q => ∃ m ρ s, ER K m H ρ σ ∧ SR K m H s ∧ ∃ xs c s', f ρ s = some ((xs, c), s') ∧ ∀ m' H' J, Adv m H m' H' → SR K m' H' s' → ItOk K J m' H' xs c → Q J H'
theorem _root_.L2.PI.imp {tg iter : Expr} {t t' : TI} (h : PI X tg iter t) (q : ∀ σ H Q, t' σ H Q → t σ H Q) : PI X tg iter t' := ⟨fun pins s σ H Q I r => h.run pins s σ H Q I (q _ _ _ r)⟩
open Classical in
noncomputable def fo (t : Tg) (b : FS) (c : Option (Nat × List W)) : List W → FS
  | [], ρ, s => if okc c s then some (.nx ρ, s) else none
  | x :: r, ρ, s => if okc c s then match tgM t x ρ with
      | some ρ1 => bd (b ρ1 s) fun o s2 => match o with
        | .nx ρ' => fo t b c r ρ' s2
        | .ct ρ' => fo t b c r ρ' s2
        | .bk ρ' => some (.nx ρ', s2)
        | .rt w => some (.rt w, s2)
      | none => none
    else none
noncomputable def sFor (it : FI) (t : Tg) (b : FS) : FS := fun ρ s => bd (it ρ s) fun x s1 => fo t b x.2 x.1 ρ s1
theorem ms_for {it : FI} {t : Tg} {b : FS} {tg iter : Expr} {body : List Stmt} (hp : PassesOwn (model X.prog X.w) X.A X.env X.xe) (hc : X.calm = true) (hi : PI X tg iter (tI X.K it)) (hg : PG X tg (tgT X.K t)) (hb : PSs X body (tS X.K b))
    (hs : ∀ x, foldedSetIterable iter X.env x = pure x := by intro _; rfl) : PS X (.For tg iter body [] pos) (tS X.K (sFor it t b)) :=
  (ps_for hp hc hi hg hb hs).imp fun D σ H ⟨m, ρ, s, er, sr, o, s', e, q⟩ => by
    obtain ⟨⟨xs, c⟩, s1, e1, e⟩ := bd_inv e
    refine ⟨m, ρ, s, er, sr, xs, c, s1, e1, fun m1 H1 J A1 S1 ok => ?_⟩
    refine ⟨fun i μ σ2 H2 => ∃ m2 ρ2 s2, Adv m1 H1 m2 H2 ∧ ER X.K m2 H2 ρ2 σ2 ∧ SR X.K m2 H2 s2 ∧ i + μ = xs.length ∧ fo t b c (xs.drop i) ρ2 s2 = some (o, s'), ⟨xs.length, m1, ρ, s1, Adv.refl m1 H1, er.adv A1, S1, Nat.zero_add _, e⟩, ?_⟩
    rintro i μ σ2 H2 ⟨m2, ρ2, s2, A2, er2, S2, hi, e2⟩
    cases μ with
    | zero =>
      have hl : i = xs.length := by omega
      subst hl
      rw [List.drop_length, fo] at e2
      by_cases ho : okc c s2
      · rw [if_pos ho] at e2
        cases e2
        exact .inl ⟨ok.stop m2 H2 _ A2 S2 ho, q m2 H2 σ2 (A1.trans A2) S2 er2⟩
      · rw [if_neg ho] at e2
        cases e2
    | succ μ =>
      have hl : i < xs.length := by omega
      rw [List.drop_eq_getElem_cons hl, fo] at e2
      by_cases ho : okc c s2
      · rw [if_pos ho] at e2
        obtain ⟨g1, g2⟩ := ok.go m2 H2 s2 i xs[i] A2 S2 ho (List.getElem?_eq_getElem hl)
        refine .inr ⟨g1, fun σ' H' => ∃ m', m' < μ + 1 ∧ ∃ m2 ρ2 s2, Adv m1 H1 m2 H' ∧ ER X.K m2 H' ρ2 σ' ∧ SR X.K m2 H' s2 ∧ (i + 1) + m' = xs.length ∧ fo t b c (xs.drop (i + 1)) ρ2 s2 = some (o, s'), fun _ _ h => h, fun v H3 y => ?_⟩
        obtain ⟨m3, A3, S3, r3⟩ := g2 v H3 y
        cases et : tgM t xs[i] ρ2 with
        | none => simp only [et] at e2; cases e2
        | some ρ4 =>
          simp only [et] at e2
          obtain ⟨o5, s5, e5, e2⟩ := bd_inv e2
          refine tg_ok t (er2.adv A3) r3 et fun σ4 er4 _ => ⟨m3, ρ4, s2, er4, S3, o5, s5, e5, ?_⟩
          cases o5 with
          | nx ρ5 => exact fun m6 H6 σ6 A6 S6 er6 => ⟨μ, Nat.lt_succ_self μ, m6, ρ5, s5, (A2.trans A3).trans A6, er6, S6, by omega, e2⟩
          | ct ρ5 => exact fun m6 H6 σ6 A6 S6 er6 => ⟨μ, Nat.lt_succ_self μ, m6, ρ5, s5, (A2.trans A3).trans A6, er6, S6, by omega, e2⟩
          | bk ρ5 => cases e2; exact fun m6 H6 σ6 A6 S6 er6 => q m6 H6 σ6 (A1.trans ((A2.trans A3).trans A6)) S6 er6
          | rt w => cases e2; exact fun m6 H6 v A6 S6 r6 => q m6 H6 v (A1.trans ((A2.trans A3).trans A6)) S6 r6
      · rw [if_neg ho] at e2
        cases e2
/-! ### list comprehensions -/
theorem wipe_wipe (σ : L2.St) : ∀ vs : List Nat, wipe (wipe σ vs) vs = wipe σ vs
  | [] => rfl
  | v :: vs => by
    show wipe ((wipe σ vs).set v none) (v :: vs) = _
    rw [wipe_set List.mem_cons_self]
    show (wipe (wipe σ vs) vs).set v none = _
    rw [wipe_wipe σ vs]
    rfl
def wipeM (ρ : EnvM) : List Nat → EnvM
  | [] => ρ
  | v :: vs => (wipeM ρ vs).set v none
theorem ER.wipe {K : PySem.W.Frag} {m : List Addr} {H : Hp} {ρ : EnvM} {σ : L2.St} (h : ER K m H ρ σ) : ∀ vs, ER K m H (wipeM ρ vs) (L2.wipe σ vs)
  | [] => h
  | v :: vs => ER.forget v (ER.wipe h vs)
open Classical in
noncomputable def lcf (t : Tg) (u : FT) (f : FE) (c : Option (Nat × List W)) (ρ : EnvM) : List W → Sto → Rz (List W)
  | [], s => if okc c s then some ([], s) else none
  | x :: r, s => if okc c s then match tgM t x ρ with
      | some ρ1 => bd (u ρ1 s) fun k s1 => if k = true then bd (f ρ1 s1) fun w s2 => bd (lcf t u f c ρ r s2) fun ws s3 => some (w :: ws, s3) else lcf t u f c ρ r s1
      | none => none
    else none
noncomputable def eLc (vs : List Nat) (it : FI) (t : Tg) (u : FT) (f : FE) : FE := fun ρ s => bd (it ρ s) fun x s1 => if x.1.length ≤ 100000 then bd (lcf t u f x.2 (wipeM ρ vs) x.1 s1) fun ws s2 => some (.ref s2.length, s2 ++ [.lst ws]) else none
theorem tLc_of {K : PySem.W.Frag} {vs : List Nat} {it : FI} {t : Tg} {u : FT} {f : FE} (hv : ∀ i ∈ t.names, i ∈ vs) : ∀ σ H Q, tF K (eLc vs it t u f) σ H Q → tLc (tI K it) (tgT K t) (tT K u) (tF K f) vs σ H Q := by
  rintro σ H Q ⟨m, ρ, s, er, sr, w, s', e, q⟩
  obtain ⟨⟨xs, c⟩, s1, e1, e⟩ := bd_inv e
  by_cases hz : xs.length ≤ 100000
  · rw [if_pos hz] at e
    obtain ⟨ws, s2, e2, e⟩ := bd_inv e
    cases e
    refine ⟨m, ρ, s, er, sr, xs, c, s1, e1, fun m1 H1 J A1 S1 ok D hD => ?_⟩
    have hDm : D ∉ m1 := fun z => by
      obtain ⟨o, h, _⟩ := S1.there z
      rw [hD] at h; cases h
    have A2 : Adv m1 H1 m1 (upd H1 D (.lst [])) := Adv.fresh hD
    have S2 : SR K m1 (upd H1 D (.lst [])) s1 := S1.fresh hD
    -- the walk: D holds what has been made
    refine ⟨fun i μ H2 => ∃ m2 s2' acc accW rw, Adv m1 H1 m2 H2 ∧ D ∉ m2 ∧ SR K m2 H2 s2' ∧ H2 D = some (.lst acc) ∧ RL K m2 H2 accW acc ∧ i + μ = xs.length ∧ acc.length ≤ i ∧ lcf t u f c (wipeM ρ vs) (xs.drop i) s2' = some (rw, s2) ∧ accW ++ rw = ws,
      ⟨xs.length, m1, s1, [], [], ws, A2, hDm, S2, upd_same, .nil, Nat.zero_add _, Nat.le_refl _, e2, rfl⟩, ?_⟩
    rintro i μ H2 ⟨m2, s3, acc, accW, rw_, A3, hD3, S3, h3, r3, hi, hl, e3, ea⟩
    cases μ with
    | zero =>
      have hl2 : i = xs.length := by omega
      subst hl2
      rw [List.drop_length, lcf] at e3
      by_cases ho : okc c s3
      · rw [if_pos ho] at e3
        cases e3
        refine .inl ⟨ok.stop m2 H2 _ A3 S3 ho, ?_⟩
        rw [List.append_nil] at ea
        subst ea
        have A4 : Adv m1 H1 (m2 ++ [D]) H2 := by
          refine ⟨?_, A3.same, fun a h => ?_, A3.tup, A3.frz⟩
          · obtain ⟨t, rfl⟩ := A3.pre
            exact ⟨t ++ [D], by rw [List.append_assoc]⟩
          · rcases List.mem_append.mp h with h | h
            · exact A3.new a h
            · rw [List.mem_singleton.mp h]; exact .inr hD
        refine q (m2 ++ [D]) H2 (.ref D) (A1.trans A4) (S3.join hD3 ⟨acc, h3, r3⟩) (.ref ?_)
        rw [← S3.len, List.getElem?_append_right (Nat.le_refl _), Nat.sub_self]
        rfl
      · rw [if_neg ho] at e3
        cases e3
    | succ μ =>
      have hl2 : i < xs.length := by omega
      rw [List.drop_eq_getElem_cons hl2, lcf] at e3
      by_cases ho : okc c s3
      · rw [if_pos ho] at e3
        obtain ⟨g1, g2⟩ := ok.go m2 H2 s3 i xs[i] A3 S3 ho (List.getElem?_eq_getElem hl2)
        refine .inr ⟨g1, _, fun _ h => h, fun v H3 y => ?_⟩
        obtain ⟨m3, A5, S5, r5⟩ := g2 v H3 y
        have keepD : ∀ {m' H'}, Adv m2 H2 m' H' → D ∉ m' ∧ H' D = some (.lst acc) := fun {m' H'} A => by
          refine ⟨fun z => ?_, A.same D _ h3 hD3⟩
          rcases A.new D z with z | z
          · exact hD3 z
          · rw [h3] at z; cases z
        cases et : tgM t xs[i] (wipeM ρ vs) with
        | none => simp only [et] at e3; cases e3
        | some ρ4 =>
          simp only [et] at e3
          obtain ⟨k, s5, e5, e3⟩ := bd_inv e3
          have erw := ((er.adv A1).adv (A3.trans A5)).wipe vs
          refine tg_ok t erw r5 et fun σ4 er4 w4 => ⟨by rw [w4 vs hv, wipe_wipe], m3, ρ4, s3, er4, S5, k, s5, e5, fun m6 H6 A6 S6 => ?_⟩
          cases k with
          | false =>
            rw [if_neg Bool.false_ne_true] at e3 ⊢
            obtain ⟨n6, h6⟩ := keepD (A5.trans A6)
            exact ⟨μ, Nat.lt_succ_self μ, m6, s5, acc, accW, rw_, A3.trans (A5.trans A6), n6, S6, h6, r3.adv (A5.trans A6), by omega, by omega, e3, ea⟩
          | true =>
            rw [if_pos rfl] at e3 ⊢
            obtain ⟨w7, s7, e7, e3⟩ := bd_inv e3
            obtain ⟨ws8, s8, e8, e3⟩ := bd_inv e3
            cases e3
            refine ⟨m6, ρ4, s5, er4.adv A6, S6, w7, s7, e7, fun m7 H7 v7 A7 S7 r7 => ?_⟩
            have AA := A5.trans (A6.trans A7)
            obtain ⟨n7, h7⟩ := keepD AA
            have r3' := r3.adv AA
            refine ⟨acc, h7, szt (by omega), μ, Nat.lt_succ_self μ, m7, s7, acc ++ [v7], accW ++ [w7], ws8, ?_, n7, S7.off n7 h7, upd_same, (r3'.ext (Ext.off h7)).app (RL.one (r7.ext (Ext.off h7))), by omega, by rw [List.length_append, List.length_singleton]; omega, e8, by rw [List.append_assoc]; exact ea⟩
            have A8 := A3.trans AA
            refine ⟨A8.pre, fun a o h n => ?_, A8.new, fun a xs h => ?_, fun a o u h => ?_⟩
            · rw [upd_ne (ne_of_none h hD)]
              exact A8.same a o h n
            · rw [upd_ne (ne_of_none h hD)]
              exact A8.tup a xs h
            · rw [upd_ne (ne_of_none h hD)]
              exact A8.frz a o u h
      · rw [if_neg ho] at e3
        cases e3
  · rw [if_neg hz] at e
    cases e
theorem m_lc {elt tg iter : Expr} {ifs : List Expr} {scope : Scope} {own : List (Str × Nat)} {it : FI} {t : Tg} {u : FT} {f : FE} (hv : ∀ i ∈ t.names, i ∈ own.map (·.2)) (hc : X.calm = true) (hN : X.N.Nodup) (hi : PI X tg iter (tI X.K it)) (ok : BlkOk X.N X.env.scope scope own)
    (hg : ∀ (s : Shared) (H : Hp) (C : Addr) (cl : List (Str × Addr)) (fp : List Addr), PG (X.blk s H scope (compEnvC scope cl C X.env) fp) tg (tgT X.K t)) (ht : ∀ (s : Shared) (H : Hp) (C : Addr) (cl : List (Str × Addr)) (fp : List Addr), PTs (X.blk s H scope (compEnvC scope cl C X.env) fp) ifs (tT X.K u))
    (he : ∀ (s : Shared) (H : Hp) (C : Addr) (cl : List (Str × Addr)) (fp : List Addr), PE (X.blk s H scope (compEnvC scope cl C X.env) fp) elt (tF X.K f)) (hs : ∀ x, foldedSetIterable iter X.env x = pure x := by intro _; rfl) :
    PE X (.ListComp elt [⟨tg, iter, ifs, 0⟩] scope pos) (tF X.K (eLc (own.map (·.2)) it t u f)) := (pe_lc hc hN hi ok hg ht he hs).imp (tLc_of hv)
theorem ms_setLc {i : Nat} {y : Str} {py : Pos} {elt tg iter : Expr} {ifs : List Expr} {scope : Scope} {own : List (Str × Nat)} {spos : Pos} {it : FI} {t : Tg} {u : FT} {f : FE} (hv : ∀ i ∈ t.names, i ∈ own.map (·.2)) (hc : X.calm = true) (hN : X.N.Nodup) (hy : X.N[i]? = some y) (hyl : X.env.scope.names.lookup y = some .local)
    (hsw : swapsWith (.ListComp elt [⟨tg, iter, ifs, 0⟩] scope pos) (some (.Name y py)) spos.line X.env = pure true) (hi : PI X tg iter (tI X.K it)) (ok : BlkOk X.N X.env.scope scope own)
    (hg : ∀ (s : Shared) (H : Hp) (C : Addr) (cl : List (Str × Addr)) (fp : List Addr), PG (X.blk s H scope (compEnvC scope cl C X.env) fp) tg (tgT X.K t)) (ht : ∀ (s : Shared) (H : Hp) (C : Addr) (cl : List (Str × Addr)) (fp : List Addr), PTs (X.blk s H scope (compEnvC scope cl C X.env) fp) ifs (tT X.K u))
    (he : ∀ (s : Shared) (H : Hp) (C : Addr) (cl : List (Str × Addr)) (fp : List Addr), PE (X.blk s H scope (compEnvC scope cl C X.env) fp) elt (tF X.K f)) (hs : ∀ x, foldedSetIterable iter X.env x = pure x := by intro _; rfl) :
    PS X (.Assign [.Name y py] (.ListComp elt [⟨tg, iter, ifs, 0⟩] scope pos) spos) (tS X.K (sSet i (eLc (own.map (·.2)) it t u f))) :=
  (ps_setLc hc hN hy hyl hsw hi ok hg ht he hs).imp fun D σ H ⟨m, ρ, s, er, sr, o, s', e, q⟩ => by
    obtain ⟨w, s1, e1, e⟩ := bd_inv e
    cases e
    exact tLc_of hv σ H _ ⟨m, ρ, s, er, sr, w, _, e1, fun m1 H1 v A1 S1 r1 => q m1 H1 _ A1 S1 ((er.adv A1).set i r1)⟩
def bYes : FT := fun _ s => some (true, s)
theorem mts_nil : PTs X [] (tT X.K bYes) := by
  have h := pts_nil (X := X)
  cases h with
  | mk run => exact ⟨fun pins s σ H Q I ⟨m, ρ, s1, er, sr, k, s', e, q⟩ => run pins s σ H Q I (by cases e; exact q m H (Adv.refl m H) sr)⟩
theorem mts_one {c : Expr} {t : FT} (h : PT X c (tT X.K t)) : PTs X [c] (tT X.K t) := pts_one h

/-! ### defs -/
/-- the promise: what the mirror F gives -/
def spF (K : PySem.W.Frag) (n : Nat) (F : List W → Sto → Rz W) : Sp := fun vs H Q _ => vs.length = n ∧ ∃ m s ws, RL K m H ws vs ∧ SR K m H s ∧ wE K m H (F ws s) Q
def mkF (n N : Nat) (body : FS) : List W → Sto → Rz W := fun ws s => if ws.length = n then bd (body (ws.map some ++ List.replicate (N - ws.length) none) s) fun o s1 => match o with
  | .rt w => some (w, s1)
  | .nx _ => some (.non, s1)
  | _ => none
  else none
structure Own (P : Program) (w : World) (K : PySem.W.Frag) (mg : Str → Option Value) (base : Heap) (k : Nat) (x : Str) (ps : List Str) (F : List W → Sto → Rz W) : Prop where
  ex : ∃ (f : Addr) (fd : FuncData), FnOk P w K mg base CX0 k f fd ps (spF K ps.length F) ∧ Binds K fd ps [] ∧ PySem.W.keepIn K (.ref f) = true ∧ mg x = some (.ref f)
  ln : ∀ ws s r, F ws s = some r → ws.length = ps.length
theorem Own.mono {P : Program} {w : World} {K : PySem.W.Frag} {mg : Str → Option Value} {base : Heap} {j k : Nat} {x : Str} {ps : List Str} {F : List W → Sto → Rz W} (h : Own P w K mg base j x ps F) (hk : j ≤ k) : Own P w K mg base k x ps F := by
  obtain ⟨f, fd, h1, h2, h3, h4⟩ := h.ex
  exact ⟨⟨f, fd, h1.mono hk, h2, h3, h4⟩, h.ln⟩
theorem m_call {k : Nat} {x : Str} {ps : List Str} {F : List W → Sto → Rz W} {fa : FA} {p : Pos} (O : Own X.prog X.w X.K X.mg X.base k x ps F) (hr : Room k X.A) (hg : Gl X x) (ha : PA X (e :: es) (tA X.K fa)) (hdb : (x == ("__debug__" : Str)) = false := by decide) (he : starEach (e :: es) X.env = (false, eval e X.env) :: starEach es X.env := by rfl)
    (hpl : (backTo pos (starEach es X.env)).any (·.1) = false := by rfl) : PE X (.Call (.Name x p) (e :: es) [] pos) (tF X.K (eFn F fa)) := by
  obtain ⟨f, fd, h1, h2, h3, h4⟩ := O.ex
  refine (pe_call h1 hr hg h4 h3 h2 .nil pass0 ha hdb he hpl).imp fun σ H Q ⟨m, ρ, s, er, sr, w, s', e, q⟩ => ?_
  obtain ⟨ws, s1, e1, e⟩ := bd_inv e
  refine ⟨m, ρ, s, er, sr, ws, s1, e1, fun m1 H1 vs A1 S1 r1 => ?_⟩
  show spF X.K ps.length F (vs ++ []) H1 Q E0
  rw [List.append_nil]
  exact ⟨by rw [r1.len]; exact O.ln _ _ _ e, m1, s1, ws, r1, S1, w, s', e, fun m2 H2 v A2 => q m2 H2 v (A1.trans A2)⟩
theorem m_call0 {k : Nat} {x : Str} {F : List W → Sto → Rz W} {p : Pos} (O : Own X.prog X.w X.K X.mg X.base k x [] F) (hr : Room k X.A) (hg : Gl X x) (hdb : (x == ("__debug__" : Str)) = false := by decide) : PE X (.Call (.Name x p) [] [] pos) (tF X.K (eFn F aNil)) := by
  obtain ⟨f, fd, h1, h2, h3, h4⟩ := O.ex
  refine (pe_call0 h1 hr hg h4 h3 h2 .nil pass0 hdb).imp fun σ H Q ⟨m, ρ, s, er, sr, w, s', e, q⟩ => ?_
  exact ⟨rfl, m, s, [], .nil, sr, w, s', e, q⟩
end
/-- THE RULE for a def -/
theorem fnm_of {P : Program} {w : World} {K : PySem.W.Frag} {mg : Str → Option Value} {base : Heap} {x : Str} {st : Stmt} {f : Addr} {fd : FuncData} {N ps : List Str} {k : Nat} {body : FS} (F : Fun K x x st f fd) (S : FnScope N ps (defScope st))
    (h : ∀ (cdv : Value) (A : Around) (outer : List Env) (s : Shared) (H : Hp) (E : XK), Room k (A.deeper (envOfC x (defScope st) s.heap.objs.size f cdv)) → PSs (cxOf CX0 P w K mg base N x (defScope st) f cdv A outer s H E).nox (defBody st) (tS K body)) :
    FnOk P w K mg base CX0 (k + 1) f fd ps (spF K ps.length (mkF ps.length N.length body)) := by
  refine F.ok S (fun vs H Q E h => h.1) (fun cdv A outer s H vs Q E hr hq => ⟨_, h cdv A outer s H E hr, ?_⟩)
  obtain ⟨hl, m, st, ws, r, sr, w, s', e, q⟩ := hq
  unfold mkF at e
  rw [if_pos (by rw [← r.len]; exact hl)] at e
  obtain ⟨o, s1, e1, e⟩ := bd_inv e
  refine ⟨m, _, st, ?_, sr, o, s1, e1, ?_⟩
  · unfold L2.start
    rw [r.len]
    exact r.env.app (ER.nones _)
  · cases o with
    | nx ρ1 => cases e; exact fun m' H' σ' A S _ => q m' H' _ A S .non
    | rt w => cases e; exact q
    | bk ρ1 => cases e
    | ct ρ1 => cases e
theorem own_of {P : Program} {w : World} {K : PySem.W.Frag} {mg : Str → Option Value} {base : Heap} {x : Str} {st : Stmt} {f : Addr} {fd : FuncData} {N ps : List Str} {k : Nat} {body : FS} (F : Fun K x x st f fd) (S : FnScope N ps (defScope st)) (hb : Binds K fd ps []) (hm : mg x = some (.ref f))
    (h : ∀ (cdv : Value) (A : Around) (outer : List Env) (s : Shared) (H : Hp) (E : XK), Room k (A.deeper (envOfC x (defScope st) s.heap.objs.size f cdv)) → PSs (cxOf CX0 P w K mg base N x (defScope st) f cdv A outer s H E).nox (defBody st) (tS K body)) :
    Own P w K mg base (k + 1) x ps (mkF ps.length N.length body) := by
  refine ⟨⟨f, fd, fnm_of F S h, hb, F.kp, hm⟩, fun ws s r e => ?_⟩
  unfold mkF at e
  split at e
  · assumption
  · cases e
/-- no promise at all -/
theorem own_none {P : Program} {w : World} {K : PySem.W.Frag} {mg : Str → Option Value} {base : Heap} {x : Str} {f : Addr} {fd : FuncData} {ps : List Str} {k : Nat} (hb : Binds K fd ps []) (hk : PySem.W.keepIn K (.ref f) = true) (hm : mg x = some (.ref f)) : Own P w K mg base k x ps (fun _ _ => none) :=
  ⟨⟨f, fd, ⟨fun vs H Q E h => h.1, fun A outer s H args us vs Q E _ _ _ _ h => by obtain ⟨_, _, _, _, _, _, _, _, e, _⟩ := h; cases e⟩, hb, hk, hm⟩, fun _ _ _ e => by cases e⟩
end Mir

set_option Elab.async false
set_option linter.all false
set_option maxRecDepth 100000
namespace Mir
open PySem PySem.Spec PyProof.Rows L2
section
variable {K : PySem.W.Frag}
/-- a result that leaves the store -/
theorem wE.val {m : List Addr} {H : Hp} {w : W} {s : Sto} {Q : VK} (h : wE K m H (some (w, s)) Q) (S : SR K m H s) : ∀ v, R K m H w v → Q v H := by
  obtain ⟨w', s', e, q⟩ := h
  cases e
  exact fun v r => q m H v (Adv.refl m H) S r
/-! ### ints -/
def gII (f : Int → Int → W) : W → W → Sto → Rz W := fun x y s => match x, y with
  | .int i, .int j => some (f i j, s)
  | _, _ => none
def gIIc (c : Int → Int → Bool) (f : Int → Int → W) : W → W → Sto → Rz W := fun x y s => match x, y with
  | .int i, .int j => if c i j = true then some (f i j, s) else none
  | _, _ => none
theorem f_I0 {g : Int → Int → V} {f : Int → Int → W} (hf : ∀ m H i j, R K m H (f i j) (g i j)) : OpF K (rI0 g) (gII f) := by
  intro m H s x y v u Q S rx ry h
  cases rx with
  | int i =>
    cases ry with
    | int j => exact ⟨i, j, rfl, rfl, h.val S _ (hf m H i j)⟩
    | _ => obtain ⟨_, _, e, _⟩ := h; cases e
  | _ => obtain ⟨_, _, e, _⟩ := h; cases e
theorem f_I {C : Int → Int → Prop} {c : Int → Int → Bool} {g : Int → Int → V} {f : Int → Int → W} (hc : ∀ i j, c i j = true → C i j) (hf : ∀ m H i j, R K m H (f i j) (g i j)) : OpF K (rI C g) (gIIc c f) := by
  intro m H s x y v u Q S rx ry h
  cases rx with
  | int i =>
    cases ry with
    | int j =>
      by_cases q : c i j = true
      · simp only [gIIc, q, if_pos] at h
        exact ⟨i, j, rfl, rfl, hc i j q, h.val S _ (hf m H i j)⟩
      · simp only [gIIc, q, if_neg, not_false_eq_true] at h
        obtain ⟨_, _, e, _⟩ := h; cases e
    | _ => obtain ⟨_, _, e, _⟩ := h; cases e
  | _ => obtain ⟨_, _, e, _⟩ := h; cases e
abbrev gSub := gII fun i j => .int (i - j)
abbrev gLt := gII fun i j => .bl (decide (i < j))
abbrev gLe := gII fun i j => .bl (decide (i ≤ j))
abbrev gGt := gII fun i j => .bl (decide (j < i))
abbrev gGe := gII fun i j => .bl (decide (j ≤ i))
abbrev gMulI := gIIc (fun i j => decide ((-(2 ^ 64) < i ∧ i < 2 ^ 64) ∨ (-(2 ^ 64) < j ∧ j < 2 ^ 64))) fun i j => .int (i * j)
abbrev gDiv := gIIc (fun i j => decide (0 < j ∧ j < 1073741824)) fun i j => .int (i / j)
abbrev gDivW := gIIc (fun _ j => decide (0 < j ∧ j.natAbs.log2 < 9000)) fun i j => .int (i / j)
abbrev gDivN := gIIc (fun _ j => decide (j ≠ 0 ∧ j.natAbs < 1073741824)) fun i j => .int (i.fdiv j)
abbrev gMod := gIIc (fun _ j => decide (0 < j)) fun i j => .int (i % j)
abbrev gModN := gIIc (fun _ j => decide (j ≠ 0)) fun i j => .int (i.fmod j)
abbrev gPow := gIIc (fun i j => decide (0 ≤ j ∧ j ≤ 1000000 ∧ i.natAbs < 2 ^ 64)) fun i j => .int (i ^ j.toNat)
theorem f_sub : OpF K (rI0 fun i j => .int (i - j)) gSub := f_I0 fun _ _ _ _ => .int _
theorem f_lt : OpF K (rI0 fun i j => .bl (decide (i < j))) gLt := f_I0 fun _ _ _ _ => .bl _
theorem f_le : OpF K (rI0 fun i j => .bl (decide (i ≤ j))) gLe := f_I0 fun _ _ _ _ => .bl _
theorem f_gt : OpF K (rI0 fun i j => .bl (decide (j < i))) gGt := f_I0 fun _ _ _ _ => .bl _
theorem f_ge : OpF K (rI0 fun i j => .bl (decide (j ≤ i))) gGe := f_I0 fun _ _ _ _ => .bl _
theorem f_mulI : OpF K (rI CMul fun i j => .int (i * j)) gMulI := f_I (fun i j h => of_decide_eq_true (p := (-(2 ^ 64) < i ∧ i < 2 ^ 64) ∨ (-(2 ^ 64) < j ∧ j < 2 ^ 64)) h) fun _ _ _ _ => .int _
theorem f_div : OpF K (rI CDiv fun i j => .int (i / j)) gDiv := f_I (fun i j h => of_decide_eq_true (p := 0 < j ∧ j < 1073741824) h) fun _ _ _ _ => .int _
theorem f_divW : OpF K (rI CDivW fun i j => .int (i / j)) gDivW := f_I (fun i j h => of_decide_eq_true (p := 0 < j ∧ j.natAbs.log2 < 9000) h) fun _ _ _ _ => .int _
theorem f_divN : OpF K (rI CDivN fun i j => .int (i.fdiv j)) gDivN := f_I (fun i j h => of_decide_eq_true (p := j ≠ 0 ∧ j.natAbs < 1073741824) h) fun _ _ _ _ => .int _
theorem f_mod : OpF K (rI (fun _ j => 0 < j) fun i j => .int (i % j)) gMod := f_I (fun i j h => of_decide_eq_true h) fun _ _ _ _ => .int _
theorem f_modN : OpF K (rI (fun _ j => j ≠ 0) fun i j => .int (i.fmod j)) gModN := f_I (fun i j h => of_decide_eq_true h) fun _ _ _ _ => .int _
theorem f_pow : OpF K (rI CPow fun i j => .int (i ^ j.toNat)) gPow := f_I (fun i j h => of_decide_eq_true (p := 0 ≤ j ∧ j ≤ 1000000 ∧ i.natAbs < 2 ^ 64) h) fun _ _ _ _ => .int _
def gNeg : W → Sto → Rz W := fun x s => match x with
  | .int i => some (.int (-i), s)
  | _ => none
theorem f_neg : UnF K (rU fun i => .int (-i)) gNeg := by
  intro m H s x v Q S rx h
  cases rx with
  | int i => exact ⟨i, rfl, h.val S _ (.int _)⟩
  | _ => obtain ⟨_, _, e, _⟩ := h; cases e
/-! ### + of ints, texts, tuples, lists -/
def gAdd : W → W → Sto → Rz W := fun x y s => match x, y with
  | .int i, .int j => some (.int (i + j), s)
  | .str a, .str b => if a.length + b.length ≤ 100000 then some (.str (a ++ b), s) else none
  | .tup a, .tup b => if a.length + b.length ≤ 100000 then some (.tup (a ++ b), s) else none
  | .ref n, .ref k => match s[n]?, s[k]? with
    | some (.lst a), some (.lst b) => if a.length + b.length ≤ 100000 then some (.ref s.length, s ++ [.lst (a ++ b)]) else none
    | _, _ => none
  | _, _ => none
def rAddA (K : PySem.W.Frag) : R2 := fun x y H Q => (rI0 fun i j => .int (i + j)) x y H Q ∨ (∃ i j, x = .str i ∧ y = .str j ∧ i.length + j.length ≤ sizeLine ∧ Q (.str (i ++ j)) H) ∨ rCatA K x y H Q ∨ rCat x y H Q
theorem op_addA {X : Cx} : OpR X (binaryOp .Add) (rAddA X.K) := op_add.or (op_add_str.or (op_catA.or op_cat))
theorem f_add : OpF K (rAddA K) gAdd := by
  intro m H s x y v u Q S rx ry h
  have nope : ∀ {P : Prop}, wE K m H (none : Rz W) Q → P := fun h => by obtain ⟨_, _, e, _⟩ := h; cases e
  cases rx with
  | int i =>
    cases ry with
    | int j => exact .inl ⟨i, j, rfl, rfl, h.val S _ (.int _)⟩
    | _ => exact nope h
  | str a =>
    cases ry with
    | str b =>
      by_cases q : a.length + b.length ≤ 100000
      · simp only [gAdd, q, if_pos] at h
        exact .inr (.inl ⟨a, b, rfl, rfl, szl q, h.val S _ (.str _)⟩)
      · simp only [gAdd, q, if_neg, not_false_eq_true] at h
        exact nope h
    | _ => exact nope h
  | @tup p vs ws h1 h2 =>
    cases ry with
    | @tup p' vs' ws' h3 h4 =>
      by_cases q : ws.length + ws'.length ≤ 100000
      · simp only [gAdd, q, if_pos] at h
        have r := h2.app h4
        refine .inr (.inr (.inl ⟨p, p', vs, vs', rfl, rfl, h1.sq, h3.sq, szl (by rw [h2.len, h4.len]; exact q), fun e => ?_, fun _ e => ?_, fun _ _ z hz => ?_⟩))
        · subst e
          exact h.val S _ (.tup h3 r)
        · subst e
          rw [List.append_nil] at r
          exact h.val S _ (.tup h1 r)
        · obtain ⟨w, s', e, q⟩ := h
          cases e
          exact new_tup S r hz q
      · simp only [gAdd, q, if_neg, not_false_eq_true] at h
        exact nope h
    | _ => exact nope h
  | @ref n a h1 =>
    cases ry with
    | @ref k b h2 =>
      cases en : s[n]? with
      | none => simp only [gAdd, en] at h; exact nope h
      | some on =>
        cases on with
        | dct _ => simp only [gAdd, en] at h; exact nope h
        | lst wa =>
          cases ek : s[k]? with
          | none => simp only [gAdd, en, ek] at h; exact nope h
          | some ok =>
            cases ok with
            | dct _ => simp only [gAdd, en, ek] at h; exact nope h
            | lst wb =>
              by_cases q : wa.length + wb.length ≤ 100000
              · simp only [gAdd, en, ek, q, if_pos] at h
                obtain ⟨a', ha, va, ha1, ha2⟩ := S.at en
                obtain ⟨b', hb, vb, hb1, hb2⟩ := S.at ek
                rw [h1] at ha; cases ha
                rw [h2] at hb; cases hb
                refine .inr (.inr (.inr ⟨a, b, va, vb, rfl, rfl, ha1, hb1, szl (by rw [ha2.len, hb2.len]; exact q), fun p hp => ?_⟩))
                obtain ⟨w, s', e, q⟩ := h
                cases e
                exact new_lst S (ha2.app hb2) hp q
              · simp only [gAdd, en, ek, q, if_neg, not_false_eq_true] at h
                exact nope h
    | _ => exact nope h
  | _ => cases ry <;> exact nope h
/-! ### [..] * n -/
def gRep : W → W → Sto → Rz W := fun x y s => match x, y with
  | .ref n, .int k => match s[n]? with
    | some (.lst a) => if a.length * k.toNat ≤ 100000 ∧ -(2 ^ 63) ≤ k ∧ k < 2 ^ 63 then some (.ref s.length, s ++ [.lst (List.replicate k.toNat a).flatten]) else none
    | _ => none
  | _, _ => none
theorem RL.rep {m : List Addr} {H : Hp} {ws : List W} {vs : List V} (h : RL K m H ws vs) : ∀ k : Nat, RL K m H (List.replicate k ws).flatten (List.replicate k vs).flatten
  | 0 => .nil
  | k + 1 => by
    rw [List.replicate_succ, List.replicate_succ, List.flatten_cons, List.flatten_cons]
    exact h.app (RL.rep h k)
theorem f_rep : OpF K rRep gRep := by
  intro m H s x y v u Q S rx ry h
  have nope : ∀ {P : Prop}, wE K m H (none : Rz W) Q → P := fun h => by obtain ⟨_, _, e, _⟩ := h; cases e
  cases rx with
  | @ref n a h1 =>
    cases ry with
    | int k =>
      cases en : s[n]? with
      | none => simp only [gRep, en] at h; exact nope h
      | some on =>
        cases on with
        | dct _ => simp only [gRep, en] at h; exact nope h
        | lst wa =>
          by_cases q : wa.length * k.toNat ≤ 100000 ∧ -(2 ^ 63) ≤ k ∧ k < 2 ^ 63
          · simp only [gRep, en, q, and_self, if_true] at h
            obtain ⟨a', ha, va, ha1, ha2⟩ := S.at en
            rw [h1] at ha; cases ha
            refine ⟨a, k, va, rfl, rfl, ha1, q.2.1, q.2.2, szl (by rw [ha2.len]; exact q.1), fun p hp => ?_⟩
            obtain ⟨w, s', e, q⟩ := h
            cases e
            exact new_lst S (ha2.rep k.toNat) hp q
          · simp only [gRep, en, q, if_false] at h
            exact nope h
    | _ => exact nope h
  | _ => cases ry <;> exact nope h
/-! ### subscripts -/
def gIx : W → W → Sto → Rz W := fun x y s => match x, y with
  | .str z, .int i => if z.length ≤ 100000 then match atI z.cps.toList i with
      | some c => some (.str ⟨#[c]⟩, s)
      | none => none
    else none
  | x, .int i => match seqOf x s with
    | some ws => match atI ws i with
      | some w => some (w, s)
      | none => none
    | none => none
  | _, _ => none
theorem f_ix : OpF K (rIx K) gIx := by
  intro m H s x y v u Q S rx ry h
  have nope : ∀ {P : Prop}, wE K m H (none : Rz W) Q → P := fun h => by obtain ⟨_, _, e, _⟩ := h; cases e
  have seq : ∀ {i : Int}, u = .int i → (∀ z, x ≠ .str z) → wE K m H (match seqOf x s with
    | some ws => match atI ws i with
      | some w => some (w, s)
      | none => none
    | none => none) Q → rIx K v u H Q := fun {i} e _ h => by
    subst e
    cases es : seqOf x s with
    | none => simp only [es] at h; exact nope h
    | some ws =>
      simp only [es] at h
      cases ea : atI ws i with
      | none => simp only [ea] at h; exact nope h
      | some w =>
        simp only [ea] at h
        obtain ⟨p, vs, rfl, hs, r⟩ := seq_of S rx es
        obtain ⟨v', hv, rv⟩ := r.at_of ea
        rcases hs with hs | hs
        · exact .inr (.inl ⟨p, vs, i, v', rfl, rfl, hs, hv, h.val S _ rv⟩)
        · exact .inl ⟨p, vs, i, v', rfl, rfl, hs, hv, h.val S _ rv⟩
  cases ry with
  | int i =>
    cases x with
    | str z =>
      cases rx
      by_cases q : z.length ≤ 100000
      · simp only [gIx, q, if_true] at h
        cases ea : atI z.cps.toList i with
        | none => simp only [ea] at h; exact nope h
        | some c =>
          simp only [ea] at h
          exact .inr (.inr ⟨z, i, c, rfl, rfl, szl q, ea, h.val S _ (.str _)⟩)
      · simp only [gIx, q, if_false] at h; exact nope h
    | _ => exact seq rfl (fun z e => by cases e) h
  | _ => cases x <;> exact nope h
/-! ### == -/
mutual
def pyW : W → Option PyData
  | .non => some .none
  | .bl b => some (.bool b)
  | .int i => some (.int i)
  | .str x => some (.str x)
  | .tup ws => (pyWs ws).map .tuple
  | .lro ws => (pyWs ws).map .list
  | .ref _ => none
def pyWs : List W → Option (List PyData)
  | [] => some []
  | w :: ws => match pyW w, pyWs ws with
    | some d, some ds => some (d :: ds)
    | _, _ => none
end
/-- data, with the lists of the store down to n levels -/
def pyS (s : Sto) : Nat → W → Option PyData
  | 0, _ => none
  | n + 1, .ref k => match s[k]? with
    | some (.lst ws) => (ws.mapM (pyS s n)).map .list
    | _ => none
  | _ + 1, w => pyW w
mutual
theorem dp_of {m : List Addr} {H : Hp} : ∀ {w : W} {v : V} {d : PyData}, R K m H w v → pyW w = some d → Dp K H v d
  | .non, v, d, r, e => by cases r; rw [pyW] at e; cases e; exact .non
  | .bl _, v, d, r, e => by cases r; rw [pyW] at e; cases e; exact .bl _
  | .int _, v, d, r, e => by cases r; rw [pyW] at e; cases e; exact .int _
  | .str _, v, d, r, e => by cases r; rw [pyW] at e; cases e; exact .str _
  | .tup ws, v, d, r, e => by
    cases r with
    | tup h1 h2 =>
      rw [pyW] at e
      cases eds : pyWs ws with
      | none => rw [eds] at e; cases e
      | some ds =>
        rw [eds] at e
        cases e
        exact .tup h1.sq (dps_of h2 eds)
  | .lro ws, v, d, r, e => by
    cases r with
    | lro h1 h2 =>
      rw [pyW] at e
      cases eds : pyWs ws with
      | none => rw [eds] at e; cases e
      | some ds =>
        rw [eds] at e
        cases e
        exact .lst h1.sq (dps_of h2 eds)
  | .ref _, v, d, r, e => by rw [pyW] at e; cases e
theorem dps_of {m : List Addr} {H : Hp} : ∀ {ws : List W} {vs : List V} {ds : List PyData}, RL K m H ws vs → pyWs ws = some ds → DpAll K H vs ds
  | [], vs, ds, r, e => by cases r; rw [pyWs] at e; cases e; exact .nil
  | w :: ws, vs, ds, r, e => by
    cases r with
    | cons h1 h2 =>
      rw [pyWs] at e
      cases e1 : pyW w with
      | none => rw [e1] at e; cases e
      | some d1 =>
        cases e2 : pyWs ws with
        | none => rw [e1, e2] at e; cases e
        | some d2 =>
          rw [e1, e2] at e
          cases e
          exact .cons (dp_of h1 e1) (dps_of h2 e2)
end
theorem dpS_of {m : List Addr} {H : Hp} {s : Sto} (S : SR K m H s) : ∀ {n : Nat} {w : W} {v : V} {d : PyData}, R K m H w v → pyS s n w = some d → Dp K H v d
  | 0, w, v, d, r, e => by rw [pyS] at e; cases e
  | n + 1, .ref k, v, d, r, e => by
    rw [pyS] at e
    cases ek : s[k]? with
    | none => simp only [ek] at e; cases e
    | some o =>
      cases o with
      | dct _ => simp only [ek] at e; cases e
      | lst ws =>
        simp only [ek] at e
        cases em : ws.mapM (pyS s n) with
        | none => rw [em] at e; cases e
        | some ds =>
          rw [em] at e
          cases e
          cases r with
          | @ref _ a hk =>
            obtain ⟨a', ha, vs, h1, h2⟩ := S.at ek
            rw [hk] at ha; cases ha
            refine .lst (SqL.of h1) ?_
            clear hk h1 ek
            induction ws generalizing vs ds with
            | nil => cases h2; cases em; exact .nil
            | cons x r ih =>
              cases h2 with
              | cons r1 r2 =>
                rw [List.mapM_cons] at em
                cases ex : pyS s n x with
                | none => rw [ex] at em; cases em
                | some dx =>
                  rw [ex] at em
                  cases er : r.mapM (pyS s n) with
                  | none => rw [er] at em; cases em
                  | some dr =>
                    rw [er] at em
                    cases em
                    exact .cons (dpS_of S r1 ex) (ih _ er _ r2)
  | _ + 1, .non, v, d, r, e => dp_of r (by simpa only [pyS] using e)
  | _ + 1, .bl _, v, d, r, e => dp_of r (by simpa only [pyS] using e)
  | _ + 1, .int _, v, d, r, e => dp_of r (by simpa only [pyS] using e)
  | _ + 1, .str _, v, d, r, e => dp_of r (by simpa only [pyS] using e)
  | _ + 1, .tup _, v, d, r, e => dp_of r (by simpa only [pyS] using e)
  | _ + 1, .lro _, v, d, r, e => dp_of r (by simpa only [pyS] using e)
/-- two scalars that are compared without looking further -/
def sEq : W → W → Option Bool
  | .int i, .int j => some (decide (i = j))
  | .str a, .str b => some (decide (a = b))
  | .bl a, .bl b => some (decide (a = b))
  | .non, .non => some true
  | .non, .int _ => some false
  | .int _, .non => some false
  | .non, .str _ => some false
  | .str _, .non => some false
  | .non, .bl _ => some false
  | .bl _, .non => some false
  | .int _, .str _ => some false
  | .str _, .int _ => some false
  | .bl _, .str _ => some false
  | .str _, .bl _ => some false
  | _, _ => none
def datEq (s : Sto) (x y : W) : Option Bool := match pyS s 3 x, pyS s 3 y with
  | some d, some e => if SeqAt.shaped d = true ∧ SeqAt.shaped e = true then some (PyData.eqv d e) else none
  | _, _ => none
def eqW (s : Sto) (x y : W) : Option Bool := match sEq x y with
  | some b => some b
  | none => datEq s x y
def gEq : W → W → Sto → Rz W := fun x y s => match eqW s x y with
  | some b => some (.bl b, s)
  | none => none
def gNe : W → W → Sto → Rz W := fun x y s => match eqW s x y with
  | some b => some (.bl (!b), s)
  | none => none
def rEqA (K : PySem.W.Frag) : R2 := fun x y H Q => rEq x y H Q ∨ rEqD K x y H Q
def rNeA (K : PySem.W.Frag) : R2 := fun x y H Q => rNe x y H Q ∨ rNeD K x y H Q
theorem op_eqA {X : Cx} (hu : X.A.units + 64 < cLine) : OpR X (compareOp .Eq) (rEqA X.K) := op_eq.or (op_eqD hu)
theorem op_neA {X : Cx} (hu : X.A.units + 64 < cLine) : OpR X (compareOp .NotEq) (rNeA X.K) := op_ne.or (op_neD hu)
theorem eq_cases {m : List Addr} {H : Hp} {s : Sto} {x y : W} {v u : V} {b : Bool} (S : SR K m H s) (rx : R K m H x v) (ry : R K m H y u) (e : eqW s x y = some b) :
    (scal v u = true ∧ decide (v = u) = b) ∨ ∃ d d', Dp K H v d ∧ Dp K H u d' ∧ SeqAt.shaped d = true ∧ SeqAt.shaped d' = true ∧ PyData.eqv d d' = b := by
  unfold eqW at e
  cases es : sEq x y with
  | some b' =>
    simp only [es] at e
    cases e
    left
    cases rx <;> cases ry <;> simp only [sEq, Option.some.injEq, reduceCtorEq] at es <;> subst es <;> refine ⟨rfl, ?_⟩ <;> simp
  | none =>
    simp only [es] at e
    right
    unfold datEq at e
    cases e1 : pyS s 3 x with
    | none => simp only [e1] at e; cases e
    | some d =>
      cases e2 : pyS s 3 y with
      | none => simp only [e1, e2] at e; cases e
      | some d' =>
        simp only [e1, e2] at e
        split at e
        · rename_i hh
          cases e
          exact ⟨d, d', dpS_of S rx e1, dpS_of S ry e2, hh.1, hh.2, rfl⟩
        · cases e
theorem f_eq : OpF K (rEqA K) gEq := by
  intro m H s x y v u Q S rx ry h
  cases e : eqW s x y with
  | none => simp only [gEq, e] at h; obtain ⟨_, _, e, _⟩ := h; cases e
  | some b =>
    simp only [gEq, e] at h
    have q := h.val S _ (.bl b)
    rcases eq_cases S rx ry e with ⟨h1, h2⟩ | ⟨d, d', h1, h2, h3, h4, h5⟩
    · exact .inl ⟨h1, by rw [h2]; exact q⟩
    · exact .inr ⟨d, d', h1, h2, h3, h4, by rw [h5]; exact q⟩
theorem f_ne : OpF K (rNeA K) gNe := by
  intro m H s x y v u Q S rx ry h
  cases e : eqW s x y with
  | none => simp only [gNe, e] at h; obtain ⟨_, _, e, _⟩ := h; cases e
  | some b =>
    simp only [gNe, e] at h
    have q := h.val S _ (.bl (!b))
    rcases eq_cases S rx ry e with ⟨h1, h2⟩ | ⟨d, d', h1, h2, h3, h4, h5⟩
    · exact .inl ⟨h1, by rw [h2]; exact q⟩
    · exact .inr ⟨d, d', h1, h2, h3, h4, by rw [h5]; exact q⟩
/-! ### is -/
def isNon : W → Bool
  | .non => true
  | _ => false
def gIs : W → W → Sto → Rz W := fun x y s => match x, y with
  | .bl a, .bl b => some (.bl (decide (a = b)), s)
  | x, .non => some (.bl (isNon x), s)
  | .non, .bl _ => some (.bl false, s)
  | _, _ => none
def gIsNot : W → W → Sto → Rz W := fun x y s => match x, y with
  | .bl a, .bl b => some (.bl (!decide (a = b)), s)
  | x, .non => some (.bl (!isNon x), s)
  | .non, .bl _ => some (.bl true, s)
  | _, _ => none

def rIsA : R2 := fun x y H Q => (y = .non ∧ Q (.bl (decide (x = .non))) H) ∨ rIsB x y H Q ∨ (∃ b, x = .non ∧ y = .bl b ∧ Q (.bl false) H)
def rNotA : R2 := fun x y H Q => (y = .non ∧ Q (.bl (!decide (x = .non))) H) ∨ rNotB x y H Q ∨ (∃ b, x = .non ∧ y = .bl b ∧ Q (.bl true) H)
theorem op_isA {X : Cx} : OpR X (compareOp .Is) rIsA := op_isN.or (op_isBl.or (by
  intro pins s σ H x y v u Q I rx ry h
  obtain ⟨b, rfl, rfl, q⟩ := h
  cases (show v = Value.none from rx)
  cases (show u = Value.bool b from ry)
  exact wpAny_is_other rfl (fun z => by cases z) ⟨.bl false, H, I, rfl, q⟩))
theorem op_notA {X : Cx} : OpR X (compareOp .IsNot) rNotA := op_notN.or (op_notBl.or (by
  intro pins s σ H x y v u Q I rx ry h
  obtain ⟨b, rfl, rfl, q⟩ := h
  cases (show v = Value.none from rx)
  cases (show u = Value.bool b from ry)
  exact wpAny_isNot_other rfl (fun z => by cases z) ⟨.bl true, H, I, rfl, q⟩))
theorem non_of {m : List Addr} {H : Hp} {x : W} {v : V} (r : R K m H x v) : decide (v = .non) = isNon x := by
  cases r <;> simp [isNon]
theorem f_is : OpF K rIsA gIs := by
  intro m H s x y v u Q S rx ry h
  have nope : ∀ {P : Prop}, wE K m H (none : Rz W) Q → P := fun h => by obtain ⟨_, _, e, _⟩ := h; cases e
  cases ry with
  | non =>
    refine .inl ⟨rfl, ?_⟩
    rw [non_of rx]
    cases rx <;> exact h.val S _ (.bl _)
  | bl b =>
    cases rx with
    | bl a => exact .inr (.inl ⟨a, b, rfl, rfl, h.val S _ (.bl _)⟩)
    | non => exact .inr (.inr ⟨b, rfl, rfl, h.val S _ (.bl _)⟩)
    | _ => exact nope h
  | _ => cases rx <;> exact nope h
theorem f_isNot : OpF K rNotA gIsNot := by
  intro m H s x y v u Q S rx ry h
  have nope : ∀ {P : Prop}, wE K m H (none : Rz W) Q → P := fun h => by obtain ⟨_, _, e, _⟩ := h; cases e
  cases ry with
  | non =>
    refine .inl ⟨rfl, ?_⟩
    rw [non_of rx]
    cases rx <;> exact h.val S _ (.bl _)
  | bl b =>
    cases rx with
    | bl a => exact .inr (.inl ⟨a, b, rfl, rfl, h.val S _ (.bl _)⟩)
    | non => exact .inr (.inr ⟨b, rfl, rfl, h.val S _ (.bl _)⟩)
    | _ => exact nope h
  | _ => cases rx <;> exact nope h
/-! ### in -/
def flatW : W → Bool
  | .non => true
  | .bl _ => true
  | .int _ => true
  | .str _ => true
  | _ => false
def eqF : W → W → Bool
  | .non, .non => true
  | .bl a, .bl b => a == b
  | .bl a, .int b => (if a then 1 else 0) == b
  | .int a, .bl b => a == (if b then 1 else 0)
  | .int a, .int b => a == b
  | .str a, .str b => a == b
  | _, _ => false
def inW (x : W) (ws : List W) : Bool := ws.any fun y => eqF y x
theorem flat_of {m : List Addr} {H : Hp} {x : W} {v : V} (r : R K m H x v) (h : flatW x = true) : flatV v = true := by
  cases r <;> first | rfl | cases h
theorem eqF_of {m : List Addr} {H : Hp} {x y : W} {v u : V} (rx : R K m H x v) (ry : R K m H y u) (hx : flatW x = true) : eqV v u = eqF x y := by
  cases rx with
  | tup => cases hx
  | lro => cases hx
  | ref => cases hx
  | _ => cases ry <;> rfl
theorem in_of {m : List Addr} {H : Hp} {x : W} {v : V} (rx : R K m H x v) : ∀ {ws : List W} {vs : List V}, RL K m H ws vs → ws.all flatW = true → vs.all flatV = true ∧ inV v vs = inW x ws
  | [], vs, r, _ => by cases r; exact ⟨rfl, rfl⟩
  | w :: ws, vs, r, h => by
    cases r with
    | cons h1 h2 =>
      rw [List.all_cons, Bool.and_eq_true] at h
      obtain ⟨q1, q2⟩ := in_of rx h2 h.2
      refine ⟨by rw [List.all_cons, flat_of h1 h.1, q1]; rfl, ?_⟩
      unfold inV inW at q2 ⊢
      rw [List.any_cons, List.any_cons, q2, eqF_of h1 rx h.1]
def datIn (s : Sto) (x y : W) : Option Bool := match pyS s 3 x, pyS s 3 y with
  | some d, some (.list ds) => if SeqAt.shaped d = true ∧ SeqAt.shaped (.list ds) = true then some (ds.any fun z => PyData.eqv z d) else none
  | _, _ => none
def insW (s : Sto) (x y : W) : Option Bool := match x, y with
  | .str a, .str z => some (!(Builtin.Str.occurrences z a 0 z.length 1).isEmpty)
  | x, y => match seqOf y s with
    | some ws => if flatW x = true ∧ ws.all flatW = true then some (inW x ws) else datIn s x y
    | none => none
def gIn : W → W → Sto → Rz W := fun x y s => match insW s x y with
  | some b => some (.bl b, s)
  | none => none
def gNotIn : W → W → Sto → Rz W := fun x y s => match insW s x y with
  | some b => some (.bl (!b), s)
  | none => none
def rInA (K : PySem.W.Frag) : R2 := fun x y H Q => rIn K false x y H Q ∨ (∃ i j, x = .str i ∧ y = .str j ∧ Q (.bl (!(Builtin.Str.occurrences j i 0 j.length 1).isEmpty)) H) ∨ rInD K x y H Q
def rNotInA (K : PySem.W.Frag) : R2 := fun x y H Q => rIn K true x y H Q ∨ (∃ i j, x = .str i ∧ y = .str j ∧ Q (.bl (!(!(Builtin.Str.occurrences j i 0 j.length 1).isEmpty))) H) ∨ rNotInD K x y H Q
theorem op_inA {X : Cx} (hu : X.A.units + 65 < cLine) : OpR X (compareOp .In) (rInA X.K) := op_in_seq.or (op_in_str.or (op_inD hu))
theorem op_notInA {X : Cx} (hu : X.A.units + 65 < cLine) : OpR X (compareOp .NotIn) (rNotInA X.K) := op_notIn_seq.or (op_notin_str.or (op_notInD hu))
theorem ins_cases {m : List Addr} {H : Hp} {s : Sto} {x y : W} {v u : V} {b : Bool} (S : SR K m H s) (rx : R K m H x v) (ry : R K m H y u) (e : insW s x y = some b) :
    (∃ p xs, u = .ref p ∧ (SqL K H p xs ∨ SqT K H p xs) ∧ flatV v = true ∧ xs.all flatV = true ∧ inV v xs = b) ∨
    (∃ i j, v = .str i ∧ u = .str j ∧ (!(Builtin.Str.occurrences j i 0 j.length 1).isEmpty) = b) ∨
    ∃ d ds, Dp K H v d ∧ Dp K H u (.list ds) ∧ SeqAt.shaped d = true ∧ SeqAt.shaped (.list ds) = true ∧ (ds.any fun z => PyData.eqv z d) = b := by
  have main : (match seqOf y s with
    | some ws => if flatW x = true ∧ ws.all flatW = true then some (inW x ws) else datIn s x y
    | none => none) = some b → (∃ p xs, u = .ref p ∧ (SqL K H p xs ∨ SqT K H p xs) ∧ flatV v = true ∧ xs.all flatV = true ∧ inV v xs = b) ∨
    ∃ d ds, Dp K H v d ∧ Dp K H u (.list ds) ∧ SeqAt.shaped d = true ∧ SeqAt.shaped (.list ds) = true ∧ (ds.any fun z => PyData.eqv z d) = b := fun e => by
    cases es : seqOf y s with
    | none => simp only [es] at e; cases e
    | some ws =>
      simp only [es] at e
      split at e
      · rename_i hf
        cases e
        obtain ⟨p, vs, hu, hs, r⟩ := seq_of S ry es
        obtain ⟨q1, q2⟩ := in_of rx r hf.2
        exact .inl ⟨p, vs, hu, hs.symm, flat_of rx hf.1, q1, q2⟩
      · unfold datIn at e
        cases e1 : pyS s 3 x with
        | none => simp only [e1] at e; cases e
        | some d =>
          cases e2 : pyS s 3 y with
          | none => simp only [e1, e2] at e; cases e
          | some d' =>
            cases d' with
            | list ds =>
              simp only [e1, e2] at e
              split at e
              · rename_i hh
                cases e
                exact .inr ⟨d, ds, dpS_of S rx e1, dpS_of S ry e2, hh.1, hh.2, rfl⟩
              · cases e
            | _ => simp only [e1, e2] at e; cases e
  cases rx with
  | str a =>
    cases ry with
    | str z =>
      simp only [insW] at e
      exact .inr (.inl ⟨a, z, rfl, rfl, Option.some.inj e⟩)
    | _ => simp only [insW] at e; exact (main e).elim Or.inl fun h => Or.inr (Or.inr h)
  | _ => simp only [insW] at e; exact (main e).elim Or.inl fun h => Or.inr (Or.inr h)
theorem f_in : OpF K (rInA K) gIn := by
  intro m H s x y v u Q S rx ry h
  cases e : insW s x y with
  | none => simp only [gIn, e] at h; obtain ⟨_, _, e, _⟩ := h; cases e
  | some b =>
    simp only [gIn, e] at h
    have q := h.val S _ (.bl b)
    rcases ins_cases S rx ry e with ⟨p, xs, hu, h1, h2, h3, h4⟩ | ⟨i, j, h1, h2, h3⟩ | ⟨d, ds, h1, h2, h3, h4, h5⟩
    · exact .inl ⟨p, xs, hu, h1, h2, h3, by rw [h4]; exact q⟩
    · exact .inr (.inl ⟨i, j, h1, h2, by rw [h3]; exact q⟩)
    · exact .inr (.inr ⟨d, ds, h1, h2, h3, h4, by rw [h5]; exact q⟩)
theorem f_notIn : OpF K (rNotInA K) gNotIn := by
  intro m H s x y v u Q S rx ry h
  cases e : insW s x y with
  | none => simp only [gNotIn, e] at h; obtain ⟨_, _, e, _⟩ := h; cases e
  | some b =>
    simp only [gNotIn, e] at h
    have q := h.val S _ (.bl (!b))
    rcases ins_cases S rx ry e with ⟨p, xs, hu, h1, h2, h3, h4⟩ | ⟨i, j, h1, h2, h3⟩ | ⟨d, ds, h1, h2, h3, h4, h5⟩
    · exact .inl ⟨p, xs, hu, h1, h2, h3, by rw [h4]; exact q⟩
    · exact .inr (.inl ⟨i, j, h1, h2, by rw [h3]; exact q⟩)
    · exact .inr (.inr ⟨d, ds, h1, h2, h3, h4, by rw [h5]; exact q⟩)
/-! ### built-ins by name -/
def lenW (x : W) (s : Sto) : Option Nat := match x with
  | .str z => if z.length ≤ sizeLine then some z.length else none
  | .ref n => match s[n]? with
    | some (.lst ws) => some ws.length
    | some (.dct kvs) => some kvs.length
    | none => none
  | x => (seqOf x s).map List.length
def gLen : List W → Sto → Rz W := fun ws s => match ws with
  | [x] => match lenW x s with
    | some n => some (.int n, s)
    | none => none
  | _ => none
def rLenA (K : PySem.W.Frag) : List V → Hp → VK → Prop := fun xs H Q => (∃ p ys, xs = [.ref p] ∧ (SqL K H p ys ∨ SqT K H p ys) ∧ Q (.int ys.length) H) ∨ (∃ z, xs = [.str z] ∧ z.length ≤ sizeLine ∧ Q (.int z.length) H) ∨ (∃ d kvs, xs = [V.ref d] ∧ H d = some (.dK kvs) ∧ Q (.int kvs.length) H)
theorem RK.len {m : List Addr} {H : Hp} : ∀ {ws : List (Key × W)} {vs : List (Key × V)}, RK K m H ws vs → vs.length = ws.length
  | [], _, h => by cases h; rfl
  | w :: ws, _, h => by
    cases h with
    | cons h1 h2 => rw [List.length_cons, List.length_cons, RK.len h2]
end
end Mir

set_option Elab.async false
set_option linter.all false
set_option maxRecDepth 100000
namespace Mir
open PySem PySem.Spec PyProof.Rows L2
section
variable {K : PySem.W.Frag}
theorem nopeE {m : List Addr} {H : Hp} {Q : VK} {P : Prop} (h : wE K m H (none : Rz W) Q) : P := by obtain ⟨_, _, e, _⟩ := h; cases e
theorem nopeE' {m : List Addr} {H : Hp} {Q : VK} {P : Prop} {x : Rz W} (h : wE K m H x Q) (e : x = none) : P := by rw [e] at h; exact nopeE h
/-! ### len -/
theorem call_lenA {X : Cx} : CallR X (.builtin "len") (rLenA X.K) := call_len_seq.or (call_len_str.or call_lenD)
theorem f_len : CallF K (rLenA K) gLen := by
  intro m H s ws vs Q S r h
  cases r with
  | nil => exact nopeE h
  | @cons x v ws vs r1 r2 =>
    cases r2 with
    | cons _ _ => exact nopeE h
    | nil =>
      have seq : ∀ {xs}, seqOf x s = some xs → Q (.int xs.length) H → rLenA K [v] H Q := fun {xs} e q => by
        obtain ⟨p, vs, rfl, hs, r⟩ := seq_of S r1 e
        rw [← r.len] at q
        exact .inl ⟨p, vs, rfl, hs.symm, q⟩
      cases r1 with
      | str z =>
        by_cases q : z.length ≤ sizeLine
        · simp only [gLen, lenW, q, if_true] at h
          exact .inr (.inl ⟨z, rfl, q, h.val S _ (.int _)⟩)
        · simp only [gLen, lenW, q, if_false] at h; exact nopeE h
      | tup h1 h2 => exact seq rfl (h.val S _ (.int _))
      | lro h1 h2 => exact seq rfl (h.val S _ (.int _))
      | @ref n a h1 =>
        cases en : s[n]? with
        | none => simp only [gLen, lenW, en] at h; exact nopeE h
        | some o =>
          cases o with
          | lst xs =>
            simp only [gLen, lenW, en] at h
            exact seq (by simp only [seqOf, en]) (h.val S _ (.int _))
          | dct kvs =>
            simp only [gLen, lenW, en] at h
            obtain ⟨a', h2, vs, h3, h4⟩ := S.at en
            rw [h1] at h2; cases h2
            have q := h.val S _ (.int _)
            rw [← h4.len] at q
            exact .inr (.inr ⟨a, vs, rfl, h3, q⟩)
      | _ => exact nopeE h
/-! ### abs, max, min, int, str -/
def g1I (f : Int → W) : List W → Sto → Rz W := fun ws s => match ws with
  | [.int i] => some (f i, s)
  | _ => none
def g2I (f : Int → Int → W) : List W → Sto → Rz W := fun ws s => match ws with
  | [.int i, .int j] => some (f i j, s)
  | _ => none
theorem f_1I {g : Int → V} {f : Int → W} (hf : ∀ m H i, R K m H (f i) (g i)) : CallF K (fun xs H Q => ∃ i, xs = [.int i] ∧ Q (g i) H) (g1I f) := by
  intro m H s ws vs Q S r h
  cases r with
  | nil => exact nopeE h
  | cons r1 r2 =>
    cases r2 with
    | cons _ _ => cases r1 <;> exact nopeE h
    | nil =>
      cases r1 with
      | int i => exact ⟨i, rfl, h.val S _ (hf m H i)⟩
      | _ => exact nopeE h
theorem f_2I {g : Int → Int → V} {f : Int → Int → W} (hf : ∀ m H i j, R K m H (f i j) (g i j)) : CallF K (fun xs H Q => ∃ i j, xs = [.int i, .int j] ∧ Q (g i j) H) (g2I f) := by
  intro m H s ws vs Q S r h
  cases r with
  | nil => exact nopeE h
  | cons r1 r2 =>
    cases r2 with
    | nil => cases r1 <;> exact nopeE h
    | cons r3 r4 =>
      cases r4 with
      | cons _ _ => cases r1 <;> first | exact nopeE h | (cases r3 <;> exact nopeE h)
      | nil =>
        cases r1 with
        | int i =>
          cases r3 with
          | int j => exact ⟨i, j, rfl, h.val S _ (hf m H i j)⟩
          | _ => exact nopeE h
        | _ => exact nopeE h
abbrev gAbs := g1I fun i => .int (if i < 0 then -i else i)
abbrev gMax2 := g2I fun i j => .int (if j > i then j else i)
abbrev gMin2 := g2I fun i j => .int (if j < i then j else i)
theorem f_abs : CallF K (fun xs H Q => ∃ i, xs = [.int i] ∧ Q (.int (if i < 0 then -i else i)) H) gAbs := f_1I fun _ _ _ => .int _
theorem f_max2 : CallF K (fun xs H Q => ∃ i j, xs = [.int i, .int j] ∧ Q (.int (if j > i then j else i)) H) gMax2 := f_2I fun _ _ _ _ => .int _
theorem f_min2 : CallF K (fun xs H Q => ∃ i j, xs = [.int i, .int j] ∧ Q (.int (if j < i then j else i)) H) gMin2 := f_2I fun _ _ _ _ => .int _
def gInt1 : List W → Sto → Rz W := fun ws s => match ws with
  | [.int i] => some (.int i, s)
  | [.bl k] => some (.int (if k then 1 else 0), s)
  | _ => none
theorem f_int1 : CallF K (fun xs H Q => (∃ i, xs = [.int i] ∧ Q (.int i) H) ∨ ∃ k, xs = [.bl k] ∧ Q (.int (if k then 1 else 0)) H) gInt1 := by
  intro m H s ws vs Q S r h
  cases r with
  | nil => exact nopeE h
  | cons r1 r2 =>
    cases r2 with
    | cons _ _ => cases r1 <;> exact nopeE h
    | nil =>
      cases r1 with
      | int i => exact .inl ⟨i, rfl, h.val S _ (.int _)⟩
      | bl i => exact .inr ⟨i, rfl, h.val S _ (.int _)⟩
      | _ => exact nopeE h
def gStr1 : List W → Sto → Rz W := fun ws s => match ws with
  | [.int i] => if i.natAbs.log2 < 1920 then some (.str (toString i), s) else none
  | _ => none
theorem f_str1 : CallF K (fun xs H Q => ∃ i, xs = [.int i] ∧ i.natAbs.log2 < 1920 ∧ Q (.str (toString i)) H) gStr1 := by
  intro m H s ws vs Q S r h
  cases r with
  | nil => exact nopeE h
  | cons r1 r2 =>
    cases r2 with
    | cons _ _ => cases r1 <;> exact nopeE h
    | nil =>
      cases r1 with
      | int i =>
        by_cases q : i.natAbs.log2 < 1920
        · simp only [gStr1, q, if_true] at h
          exact ⟨i, rfl, q, h.val S _ (.str _)⟩
        · simp only [gStr1, q, if_false] at h; exact nopeE h
      | _ => exact nopeE h
/-! ### tuple(..), list(..) -/
def gTuple : List W → Sto → Rz W := fun ws s => match ws with
  | [.tup xs] => some (.tup xs, s)
  | [x] => match seqOf x s with
    | some xs => some (.tup xs, s)
    | none => none
  | _ => none
def gList : List W → Sto → Rz W := fun ws s => match ws with
  | [x] => match seqOf x s with
    | some xs => some (.ref s.length, s ++ [.lst xs])
    | none => none
  | _ => none
theorem f_tuple : CallF K (fun xs H Q => ∃ p ys, xs = [.ref p] ∧ ((SqL K H p ys ∧ ∀ l, H l = none → Q (.ref l) (upd H l (.tup ys))) ∨ (SqT K H p ys ∧ Q (.ref p) H))) gTuple := by
  intro m H s ws vs Q S r h
  cases r with
  | nil => exact nopeE h
  | @cons x v ws vs r1 r2 =>
    cases r2 with
    | cons _ _ => cases r1 <;> exact nopeE h
    | nil =>
      have lst : ∀ {p xs ys}, v = .ref p → SqL K H p ys → RL K m H xs ys → wE K m H (some (.tup xs, s)) Q → ∃ p ys, [v] = [.ref p] ∧ ((SqL K H p ys ∧ ∀ l, H l = none → Q (.ref l) (upd H l (.tup ys))) ∨ (SqT K H p ys ∧ Q (.ref p) H)) := fun {p xs ys} e hs r ⟨w, s', e2, q⟩ => by
        subst e
        cases e2
        exact ⟨p, ys, rfl, .inl ⟨hs, fun l hl => new_tup S r hl q⟩⟩
      cases r1 with
      | tup h1 h2 => exact ⟨_, _, rfl, .inr ⟨h1.sq, h.val S _ (.tup h1 h2)⟩⟩
      | lro h1 h2 => exact lst rfl h1.sq h2 h
      | @ref n a h1 =>
        cases en : s[n]? with
        | none => exact nopeE' h (by simp only [gTuple, seqOf, en])
        | some o =>
          cases o with
          | dct _ => exact nopeE' h (by simp only [gTuple, seqOf, en])
          | lst xs =>
            obtain ⟨a', h2, vs, h3, h4⟩ := S.at en
            rw [h1] at h2; cases h2
            refine lst rfl (SqL.of h3) h4 ?_
            have e : gTuple [.ref n] s = some (.tup xs, s) := by simp only [gTuple, seqOf, en]
            rw [e] at h
            exact h
      | _ => exact nopeE h
theorem f_list : CallF K (fun xs H Q => ∃ p ys, xs = [.ref p] ∧ (SqL K H p ys ∨ SqT K H p ys) ∧ ∀ l, H l = none → Q (.ref l) (upd H l (.lst ys))) gList := by
  intro m H s ws vs Q S r h
  cases r with
  | nil => exact nopeE h
  | @cons x v ws vs r1 r2 =>
    cases r2 with
    | cons _ _ => exact nopeE h
    | nil =>
      cases es : seqOf x s with
      | none => exact nopeE' h (by simp only [gList, es])
      | some xs =>
        simp only [gList, es] at h
        obtain ⟨p, ys, rfl, hs, r⟩ := seq_of S r1 es
        obtain ⟨w, s', e2, q⟩ := h
        cases e2
        exact ⟨p, ys, rfl, hs.symm, fun l hl => new_lst S r hl q⟩
/-! ### lists of scalars: sum, max, min, all, any -/
def intsOf : List W → Option (List Int)
  | [] => some []
  | .int i :: r => match intsOf r with
    | some is => some (i :: is)
    | none => none
  | _ => none
def blsOf : List W → Option (List Bool)
  | [] => some []
  | .bl i :: r => match blsOf r with
    | some is => some (i :: is)
    | none => none
  | _ => none
def strsOf : List W → Option (List Str)
  | [] => some []
  | .str i :: r => match strsOf r with
    | some is => some (i :: is)
    | none => none
  | _ => none
theorem ints_of {m : List Addr} {H : Hp} : ∀ {ws : List W} {vs : List V} {is : List Int}, RL K m H ws vs → intsOf ws = some is → vs = is.map V.int
  | [], vs, is, r, e => by cases r; cases e; rfl
  | w :: ws, vs, is, r, e => by
    cases r with
    | cons h1 h2 =>
      cases h1 with
      | int i =>
        simp only [intsOf] at e
        cases e2 : intsOf ws with
        | none => rw [e2] at e; cases e
        | some js => rw [e2] at e; cases e; rw [ints_of h2 e2]; rfl
      | _ => cases e
theorem bls_of {m : List Addr} {H : Hp} : ∀ {ws : List W} {vs : List V} {is : List Bool}, RL K m H ws vs → blsOf ws = some is → vs = is.map V.bl
  | [], vs, is, r, e => by cases r; cases e; rfl
  | w :: ws, vs, is, r, e => by
    cases r with
    | cons h1 h2 =>
      cases h1 with
      | bl i =>
        simp only [blsOf] at e
        cases e2 : blsOf ws with
        | none => rw [e2] at e; cases e
        | some js => rw [e2] at e; cases e; rw [bls_of h2 e2]; rfl
      | _ => cases e
theorem strs_of {m : List Addr} {H : Hp} : ∀ {ws : List W} {vs : List V} {is : List Str}, RL K m H ws vs → strsOf ws = some is → vs = is.map V.str
  | [], vs, is, r, e => by cases r; cases e; rfl
  | w :: ws, vs, is, r, e => by
    cases r with
    | cons h1 h2 =>
      cases h1 with
      | str i =>
        simp only [strsOf] at e
        cases e2 : strsOf ws with
        | none => rw [e2] at e; cases e
        | some js => rw [e2] at e; cases e; rw [strs_of h2 e2]; rfl
      | _ => cases e
/-- the items of a list (no tuple) -/
def lstOf (x : W) (s : Sto) : Option (List W) := match x with
  | .lro ws => some ws
  | .ref n => match s[n]? with
    | some (.lst ws) => some ws
    | _ => none
  | _ => none
theorem lst_of {m : List Addr} {H : Hp} {s : Sto} {x : W} {v : V} {ws : List W} (S : SR K m H s) (r : R K m H x v) (h : lstOf x s = some ws) : ∃ p vs, v = .ref p ∧ SqL K H p vs ∧ RL K m H ws vs := by
  cases r with
  | lro h1 h2 => cases h; exact ⟨_, _, rfl, h1.sq, h2⟩
  | @ref n a h1 =>
    cases e : s[n]? with
    | none => simp only [lstOf, e] at h; cases h
    | some o =>
      cases o with
      | dct _ => simp only [lstOf, e] at h; cases h
      | lst ws' =>
        simp only [lstOf, e] at h
        cases h
        obtain ⟨a', h2, vs, h3, h4⟩ := S.at e
        rw [h1] at h2
        cases h2
        exact ⟨_, _, rfl, SqL.of h3, h4⟩
  | _ => cases h
def gLB (f : List Bool → Bool) : List W → Sto → Rz W := fun ws s => match ws with
  | [x] => match lstOf x s with
    | some xs => match blsOf xs with
      | some bs => some (.bl (f bs), s)
      | none => none
    | none => none
  | _ => none
theorem f_LB {f : List Bool → Bool} : CallF K (fun vs H Q => ∃ (a : Addr) (bs : List Bool), vs = [V.ref a] ∧ SqL K H a (bs.map V.bl) ∧ Q (.bl (f bs)) H) (gLB f) := by
  intro m H s ws vs Q S r h
  cases r with
  | nil => exact nopeE h
  | @cons x v ws vs r1 r2 =>
    cases r2 with
    | cons _ _ => exact nopeE h
    | nil =>
      cases es : lstOf x s with
      | none => exact nopeE' h (by simp only [gLB, es])
      | some xs =>
        cases eb : blsOf xs with
        | none => exact nopeE' h (by simp only [gLB, es, eb])
        | some bs =>
          simp only [gLB, es, eb] at h
          obtain ⟨p, ys, rfl, hs, r⟩ := lst_of S r1 es
          rw [bls_of r eb] at hs
          exact ⟨p, bs, rfl, hs, h.val S _ (.bl _)⟩
abbrev gAll := gLB fun bs => bs.all id
abbrev gAny := gLB fun bs => bs.any id
theorem f_all : CallF K (rAll K) gAll := f_LB
theorem f_any : CallF K (rAny K) gAny := f_LB
def gSum : List W → Sto → Rz W := fun ws s => match ws with
  | [x] => match lstOf x s with
    | some xs => match intsOf xs with
      | some is => some (.int is.sum, s)
      | none => none
    | none => none
  | _ => none
theorem f_sum : CallF K (rSum K) gSum := by
  intro m H s ws vs Q S r h
  cases r with
  | nil => exact nopeE h
  | @cons x v ws vs r1 r2 =>
    cases r2 with
    | cons _ _ => exact nopeE h
    | nil =>
      cases es : lstOf x s with
      | none => exact nopeE' h (by simp only [gSum, es])
      | some xs =>
        cases eb : intsOf xs with
        | none => exact nopeE' h (by simp only [gSum, es, eb])
        | some bs =>
          simp only [gSum, es, eb] at h
          obtain ⟨p, ys, rfl, hs, r⟩ := lst_of S r1 es
          rw [ints_of r eb] at hs
          exact ⟨p, bs, rfl, hs, h.val S _ (.int _)⟩
def maxI : List Int → Int
  | [] => 0
  | x :: r => r.foldl (fun a b => if b > a then b else a) x
theorem foldl_max : ∀ (r : List Int) (x : Int), x ≤ r.foldl (fun a b => if b > a then b else a) x ∧ (r.foldl (fun a b => if b > a then b else a) x = x ∨ r.foldl (fun a b => if b > a then b else a) x ∈ r) ∧ ∀ y ∈ r, y ≤ r.foldl (fun a b => if b > a then b else a) x
  | [], x => ⟨Int.le_refl _, .inl rfl, fun _ h => by cases h⟩
  | z :: r, x => by
    obtain ⟨h1, h2, h3⟩ := foldl_max r (if z > x then z else x)
    rw [List.foldl_cons]
    have e : x ≤ (if z > x then z else x) ∧ z ≤ (if z > x then z else x) ∧ ((if z > x then z else x) = x ∨ (if z > x then z else x) = z) := by
      split <;> omega
    refine ⟨Int.le_trans e.1 h1, ?_, fun y hy => ?_⟩
    · rcases h2 with h2 | h2
      · rcases e.2.2 with q | q
        · left; rw [h2, q]
        · right; rw [h2, q]; exact List.mem_cons_self
      · exact .inr (List.mem_cons_of_mem _ h2)
    · rcases List.mem_cons.mp hy with rfl | hy
      · exact Int.le_trans e.2.1 h1
      · exact h3 y hy
theorem max_is {ns : List Int} (h : 0 < ns.length) : maxI ns ∈ ns ∧ ∀ y ∈ ns, y ≤ maxI ns := by
  cases ns with
  | nil => cases h
  | cons x r =>
    obtain ⟨h1, h2, h3⟩ := foldl_max r x
    refine ⟨?_, fun y hy => ?_⟩
    · show r.foldl _ x ∈ _
      rcases h2 with h2 | h2
      · rw [h2]; exact List.mem_cons_self
      · exact List.mem_cons_of_mem _ h2
    · rcases List.mem_cons.mp hy with rfl | hy
      · exact h1
      · exact h3 y hy
def gMaxL : List W → Sto → Rz W := fun ws s => match ws with
  | [x] => match lstOf x s with
    | some xs => match intsOf xs with
      | some is => if 0 < is.length then some (.int (maxI is), s) else none
      | none => none
    | none => none
  | _ => none
theorem f_maxL : CallF K (rMax K) gMaxL := by
  intro m H s ws vs Q S r h
  cases r with
  | nil => exact nopeE h
  | @cons x v ws vs r1 r2 =>
    cases r2 with
    | cons _ _ => exact nopeE h
    | nil =>
      cases es : lstOf x s with
      | none => exact nopeE' h (by simp only [gMaxL, es])
      | some xs =>
        cases eb : intsOf xs with
        | none => exact nopeE' h (by simp only [gMaxL, es, eb])
        | some bs =>
          by_cases hl : 0 < bs.length
          · simp only [gMaxL, es, eb, hl, if_true] at h
            obtain ⟨p, ys, rfl, hs, r⟩ := lst_of S r1 es
            rw [ints_of r eb] at hs
            refine ⟨p, bs, rfl, hs, hl, fun k h1 h2 => ?_⟩
            obtain ⟨q1, q2⟩ := max_is hl
            have e : k = maxI bs := Int.le_antisymm (q2 k h1) (h2 _ q1)
            rw [e]
            exact h.val S _ (.int _)
          · exact nopeE' h (by simp only [gMaxL, es, eb, hl, if_false])
/-! ### methods of lists -/
/-- the receiver is a list of the store -/
def isL (x : W) (s : Sto) : Bool := match x with
  | .ref n => match s[n]? with
    | some (.lst _) => true
    | _ => false
  | _ => false
theorem isL_ty {m : List Addr} {H : Hp} {s : Sto} {x : W} {v : V} (S : SR K m H s) (r : R K m H x v) (h : isL x s = true) : tyV K "list" v H := by
  cases r with
  | @ref n a h1 =>
    cases e : s[n]? with
    | none => simp only [isL, e] at h; cases h
    | some o =>
      cases o with
      | dct _ => simp only [isL, e] at h; cases h
      | lst ws =>
        obtain ⟨a', h2, vs, h3, h4⟩ := S.at e
        rw [h1] at h2; cases h2
        exact .inl ⟨rfl, vs, SqL.of h3⟩
  | _ => cases h
/-- what a method does to its list -/
def gLm (f : List W → List W → Sto → Option (W × List W)) : W → List W → Sto → Rz W := fun x as s => match x with
  | .ref n => match s[n]? with
    | some (.lst ws) => match f ws as s with
      | some (w, ws') => some (w, s.set n (.lst ws'))
      | none => none
    | _ => none
  | _ => none
theorem f_Lm {r : V → List V → Hp → VK → Prop} {f : List W → List W → Sto → Option (W × List W)}
    (h : ∀ m H s l (ws : List W) (vs : List V) as bs w ws' Q, SR K m H s → H l = some (.lst vs) → RL K m H ws vs → RL K m H as bs → f ws as s = some (w, ws') → (∀ z zs, (∀ m' H', Ext m H m' H' → R K m' H' w z) → (∀ m' H', Ext m H m' H' → RL K m' H' ws' zs) → Q z (upd H l (.lst zs))) → r (.ref l) bs H Q) : MtF K r (gLm f) := by
  intro m H s x v ws vs Q S rx rs hw
  cases rx with
  | @ref n a h1 =>
    cases e : s[n]? with
    | none => exact nopeE' hw (by simp only [gLm, e])
    | some o =>
      cases o with
      | dct _ => exact nopeE' hw (by simp only [gLm, e])
      | lst xs =>
        obtain ⟨a', h2, ys, h3, h4⟩ := S.at e
        rw [h1] at h2; cases h2
        cases ef : f xs ws s with
        | none => exact nopeE' hw (by simp only [gLm, e, ef])
        | some p =>
          obtain ⟨w, ws'⟩ := p
          simp only [gLm, e, ef] at hw
          obtain ⟨w2, s2, e2, q⟩ := hw
          cases e2
          refine h m H s a xs ys ws vs w ws' Q S h3 h4 rs ef fun z zs hz hzs => ?_
          have A := Adv.write S h1 (o := .lst zs)
          exact q m _ z A (S.write h1 ⟨zs, upd_same, hzs m _ A.ext⟩) (hz m _ A.ext)
  | _ => exact nopeE hw
def fAppend : List W → List W → Sto → Option (W × List W) := fun ws as _ => match as with
  | [x] => if ws.length ≤ 100000 then some (.non, ws ++ [x]) else none
  | _ => none
abbrev gAppend := gLm fAppend
theorem f_append : MtF K rAppend gAppend := f_Lm fun m H s l ws vs as bs w ws' Q S hl r ra e q => by
  cases ra with
  | nil => cases e
  | cons a1 a2 =>
    cases a2 with
    | cons _ _ => cases e
    | nil =>
      by_cases hz : ws.length ≤ 100000
      · simp only [fAppend, hz, if_true] at e
        cases e
        exact ⟨l, vs, _, rfl, rfl, hl, szt (by rw [r.len]; exact hz), q .non _ (fun _ _ _ => .non) fun _ _ E => (r.ext E).app (RL.one (a1.ext E))⟩
      · simp only [fAppend, hz, if_false] at e
        cases e
def fPop : List W → List W → Sto → Option (W × List W) := fun ws as _ => match as with
  | [] => match ws[ws.length - 1]? with
    | some x => some (x, ws.dropLast)
    | none => none
  | _ => none
abbrev gPop := gLm fPop
theorem f_pop : MtF K rPop gPop := f_Lm fun m H s l ws vs as bs w ws' Q S hl r ra e q => by
  cases ra with
  | cons a1 a2 => cases e
  | nil =>
    cases ex : ws[ws.length - 1]? with
    | none => simp only [fPop, ex] at e; cases e
    | some x =>
      simp only [fPop, ex] at e
      cases e
      obtain ⟨v, hv, rv⟩ := r.at ex
      exact ⟨l, vs, v, rfl, rfl, hl, by rw [r.len]; exact hv, q v _ (fun _ _ E => rv.ext E) fun _ _ E => (r.ext E).dropLast⟩
def fPopAt : List W → List W → Sto → Option (W × List W) := fun ws as _ => match as with
  | [.int i] => if -(2 ^ 63) ≤ i ∧ i < 2 ^ 63 then match seqIndex? i ws.length with
    | some k => match ws[k]? with
      | some x => some (x, ws.eraseIdx k)
      | none => none
    | none => none
    else none
  | _ => none
abbrev gPopAt := gLm fPopAt
theorem f_popAt : MtF K rPopAt gPopAt := f_Lm fun m H s l ws vs as bs w ws' Q S hl r ra e q => by
  cases ra with
  | nil => cases e
  | cons a1 a2 =>
    cases a2 with
    | cons _ _ => cases a1 <;> cases e
    | nil =>
      cases a1 with
      | int i =>
        by_cases hz : -(2 ^ 63) ≤ i ∧ i < 2 ^ 63
        · simp only [fPopAt, hz, and_self, if_true] at e
          cases ek : seqIndex? i ws.length with
          | none => simp only [ek] at e; cases e
          | some k =>
            simp only [ek] at e
            cases ex : ws[k]? with
            | none => simp only [ex] at e; cases e
            | some x =>
              simp only [ex] at e
              cases e
              obtain ⟨v, hv, rv⟩ := r.at ex
              exact ⟨l, vs, i, k, v, rfl, rfl, hl, hz.1, hz.2, by rw [r.len]; exact ek, hv, q v _ (fun _ _ E => rv.ext E) fun _ _ E => (r.ext E).erase k⟩
        · simp only [fPopAt, hz, if_false] at e
          cases e
      | _ => cases e
/-- extend by a list of the store or a tuple -/
def fExtend : List W → List W → Sto → Option (W × List W) := fun ws as s => match as with
  | [.tup xs] => if ws.length + xs.length ≤ 100000 then some (.non, ws ++ xs) else none
  | [.ref k] => match s[k]? with
    | some (.lst xs) => if ws.length + xs.length ≤ 100000 then some (.non, ws ++ xs) else none
    | _ => none
  | _ => none
abbrev gExtend := gLm fExtend
def rExtA (K : PySem.W.Frag) : V → List V → Hp → VK → Prop := fun x vs H Q => rExtend x vs H Q ∨ Vr.rExtT K x vs H Q
theorem f_extend : MtF K (rExtA K) gExtend := f_Lm fun m H s l ws vs as bs w ws' Q S hl r ra e q => by
  cases ra with
  | nil => cases e
  | cons a1 a2 =>
    cases a2 with
    | cons _ _ => cases a1 <;> cases e
    | nil =>
      cases a1 with
      | @tup p ys xs h1 h2 =>
        by_cases hz : ws.length + xs.length ≤ 100000
        · simp only [fExtend, hz, if_true] at e
          cases e
          exact .inr ⟨l, p, vs, ys, rfl, rfl, hl, h1.sq, szl (by rw [r.len, h2.len]; exact hz), q .non _ (fun _ _ _ => .non) fun _ _ E => (r.ext E).app (h2.ext E)⟩
        · simp only [fExtend, hz, if_false] at e
          cases e
      | @ref k b h1 =>
        cases ek : s[k]? with
        | none => simp only [fExtend, ek] at e; cases e
        | some o =>
          cases o with
          | dct _ => simp only [fExtend, ek] at e; cases e
          | lst xs =>
            simp only [fExtend, ek] at e
            by_cases hz : ws.length + xs.length ≤ 100000
            · simp only [hz, if_true] at e
              cases e
              obtain ⟨b', h2, ys, h3, h4⟩ := S.at ek
              rw [h1] at h2; cases h2
              exact .inl ⟨l, b, vs, ys, rfl, rfl, hl, h3, szl (by rw [r.len, h4.len]; exact hz), q .non _ (fun _ _ _ => .non) fun _ _ E => (r.ext E).app (h4.ext E)⟩
            · simp only [hz, if_false] at e
              cases e
      | _ => cases e
end
section
variable {X : Cx} {e o : Expr} {es : List Expr}
theorem m_bm {T id : String} {name : Str} {apos cpos : Pos} {r : V → List V → Hp → VK → Prop} {c : W → Sto → Bool} {g : W → List W → Sto → Rz W} {f : FE} {fa : FA} (pa : PlainAttrs T) (slot : Slot T name id) (hty : typeOf (.builtin id) = pure (.type "method_descriptor")) (hm : MtR X id r)
    (hc : ∀ m H s x v, SR X.K m H s → R X.K m H x v → c x s = true → tyV X.K T v H) (hg : MtF X.K r g) (ho : PE X o (tF X.K f)) (ha : PA X (e :: es) (tA X.K fa))
    (hbase : attributeBase o name X.env (eval o X.env) = eval o X.env := by rfl)
    (hfew : ((backTo cpos (starEach (e :: es) X.env)).all (fun x => !x.1) && (backToKw cpos (keywordEach [] X.env)).all (fun x => x.1.isSome)
      && decide ((e :: es).length + ([] : List Keyword).length + (if ([] : List Keyword).isEmpty then 0 else 1) < 30)) = true := by rfl)
    (hline : (apos.endLine == cpos.line) = true := by rfl) (hs : starEach (e :: es) X.env = (false, eval e X.env) :: starEach es X.env := by rfl) (hplain : (backTo cpos (starEach es X.env)).any (·.1) = false := by rfl) :
    PE X (.Call (.Attribute o name apos) (e :: es) [] cpos) (tF X.K (eMt c g f fa)) :=
  (pe_bm pa slot hty hm ho ha hbase hfew hline hs hplain).imp fun σ H Q ⟨m, ρ, s, er, sr, w, s', e, q⟩ => by
    obtain ⟨x, s1, e1, e⟩ := bd_inv e
    split at e
    · rename_i hcx
      obtain ⟨xs, s2, e2, e⟩ := bd_inv e
      exact ⟨m, ρ, s, er, sr, x, s1, e1, fun m1 H1 v A1 S1 r1 => ⟨hc m1 H1 s1 x v S1 r1 hcx, m1, ρ, s1, er.adv A1, S1, xs, s2, e2, fun m2 H2 vs A2 S2 r2 => hg m2 H2 s2 x v xs vs Q S2 (r1.adv A2) r2 ⟨w, s', e, fun m3 H3 z A3 => q m3 H3 z ((A1.trans A2).trans A3)⟩⟩⟩
    · cases e
theorem m_bm0 {T id : String} {name : Str} {apos cpos : Pos} {r : V → List V → Hp → VK → Prop} {c : W → Sto → Bool} {g : W → List W → Sto → Rz W} {f : FE} (pa : PlainAttrs T) (slot : Slot T name id) (hty : typeOf (.builtin id) = pure (.type "method_descriptor")) (hm : MtR X id r)
    (hc : ∀ m H s x v, SR X.K m H s → R X.K m H x v → c x s = true → tyV X.K T v H) (hg : MtF X.K r g) (ho : PE X o (tF X.K f))
    (hbase : attributeBase o name X.env (eval o X.env) = eval o X.env := by rfl) (hline : (apos.endLine == cpos.line) = true := by rfl) : PE X (.Call (.Attribute o name apos) [] [] cpos) (tF X.K (eMt c g f aNil)) :=
  (pe_bm0 pa slot hty hm ho hbase hline).imp fun σ H Q ⟨m, ρ, s, er, sr, w, s', e, q⟩ => by
    obtain ⟨x, s1, e1, e⟩ := bd_inv e
    split at e
    · rename_i hcx
      exact ⟨m, ρ, s, er, sr, x, s1, e1, fun m1 H1 v A1 S1 r1 => ⟨hc m1 H1 s1 x v S1 r1 hcx, hg m1 H1 s1 x v [] [] Q S1 r1 .nil ⟨w, s', e, fun m3 H3 z A3 => q m3 H3 z (A1.trans A3)⟩⟩⟩
    · cases e
theorem m_append {f : FE} {fa : FA} {apos cpos : Pos} (ho : PE X o (tF X.K f)) (ha : PA X [e] (tA X.K fa)) (hbase : attributeBase o "append" X.env (eval o X.env) = eval o X.env := by rfl)
    (hfew : ((backTo cpos (starEach [e] X.env)).all (fun x => !x.1) && (backToKw cpos (keywordEach [] X.env)).all (fun x => x.1.isSome)
      && decide ([e].length + ([] : List Keyword).length + (if ([] : List Keyword).isEmpty then 0 else 1) < 30)) = true := by rfl)
    (hline : (apos.endLine == cpos.line) = true := by rfl) (hs : starEach [e] X.env = (false, eval e X.env) :: starEach [] X.env := by rfl) (hplain : (backTo cpos (starEach [] X.env)).any (·.1) = false := by rfl) :
    PE X (.Call (.Attribute o "append" apos) [e] [] cpos) (tF X.K (eMt isL gAppend f fa)) :=
  m_bm PySem.F.plainAttrs_list PySem.F.slot_list_append PySem.F.type_list_append mt_append (fun _ _ _ _ _ S r h => isL_ty S r h) f_append ho ha hbase hfew hline hs hplain
theorem m_extend {f : FE} {fa : FA} {apos cpos : Pos} (ho : PE X o (tF X.K f)) (ha : PA X [e] (tA X.K fa)) (hbase : attributeBase o "extend" X.env (eval o X.env) = eval o X.env := by rfl)
    (hfew : ((backTo cpos (starEach [e] X.env)).all (fun x => !x.1) && (backToKw cpos (keywordEach [] X.env)).all (fun x => x.1.isSome)
      && decide ([e].length + ([] : List Keyword).length + (if ([] : List Keyword).isEmpty then 0 else 1) < 30)) = true := by rfl)
    (hline : (apos.endLine == cpos.line) = true := by rfl) (hs : starEach [e] X.env = (false, eval e X.env) :: starEach [] X.env := by rfl) (hplain : (backTo cpos (starEach [] X.env)).any (·.1) = false := by rfl) :
    PE X (.Call (.Attribute o "extend" apos) [e] [] cpos) (tF X.K (eMt isL gExtend f fa)) :=
  m_bm PySem.F.plainAttrs_list PySem.F.slot_list_extend PySem.F.type_list_extend (MtR.or (show MtR X "list.extend" rExtend from mt_extend) Vr.mt_extendT) (fun _ _ _ _ _ S r h => isL_ty S r h) f_extend ho ha hbase hfew hline hs hplain
theorem m_pop {f : FE} {apos cpos : Pos} (ho : PE X o (tF X.K f)) (hbase : attributeBase o "pop" X.env (eval o X.env) = eval o X.env := by rfl) (hline : (apos.endLine == cpos.line) = true := by rfl) :
    PE X (.Call (.Attribute o "pop" apos) [] [] cpos) (tF X.K (eMt isL gPop f aNil)) :=
  m_bm0 PySem.F.plainAttrs_list PySem.F.slot_list_pop PySem.F.type_list_pop mt_pop (fun _ _ _ _ _ S r h => isL_ty S r h) f_pop ho hbase hline
theorem m_popAt {f : FE} {fa : FA} {apos cpos : Pos} (ho : PE X o (tF X.K f)) (ha : PA X [e] (tA X.K fa)) (hbase : attributeBase o "pop" X.env (eval o X.env) = eval o X.env := by rfl)
    (hfew : ((backTo cpos (starEach [e] X.env)).all (fun x => !x.1) && (backToKw cpos (keywordEach [] X.env)).all (fun x => x.1.isSome)
      && decide ([e].length + ([] : List Keyword).length + (if ([] : List Keyword).isEmpty then 0 else 1) < 30)) = true := by rfl)
    (hline : (apos.endLine == cpos.line) = true := by rfl) (hs : starEach [e] X.env = (false, eval e X.env) :: starEach [] X.env := by rfl) (hplain : (backTo cpos (starEach [] X.env)).any (·.1) = false := by rfl) :
    PE X (.Call (.Attribute o "pop" apos) [e] [] cpos) (tF X.K (eMt isL gPopAt f fa)) :=
  m_bm PySem.F.plainAttrs_list PySem.F.slot_list_pop PySem.F.type_list_pop mt_popAt (fun _ _ _ _ _ S r h => isL_ty S r h) f_popAt ho ha hbase hfew hline hs hplain
end
end Mir

set_option Elab.async false
set_option linter.all false
set_option maxRecDepth 100000
namespace Mir
open PySem PySem.Spec PyProof.Rows L2
theorem _root_.L2.PI.or {X : Cx} {tg iter : Expr} {t u : TI} (h1 : PI X tg iter t) (h2 : PI X tg iter u) : PI X tg iter (fun σ H R => t σ H R ∨ u σ H R) := ⟨fun pins s σ H R I h => h.elim (h1.run pins s σ H R I) (h2.run pins s σ H R I)⟩
section
variable {K : PySem.W.Frag} {m : List Addr} {H : Hp}
/-- what has to stay while x is walked -/
def chkOf (x : W) (ws : List W) : Option (Nat × List W) := match x with
  | .ref n => some (n, ws)
  | _ => none
theorem list_stay {s s' : Sto} {m' : List Addr} {H' : Hp} {x : W} {a : Addr} {ws : List W} (r : R K m H x (.ref a)) (h : lstOf x s = some ws) (A : Adv m H m' H') (S : SR K m' H' s') (c : okc (chkOf x ws) s') : ∃ vs, SqL K H' a vs ∧ RL K m' H' ws vs := by
  cases r with
  | tup => cases h
  | lro h1 h2 => cases h; exact ⟨_, (h1.ext A.ext).sq, h2.adv A⟩
  | @ref n a h1 =>
    obtain ⟨a', h2, vs, h3, h4⟩ := S.at (show s'[n]? = some (.lst ws) from c)
    rw [A.get h1] at h2; cases h2
    exact ⟨vs, SqL.of h3, h4⟩
theorem tup_stay {m' : List Addr} {H' : Hp} {a : Addr} {ws : List W} (r : R K m H (.tup ws) (.ref a)) (A : Adv m H m' H') : ∃ vs, SqT K H' a vs ∧ RL K m' H' ws vs := by
  cases r with
  | tup h1 h2 => exact ⟨_, (h1.ext A.ext).sq, h2.adv A⟩
theorem it_list {s : Sto} {x : W} {a : Addr} {ws : List W} (r : R K m H x (.ref a)) (h : lstOf x s = some ws) : ItOk K (Itl K a) m H ws (chkOf x ws) where
  go := fun m' H' s' i w A S c hi => by
    obtain ⟨vs, q, rl⟩ := list_stay r h A S c
    obtain ⟨v, hv, rv⟩ := rl.at hi
    refine ⟨⟨vs, v, q, hv⟩, fun v' H2 y => ?_⟩
    obtain ⟨rfl, y⟩ := y
    have e := y vs q
    rw [hv] at e; cases e
    exact ⟨m', Adv.refl _ _, S, rv⟩
  stop := fun m' H' s' A S c => by
    obtain ⟨vs, q, rl⟩ := list_stay r h A S c
    exact ⟨vs, q, by rw [rl.len]; exact Nat.le_refl _⟩
theorem it_tup {a : Addr} {ws : List W} (r : R K m H (.tup ws) (.ref a)) : ItOk K (Itt K a) m H ws none where
  go := fun m' H' s' i w A S c hi => by
    obtain ⟨vs, q, rl⟩ := tup_stay r A
    obtain ⟨v, hv, rv⟩ := rl.at hi
    refine ⟨⟨vs, v, q, hv⟩, fun v' H2 y => ?_⟩
    obtain ⟨rfl, y⟩ := y
    have e := y vs q
    rw [hv] at e; cases e
    exact ⟨m', Adv.refl _ _, S, rv⟩
  stop := fun m' H' s' A S c => by
    obtain ⟨vs, q, rl⟩ := tup_stay r A
    exact ⟨vs, q, by rw [rl.len]; exact Nat.le_refl _⟩
theorem it_rng {lo : Int} {n : Nat} : ItOk K (Itr lo n) m H ((List.range n).map fun (i : Nat) => W.int (lo + (i : Int))) none where
  go := fun m' H' s' i w A S c hi => by
    rw [List.getElem?_map] at hi
    cases e : (List.range n)[i]? with
    | none => rw [e] at hi; cases hi
    | some j =>
      rw [e] at hi
      cases hi
      obtain ⟨h1, h2⟩ := List.getElem?_eq_some_iff.mp e
      rw [List.getElem_range] at h2
      subst h2
      rw [List.length_range] at h1
      refine ⟨h1, fun v' H2 y => ?_⟩
      obtain ⟨rfl, rfl⟩ := y
      exact ⟨m', Adv.refl _ _, S, .int _⟩
  stop := fun m' H' s' A S c => by
    show n ≤ _
    rw [List.length_map, List.length_range]
    exact Nat.le_refl _
/-- pairs with their number -/
def enumW (ws : List W) : List W := ws.zipIdx.map fun p => W.tup [.int (p.2 : Int), p.1]
theorem enum_at {ws : List W} {i : Nat} {w : W} (h : (enumW ws)[i]? = some w) : ∃ x, ws[i]? = some x ∧ w = .tup [.int (i : Int), x] := by
  unfold enumW at h
  rw [List.getElem?_map, List.getElem?_zipIdx] at h
  cases e : ws[i]? with
  | none => rw [e] at h; cases h
  | some x =>
    rw [e] at h
    cases h
    exact ⟨x, rfl, by simp⟩
theorem enum_len (ws : List W) : (enumW ws).length = ws.length := by unfold enumW; rw [List.length_map, List.length_zipIdx]
theorem new_pair {s : Sto} {w1 w2 : W} {v1 v2 : V} {T : Addr} (S : SR K m H s) (r1 : R K m H w1 v1) (r2 : R K m H w2 v2) (hT : H T = none) : ∃ m', Adv m H m' (upd H T (.tup [v1, v2])) ∧ SR K m' (upd H T (.tup [v1, v2])) s ∧ R K m' (upd H T (.tup [v1, v2])) (.tup [w1, w2]) (.ref T) :=
  ⟨m, Adv.fresh hT, S.fresh hT, .tup (.inl upd_same) (.cons (r1.adv (Adv.fresh hT)) (.cons (r2.adv (Adv.fresh hT)) .nil))⟩
theorem it_enumL {s : Sto} {x : W} {a : Addr} {ws : List W} (r : R K m H x (.ref a)) (h : lstOf x s = some ws) : ItOk K (Ite K a) m H (enumW ws) (chkOf x ws) where
  go := fun m' H' s' i w A S c hi => by
    obtain ⟨x, hx, rfl⟩ := enum_at hi
    obtain ⟨vs, q, rl⟩ := list_stay r h A S c
    obtain ⟨v, hv, rv⟩ := rl.at hx
    refine ⟨⟨vs, v, q, hv⟩, fun v' H2 y => ?_⟩
    obtain ⟨T, x', rfl, hT, rfl, y⟩ := y
    have e := y vs q
    rw [hv] at e; cases e
    exact new_pair S (.int _) rv hT
  stop := fun m' H' s' A S c => by
    obtain ⟨vs, q, rl⟩ := list_stay r h A S c
    exact ⟨vs, q, by rw [rl.len, enum_len]; exact Nat.le_refl _⟩
theorem it_enumT {a : Addr} {ws : List W} (r : R K m H (.tup ws) (.ref a)) : ItOk K (Vr.IteT K a) m H (enumW ws) none where
  go := fun m' H' s' i w A S c hi => by
    obtain ⟨x, hx, rfl⟩ := enum_at hi
    obtain ⟨vs, q, rl⟩ := tup_stay r A
    obtain ⟨v, hv, rv⟩ := rl.at hx
    refine ⟨⟨vs, v, q, hv⟩, fun v' H2 y => ?_⟩
    obtain ⟨T, x', rfl, hT, rfl, y⟩ := y
    have e := y vs q
    rw [hv] at e; cases e
    exact new_pair S (.int _) rv hT
  stop := fun m' H' s' A S c => by
    obtain ⟨vs, q, rl⟩ := tup_stay r A
    exact ⟨vs, q, by rw [rl.len, enum_len]; exact Nat.le_refl _⟩
def zipW (ws us : List W) : List W := List.zipWith (fun a b => W.tup [a, b]) ws us
theorem zip_at {ws us : List W} {i : Nat} {w : W} (h : (zipW ws us)[i]? = some w) : ∃ x y, ws[i]? = some x ∧ us[i]? = some y ∧ w = .tup [x, y] := by
  unfold zipW at h
  rw [List.getElem?_zipWith] at h
  cases e1 : ws[i]? with
  | none => rw [e1] at h; cases h
  | some x =>
    cases e2 : us[i]? with
    | none => rw [e1, e2] at h; cases h
    | some y =>
      rw [e1, e2] at h
      cases h
      exact ⟨x, y, rfl, rfl, rfl⟩
theorem zip_len (ws us : List W) : ws.length ≤ (zipW ws us).length ∨ us.length ≤ (zipW ws us).length := by
  unfold zipW
  rw [List.length_zipWith]
  omega
theorem it_zipT {a b : Addr} {ws us : List W} (r : R K m H (.tup ws) (.ref a)) (r' : R K m H (.tup us) (.ref b)) : ItOk K (RZ.ItzT K a b) m H (zipW ws us) none where
  go := fun m' H' s' i w A S c hi => by
    obtain ⟨x, y, hx, hy, rfl⟩ := zip_at hi
    obtain ⟨vs, q, rl⟩ := tup_stay r A
    obtain ⟨vs', q', rl'⟩ := tup_stay r' A
    obtain ⟨v, hv, rv⟩ := rl.at hx
    obtain ⟨v', hv', rv'⟩ := rl'.at hy
    refine ⟨⟨vs, vs', v, v', q, q', hv, hv'⟩, fun v2 H2 z => ?_⟩
    obtain ⟨T, x', y', rfl, hT, rfl, z1, z2⟩ := z
    have e := z1 vs q
    rw [hv] at e; cases e
    have e := z2 vs' q'
    rw [hv'] at e; cases e
    exact new_pair S rv rv' hT
  stop := fun m' H' s' A S c => by
    obtain ⟨vs, q, rl⟩ := tup_stay r A
    obtain ⟨vs', q', rl'⟩ := tup_stay r' A
    exact ⟨vs, vs', q, q', by rw [rl.len, rl'.len]; exact zip_len ws us⟩
theorem it_zipL {s : Sto} {x y : W} {a b : Addr} {ws us : List W} (r : R K m H x (.ref a)) (r' : R K m H y (.ref b)) (h : lstOf x s = some ws) (h' : lstOf y s = some us) (hn : chkOf x ws = none ∨ chkOf y us = none ∨ chkOf x ws = chkOf y us) : ItOk K (Itz K a b) m H (zipW ws us) (if (chkOf x ws).isSome then chkOf x ws else chkOf y us) := by
  have cc : ∀ s', okc (if (chkOf x ws).isSome then chkOf x ws else chkOf y us) s' → okc (chkOf x ws) s' ∧ okc (chkOf y us) s' := fun s' c => by
    rcases hn with e | e | e
    · rw [e] at c ⊢; exact ⟨trivial, c⟩
    · rw [e] at c ⊢
      cases q : chkOf x ws with
      | none => exact ⟨trivial, trivial⟩
      | some p => rw [q] at c; exact ⟨c, trivial⟩
    · rw [e] at c ⊢
      have c : okc (chkOf y us) s' := by split at c <;> exact c
      exact ⟨c, c⟩
  refine ⟨fun m' H' s' i w A S c hi => ?_, fun m' H' s' A S c => ?_⟩
  · obtain ⟨c1, c2⟩ := cc s' c
    obtain ⟨x, y, hx, hy, rfl⟩ := zip_at hi
    obtain ⟨vs, q, rl⟩ := list_stay r h A S c1
    obtain ⟨vs', q', rl'⟩ := list_stay r' h' A S c2
    obtain ⟨v, hv, rv⟩ := rl.at hx
    obtain ⟨v', hv', rv'⟩ := rl'.at hy
    refine ⟨⟨vs, vs', v, v', q, q', hv, hv'⟩, fun v2 H2 z => ?_⟩
    obtain ⟨T, x', y', rfl, hT, rfl, z1, z2⟩ := z
    have e := z1 vs q
    rw [hv] at e; cases e
    have e := z2 vs' q'
    rw [hv'] at e; cases e
    exact new_pair S rv rv' hT
  · obtain ⟨c1, c2⟩ := cc s' c
    obtain ⟨vs, q, rl⟩ := list_stay r h A S c1
    obtain ⟨vs', q', rl'⟩ := list_stay r' h' A S c2
    exact ⟨vs, vs', q, q', by rw [rl.len, rl'.len]; exact zip_len ws us⟩
theorem rev_at {ws : List W} {i : Nat} {w : W} (h : ws.reverse[i]? = some w) : i < ws.length ∧ ws[ws.length - 1 - i]? = some w := by
  have hi := (List.getElem?_eq_some_iff.mp h).1
  rw [List.length_reverse] at hi
  rw [List.getElem?_reverse hi] at h
  exact ⟨hi, h⟩
theorem it_revT {a : Addr} {ws : List W} (r : R K m H (.tup ws) (.ref a)) : ItOk K (RT.ItvT K a ws.length) m H ws.reverse none where
  go := fun m' H' s' i w A S c hi => by
    obtain ⟨hl, hx⟩ := rev_at hi
    obtain ⟨vs, q, rl⟩ := tup_stay r A
    obtain ⟨v, hv, rv⟩ := rl.at hx
    refine ⟨⟨hl, vs, v, q, hv⟩, fun v' H2 y => ?_⟩
    obtain ⟨rfl, y⟩ := y
    have e := y vs q
    rw [hv] at e; cases e
    exact ⟨m', Adv.refl _ _, S, rv⟩
  stop := fun m' H' s' A S c => by
    show _ ≤ _
    rw [List.length_reverse]
    exact Nat.le_refl _
theorem it_revL {s : Sto} {x : W} {a : Addr} {ws : List W} (r : R K m H x (.ref a)) (h : lstOf x s = some ws) : ItOk K (Itv K a ws.length) m H ws.reverse (chkOf x ws) where
  go := fun m' H' s' i w A S c hi => by
    obtain ⟨hl, hx⟩ := rev_at hi
    obtain ⟨vs, q, rl⟩ := list_stay r h A S c
    obtain ⟨v, hv, rv⟩ := rl.at hx
    refine ⟨⟨hl, vs, v, q, hv⟩, fun v' H2 y => ?_⟩
    obtain ⟨rfl, y⟩ := y
    have e := y vs q
    rw [hv] at e; cases e
    exact ⟨m', Adv.refl _ _, S, rv⟩
  stop := fun m' H' s' A S c => by
    show _ ≤ _
    rw [List.length_reverse]
    exact Nat.le_refl _
/-- the signs of a text -/
def signsW (z : Str) : List W := z.cps.toList.map fun c => W.str ⟨#[c]⟩
theorem it_str {z : Str} : ItOk K (Its z) m H (signsW z) none where
  go := fun m' H' s' i w A S c hi => by
    unfold signsW at hi
    rw [List.getElem?_map] at hi
    cases e : z.cps.toList[i]? with
    | none => rw [e] at hi; cases hi
    | some cc =>
      rw [e] at hi
      cases hi
      have hl : i < z.cps.size := by simpa using (List.getElem?_eq_some_iff.mp e).1
      refine ⟨hl, fun v' H2 y => ?_⟩
      obtain ⟨rfl, c2, hc2, rfl⟩ := y
      have e2 : z.cps[i]? = some cc := by simpa using e
      rw [e2] at hc2; cases hc2
      exact ⟨m', Adv.refl _ _, S, .str _⟩
  stop := fun m' H' s' A S c => by
    show _ ≤ _
    unfold signsW
    rw [List.length_map]
    simp
end
/-! ### what stands behind «in» of a for -/
def iSeq (f : FE) : FI := fun ρ s => bd (f ρ s) fun x s1 => match x with
  | .tup ws => some ((ws, none), s1)
  | .str z => some ((signsW z, none), s1)
  | x => match lstOf x s1 with
    | some ws => some ((ws, chkOf x ws), s1)
    | none => none
def iEnu (f : FE) : FI := fun ρ s => bd (f ρ s) fun x s1 => match x with
  | .tup ws => some ((enumW ws, none), s1)
  | x => match lstOf x s1 with
    | some ws => some ((enumW ws, chkOf x ws), s1)
    | none => none
def iRev (f : FE) : FI := fun ρ s => bd (f ρ s) fun x s1 => match x with
  | .tup ws => some ((ws.reverse, none), s1)
  | x => match lstOf x s1 with
    | some ws => some ((ws.reverse, chkOf x ws), s1)
    | none => none
open Classical in
noncomputable def iZip (f g : FE) : FI := fun ρ s => bd (f ρ s) fun x s1 => bd (g ρ s1) fun y s2 => match x, y with
  | .tup ws, .tup us => some ((zipW ws us, none), s2)
  | x, y => match lstOf x s2, lstOf y s2 with
    | some ws, some us => if chkOf x ws = none ∨ chkOf y us = none ∨ chkOf x ws = chkOf y us then some ((zipW ws us, if (chkOf x ws).isSome then chkOf x ws else chkOf y us), s2) else none
    | _, _ => none
def iRng1 (f : FE) : FI := fun ρ s => bd (f ρ s) fun x s1 => match x with
  | .int j => if -(2 ^ 62) ≤ j ∧ j < 2 ^ 62 then some (((List.range j.toNat).map fun (i : Nat) => W.int (0 + (i : Int)), none), s1) else none
  | _ => none
def iRng2 (f g : FE) : FI := fun ρ s => bd (f ρ s) fun x s1 => bd (g ρ s1) fun y s2 => match x, y with
  | .int i, .int j => if -(2 ^ 62) ≤ i ∧ i < 2 ^ 62 ∧ -(2 ^ 62) ≤ j ∧ j < 2 ^ 62 then some (((List.range (j - i).toNat).map fun (k : Nat) => W.int (i + (k : Int)), none), s2) else none
  | _, _ => none
section
variable {X : Cx} {tg e e2 : Expr} {pos : Pos}
theorem seq_tI {f : FE} : ∀ σ H R, tI X.K (iSeq f) σ H R → (iList X.K (tF X.K f) σ H R ∨ iTup X.K (tF X.K f) σ H R) ∨ iStr (tF X.K f) σ H R := by
  rintro σ H R' ⟨m, ρ, s, er, sr, xs, c, s', e, q⟩
  obtain ⟨x, s1, e1, e⟩ := bd_inv e
  have lst : ∀ {ws}, lstOf x s1 = some ws → some ((ws, chkOf x ws), s1) = some ((xs, c), s') → iList X.K (tF X.K f) σ H R' := fun {ws} hl e => by
    cases e
    refine ⟨m, ρ, s, er, sr, x, _, e1, fun m1 H1 v A1 S1 r1 => ?_⟩
    obtain ⟨p, vs, rfl, h1, h2⟩ := lst_of S1 r1 hl
    exact ⟨p, rfl, ⟨vs, h1⟩, q m1 H1 _ A1 S1 (it_list r1 hl)⟩
  cases x with
  | tup ws =>
    cases e
    refine .inl (.inr ⟨m, ρ, s, er, sr, _, _, e1, fun m1 H1 v A1 S1 r1 => ?_⟩)
    have r1' := r1
    cases r1 with
    | tup h1 h2 => exact ⟨_, rfl, ⟨_, h1.sq⟩, q m1 H1 _ A1 S1 (it_tup r1')⟩
  | str z =>
    cases e
    refine .inr ⟨m, ρ, s, er, sr, _, _, e1, fun m1 H1 v A1 S1 r1 => ?_⟩
    cases r1
    exact ⟨z, rfl, q m1 H1 _ A1 S1 it_str⟩
  | ref n =>
    cases hl : lstOf (.ref n) s1 with
    | none => simp only [hl] at e; cases e
    | some ws => simp only [hl] at e; exact .inl (.inl (lst hl e))
  | lro ws' =>
    cases hl : lstOf (.lro ws') s1 with
    | none => simp only [hl] at e; cases e
    | some ws => simp only [hl] at e; exact .inl (.inl (lst hl e))
  | _ => cases e
theorem mi_seq {f : FE} (h : PE X e (tF X.K f)) : PI X tg e (tI X.K (iSeq f)) := (((pi_list h).or (pi_tup h)).or (pi_str h)).imp seq_tI
theorem mi_enum {p tpos : Pos} {elts : List Expr} {kk : Nat} {f : FE} (hg : Gl X "enumerate") (hm : X.mg "enumerate" = none) (h : PE X e (tF X.K f)) (hs1 : starEach [e] X.env = (false, eval e X.env) :: starEach [] X.env := by rfl) (hs : starEach [e] X.env = [(false, eval e X.env)] := by rfl) :
    PI X (.Tuple elts kk tpos) (.Call (.Name "enumerate" p) [e] [] pos) (tI X.K (iEnu f)) :=
  ((pi_enum hg hm (ma_cons h ma_nil hs1) hs).or (Vr.pi_enumT hg hm (ma_cons h ma_nil hs1) hs)).imp fun σ H R' ⟨m, ρ, s, er, sr, xs, c, s', e, q⟩ => by
    obtain ⟨x, s1, e1, e⟩ := bd_inv e
    have ea : aCons f aNil ρ s = some ([x], s1) := by unfold aCons; rw [e1]; rfl
    have lst : ∀ {ws}, lstOf x s1 = some ws → some ((enumW ws, chkOf x ws), s1) = some ((xs, c), s') → iEnum X.K (tA X.K (aCons f aNil)) σ H R' := fun {ws} hl e => by
      cases e
      refine ⟨m, ρ, s, er, sr, [x], _, ea, fun m1 H1 v A1 S1 r1 => ?_⟩
      cases r1 with
      | cons r1 r2 =>
        cases r2
        obtain ⟨p, vs, rfl, h1, h2⟩ := lst_of S1 r1 hl
        exact ⟨p, vs, rfl, h1, q m1 H1 _ A1 S1 (it_enumL r1 hl)⟩
    cases x with
    | tup ws =>
      cases e
      refine .inr ⟨m, ρ, s, er, sr, _, _, ea, fun m1 H1 v A1 S1 r1 => ?_⟩
      cases r1 with
      | cons r1 r2 =>
        cases r2
        have r1' := r1
        cases r1 with
        | tup h1 h2 => exact ⟨_, _, rfl, h1.sq, q m1 H1 _ A1 S1 (it_enumT r1')⟩
    | ref n =>
      cases hl : lstOf (.ref n) s1 with
      | none => simp only [hl] at e; cases e
      | some ws => simp only [hl] at e; exact .inl (lst hl e)
    | lro ws' =>
      cases hl : lstOf (.lro ws') s1 with
      | none => simp only [hl] at e; cases e
      | some ws => simp only [hl] at e; exact .inl (lst hl e)
    | _ => cases e
theorem mi_rev {p : Pos} {f : FE} (hg : Gl X "reversed") (hm : X.mg "reversed" = none) (h : PE X e (tF X.K f)) (hs1 : starEach [e] X.env = (false, eval e X.env) :: starEach [] X.env := by rfl) :
    PI X tg (.Call (.Name "reversed" p) [e] [] pos) (tI X.K (iRev f)) :=
  (RT.pi_revA hg hm h hs1).imp fun σ H R' ⟨m, ρ, s, er, sr, xs, c, s', e, q⟩ => by
    obtain ⟨x, s1, e1, e⟩ := bd_inv e
    refine ⟨m, ρ, s, er, sr, x, s1, e1, fun m1 H1 v A1 S1 r1 => ?_⟩
    have lst : ∀ {ws}, lstOf x s1 = some ws → some ((ws.reverse, chkOf x ws), s1) = some ((xs, c), s') → ∃ (a : Addr) (xs : List V), v = .ref a ∧ ((SqL X.K H1 a xs ∧ R' (Itv X.K a xs.length) H1) ∨ (SqT X.K H1 a xs ∧ R' (RT.ItvT X.K a xs.length) H1)) := fun {ws} hl e => by
      cases e
      obtain ⟨p, vs, rfl, h1, h2⟩ := lst_of S1 r1 hl
      refine ⟨p, vs, rfl, .inl ⟨h1, ?_⟩⟩
      rw [h2.len]
      exact q m1 H1 _ A1 S1 (it_revL r1 hl)
    cases x with
    | tup ws =>
      cases e
      have r1' := r1
      cases r1 with
      | tup h1 h2 =>
        refine ⟨_, _, rfl, .inr ⟨h1.sq, ?_⟩⟩
        rw [h2.len]
        exact q m1 H1 _ A1 S1 (it_revT r1')
    | ref n =>
      cases hl : lstOf (.ref n) s1 with
      | none => simp only [hl] at e; cases e
      | some ws => simp only [hl] at e; exact lst hl e
    | lro ws' =>
      cases hl : lstOf (.lro ws') s1 with
      | none => simp only [hl] at e; cases e
      | some ws => simp only [hl] at e; exact lst hl e
    | _ => cases e
theorem mi_rng1 {p : Pos} {f : FE} (hg : Gl X "range") (hm : X.mg "range" = none) (h : PE X e (tF X.K f)) (hs1 : starEach [e] X.env = (false, eval e X.env) :: starEach [] X.env := by rfl) (hs : starEach [e] X.env = [(false, eval e X.env)] := by rfl) :
    PI X tg (.Call (.Name "range" p) [e] [] pos) (tI X.K (iRng1 f)) :=
  (pi_range1 hg hm (ma_cons h ma_nil hs1) hs).imp fun σ H R' ⟨m, ρ, s, er, sr, xs, c, s', e, q⟩ => by
    obtain ⟨x, s1, e1, e⟩ := bd_inv e
    have ea : aCons f aNil ρ s = some ([x], s1) := by unfold aCons; rw [e1]; rfl
    refine ⟨m, ρ, s, er, sr, [x], s1, ea, fun m1 H1 v A1 S1 r1 => ?_⟩
    cases r1 with
    | cons r1 r2 =>
      cases r2
      cases r1 with
      | int j =>
        by_cases hj : -(2 ^ 62) ≤ j ∧ j < 2 ^ 62
        · simp only [hj, and_self, if_true] at e
          cases e
          exact ⟨j, rfl, hj.1, hj.2, q m1 H1 _ A1 S1 it_rng⟩
        · simp only [hj, if_false] at e
          cases e
      | _ => cases e
theorem mi_rng2 {p : Pos} {f g : FE} (hg : Gl X "range") (hm : X.mg "range" = none) (h : PE X e (tF X.K f)) (h2 : PE X e2 (tF X.K g)) (hs1 : starEach [e, e2] X.env = (false, eval e X.env) :: starEach [e2] X.env := by rfl) (hs2 : starEach [e2] X.env = (false, eval e2 X.env) :: starEach [] X.env := by rfl) (hs : starEach [e, e2] X.env = [(false, eval e X.env), (false, eval e2 X.env)] := by rfl) (hs3 : starEach [e2] X.env = [(false, eval e2 X.env)] := by rfl) :
    PI X tg (.Call (.Name "range" p) [e, e2] [] pos) (tI X.K (iRng2 f g)) :=
  (pi_range2 hg hm (ma_cons h (ma_cons h2 ma_nil hs2) hs1) hs hs3).imp fun σ H R' ⟨m, ρ, s, er, sr, xs, c, s', e, q⟩ => by
    obtain ⟨x, s1, e1, e⟩ := bd_inv e
    obtain ⟨y, s2, e2, e⟩ := bd_inv e
    have ea : aCons f (aCons g aNil) ρ s = some ([x, y], s2) := by simp only [aCons, e1, bd, e2, aNil]
    refine ⟨m, ρ, s, er, sr, [x, y], s2, ea, fun m1 H1 v A1 S1 r1 => ?_⟩
    cases r1 with
    | cons r1 r2 =>
      cases r2 with
      | cons r2 r3 =>
        cases r3
        cases r1 with
        | int i =>
          cases r2 with
          | int j =>
            by_cases hj : -(2 ^ 62) ≤ i ∧ i < 2 ^ 62 ∧ -(2 ^ 62) ≤ j ∧ j < 2 ^ 62
            · simp only [hj, and_self, if_true] at e
              cases e
              exact ⟨i, j, rfl, hj, q m1 H1 _ A1 S1 it_rng⟩
            · simp only [hj, if_false] at e
              cases e
          | _ => cases e
        | _ => cases e
open Classical in
theorem mi_zip {p tpos : Pos} {elts : List Expr} {kk : Nat} {f g : FE} (hg : Gl X "zip") (hm : X.mg "zip" = none) (h : PE X e (tF X.K f)) (h2 : PE X e2 (tF X.K g)) (hs1 : starEach [e, e2] X.env = (false, eval e X.env) :: starEach [e2] X.env := by rfl) (hs2 : starEach [e2] X.env = (false, eval e2 X.env) :: starEach [] X.env := by rfl)
    (hpl : (backTo pos (starEach [e2] X.env)).any (·.1) = false := by rfl) : PI X (.Tuple elts kk tpos) (.Call (.Name "zip" p) [e, e2] [] pos) (tI X.K (iZip f g)) :=
  (RZ.pi_zipA hg hm (ma_cons h (ma_cons h2 ma_nil hs2) hs1) hs1 hpl).imp fun σ H R' ⟨m, ρ, s, er, sr, xs, c, s', e, q⟩ => by
    obtain ⟨x, s1, e1, e⟩ := bd_inv e
    obtain ⟨y, s2, e2, e⟩ := bd_inv e
    have ea : aCons f (aCons g aNil) ρ s = some ([x, y], s2) := by simp only [aCons, e1, bd, e2, aNil]
    refine ⟨m, ρ, s, er, sr, [x, y], s2, ea, fun m1 H1 v A1 S1 r1 => ?_⟩
    cases r1 with
    | @cons _ v1 _ _ r1 r2 =>
      cases r2 with
      | @cons _ v2 _ _ r2 r3 =>
        cases r3
        have lst : ∀ {ws us}, lstOf x s2 = some ws → lstOf y s2 = some us → (if chkOf x ws = none ∨ chkOf y us = none ∨ chkOf x ws = chkOf y us then some ((zipW ws us, if (chkOf x ws).isSome then chkOf x ws else chkOf y us), s2) else none) = some ((xs, c), s') → _ := fun {ws us} hl hl2 e =>
          show ∃ a b xs ys, [v1, v2] = [.ref a, .ref b] ∧ ((SqL X.K H1 a xs ∧ SqL X.K H1 b ys ∧ R' (Itz X.K a b) H1) ∨ (SqT X.K H1 a xs ∧ SqT X.K H1 b ys ∧ R' (RZ.ItzT X.K a b) H1)) from by
            split at e
            · rename_i hc
              cases e
              obtain ⟨p, vs, rfl, h1, h2⟩ := lst_of S1 r1 hl
              obtain ⟨p2, vs2, rfl, h3, h4⟩ := lst_of S1 r2 hl2
              exact ⟨p, p2, vs, vs2, rfl, .inl ⟨h1, h3, q m1 H1 _ A1 S1 (it_zipL r1 r2 hl hl2 hc)⟩⟩
            · cases e
        have oth : (match lstOf x s2, lstOf y s2 with
            | some ws, some us => if chkOf x ws = none ∨ chkOf y us = none ∨ chkOf x ws = chkOf y us then some ((zipW ws us, if (chkOf x ws).isSome then chkOf x ws else chkOf y us), s2) else none
            | _, _ => none) = some ((xs, c), s') → _ := fun e => by
          cases hl : lstOf x s2 with
          | none => simp only [hl] at e; cases e
          | some ws =>
            cases hl2 : lstOf y s2 with
            | none => simp only [hl, hl2] at e; cases e
            | some us => simp only [hl, hl2] at e; exact lst hl hl2 e
        cases x with
        | tup ws =>
          cases y with
          | tup us =>
            cases e
            have r1' := r1
            have r2' := r2
            cases r1 with
            | tup h1 h2 =>
              cases r2 with
              | tup h3 h4 => exact ⟨_, _, _, _, rfl, .inr ⟨h1.sq, h3.sq, q m1 H1 _ A1 S1 (it_zipT r1' r2')⟩⟩
          | _ => exact oth e
        | _ => exact oth e
end
end Mir

set_option Elab.async false
set_option linter.all false
set_option maxRecDepth 100000
namespace Mir
open PySem PySem.Spec PyProof.Rows L2
section
variable {K : PySem.W.Frag}
/-! ### dicts with int and text keys -/
def keyW : W → Option Key
  | .int i => some (.inl i)
  | .str x => some (.inr x)
  | _ => none
theorem key_of {m : List Addr} {H : Hp} {w : W} {v : V} {k : Key} (r : R K m H w v) (h : keyW w = some k) : v = kV k := by
  cases r <;> first | (cases h; rfl) | cases h
def dcOf (x : W) (s : Sto) : Option (Nat × List (Key × W)) := match x with
  | .ref n => match s[n]? with
    | some (.dct kvs) => some (n, kvs)
    | _ => none
  | _ => none
theorem dc_of {m : List Addr} {H : Hp} {s : Sto} {x : W} {v : V} {n : Nat} {kvs : List (Key × W)} (S : SR K m H s) (r : R K m H x v) (h : dcOf x s = some (n, kvs)) : ∃ a vs, v = .ref a ∧ m[n]? = some a ∧ s[n]? = some (.dct kvs) ∧ H a = some (.dK vs) ∧ RK K m H kvs vs := by
  cases r with
  | @ref n' a h1 =>
    cases e : s[n']? with
    | none => simp only [dcOf, e] at h; cases h
    | some o =>
      cases o with
      | lst _ => simp only [dcOf, e] at h; cases h
      | dct kv' =>
        simp only [dcOf, e] at h
        cases h
        obtain ⟨a', h2, vs, h3, h4⟩ := S.at e
        rw [h1] at h2
        cases h2
        exact ⟨_, _, rfl, h1, e, h3, h4⟩
  | _ => cases h
def look (kvs : List (Key × W)) (k : Key) : Option W := (kvs.find? fun kv => decide (kv.1 = k)).map (·.2)
def put (kvs : List (Key × W)) (k : Key) (w : W) : List (Key × W) := if kvs.any (fun kv => decide (kv.1 = k)) then kvs.map fun kv => if kv.1 = k then (kv.1, w) else kv else kvs ++ [(k, w)]
theorem RK.look {m : List Addr} {H : Hp} {k : Key} : ∀ {kvs : List (Key × W)} {vs : List (Key × V)}, RK K m H kvs vs → (∀ w, look kvs k = some w → ∃ v, valV vs k = some v ∧ R K m H w v) ∧ (look kvs k = none → valV vs k = none)
  | [], vs, r => by cases r; exact ⟨fun w h => (by cases h), fun _ => rfl⟩
  | (k', w') :: kvs, vs, r => by
    cases r with
    | @cons _ _ v' _ vs h1 h2 =>
      obtain ⟨q1, q2⟩ := RK.look (k := k) h2
      by_cases e : k' = k
      · subst e
        refine ⟨fun w h => ?_, fun h => ?_⟩
        · have h : some w' = some w := by simpa [Mir.look, List.find?_cons] using h
          cases h
          exact ⟨v', valV_pos rfl, h1⟩
        · exfalso
          simp [Mir.look, List.find?_cons] at h
      · have e1 : Mir.look ((k', w') :: kvs) k = Mir.look kvs k := by simp [Mir.look, List.find?_cons, e]
        have e2 : valV ((k', v') :: vs) k = valV vs k := valV_neg e
        rw [e1, e2]
        exact ⟨q1, q2⟩
theorem RK.any {m : List Addr} {H : Hp} {k : Key} : ∀ {kvs : List (Key × W)} {vs : List (Key × V)}, RK K m H kvs vs → (vs.any fun kv => decide (kv.1 = k)) = kvs.any fun kv => decide (kv.1 = k)
  | [], vs, r => by cases r; rfl
  | (k', w') :: kvs, vs, r => by
    cases r with
    | cons h1 h2 => rw [List.any_cons, List.any_cons, RK.any h2]
theorem RK.map {m : List Addr} {H : Hp} {k : Key} {w : W} {v : V} (rw_ : R K m H w v) : ∀ {kvs : List (Key × W)} {vs : List (Key × V)}, RK K m H kvs vs → RK K m H (kvs.map fun kv => if kv.1 = k then (kv.1, w) else kv) (vs.map fun kv => if kv.1 = k then (kv.1, v) else kv)
  | [], vs, r => by cases r; exact .nil
  | (k', w') :: kvs, vs, r => by
    cases r with
    | cons h1 h2 =>
      rw [List.map_cons, List.map_cons]
      by_cases e : k' = k
      · simp only [e, if_true]
        exact .cons rw_ (RK.map rw_ h2)
      · simp only [e, if_false]
        exact .cons h1 (RK.map rw_ h2)
theorem RK.app {m : List Addr} {H : Hp} : ∀ {a b : List (Key × W)} {c d : List (Key × V)}, RK K m H a c → RK K m H b d → RK K m H (a ++ b) (c ++ d)
  | [], _, _, _, r, g => by cases r; exact g
  | _ :: _, _, _, _, r, g => by
    cases r with
    | cons h1 h2 => exact .cons h1 (RK.app h2 g)
theorem RK.put {m : List Addr} {H : Hp} {k : Key} {w : W} {v : V} {kvs : List (Key × W)} {vs : List (Key × V)} (r : RK K m H kvs vs) (rw_ : R K m H w v) : RK K m H (put kvs k w) (putK vs k v) := by
  unfold Mir.put putK
  rw [r.any]
  split
  · exact r.map rw_
  · exact r.app (.cons rw_ .nil)
end
section
variable {X : Cx} {o i e f : Expr} {pos : Pos}
def eDget (d y : FE) : FE := fun ρ s => bd (d ρ s) fun x s1 => bd (y ρ s1) fun z s2 => match dcOf x s2, keyW z with
  | some (_, kvs), some k => match look kvs k with
    | some w => some (w, s2)
    | none => none
  | _, _ => none
theorem m_dget {fd fy : FE} (hu : X.A.units + 1 < cLine) (ho : PE X o (tF X.K fd)) (hi : PE X i (tF X.K fy)) (hs : NoSl i) : PE X (.Subscript o i pos) (tF X.K (eDget fd fy)) :=
  (pe_dget hu ho hi hs).imp fun σ H Q ⟨m, ρ, s, er, sr, w, s', e, q⟩ => by
    obtain ⟨x, s1, e1, e⟩ := bd_inv e
    obtain ⟨z, s2, e2, e⟩ := bd_inv e
    refine ⟨m, ρ, s, er, sr, x, s1, e1, fun m1 H1 v A1 S1 r1 => ⟨m1, ρ, s1, er.adv A1, S1, z, s2, e2, fun m2 H2 u A2 S2 r2 => ?_⟩⟩
    cases ed : dcOf x s2 with
    | none => simp only [ed] at e; cases e
    | some p =>
      obtain ⟨n, kvs⟩ := p
      cases ek : keyW z with
      | none => simp only [ed, ek] at e; cases e
      | some k =>
        simp only [ed, ek] at e
        cases el : look kvs k with
        | none => simp only [el] at e; cases e
        | some w' =>
          simp only [el] at e
          cases e
          obtain ⟨a, vs, rfl, hm, hs2, hd, rk⟩ := dc_of S2 (r1.adv A2) ed
          obtain ⟨v', hv, rv⟩ := (rk.look (k := k)).1 _ el
          have hy := key_of r2 ek
          subst hy
          refine ⟨a, v', rfl, ?_, q m2 H2 v' (A1.trans A2) S2 rv⟩
          have g := DGet.k (k := k) hd
          rw [hv] at g
          exact g
def eDin (neg : Bool) (y d : FE) : FE := fun ρ s => bd (y ρ s) fun z s1 => bd (d ρ s1) fun x s2 => match dcOf x s2, keyW z with
  | some (_, kvs), some k => some (.bl (if neg then !(look kvs k).isSome else (look kvs k).isSome), s2)
  | _, _ => none
theorem din_of {fd fy : FE} {neg : Bool} : ∀ σ H Q, tF X.K (eDin neg fy fd) σ H Q → (fun σ H Q => tF X.K fy σ H fun y H1 => tF X.K fd σ H1 fun x H2 => ∃ a o, x = .ref a ∧ DGet H2 a y o ∧ Q (.bl (if neg then !o.isSome else o.isSome)) H2 : TE) σ H Q := fun σ H Q ⟨m, ρ, s, er, sr, w, s', e, q⟩ => by
    obtain ⟨z, s1, e1, e⟩ := bd_inv e
    obtain ⟨x, s2, e2, e⟩ := bd_inv e
    refine ⟨m, ρ, s, er, sr, z, s1, e1, fun m1 H1 v A1 S1 r1 => ⟨m1, ρ, s1, er.adv A1, S1, x, s2, e2, fun m2 H2 u A2 S2 r2 => ?_⟩⟩
    cases ed : dcOf x s2 with
    | none => simp only [ed] at e; cases e
    | some p =>
      obtain ⟨n, kvs⟩ := p
      cases ek : keyW z with
      | none => simp only [ed, ek] at e; cases e
      | some k =>
        simp only [ed, ek] at e
        cases e
        obtain ⟨a, vs, rfl, hm, hs2, hd, rk⟩ := dc_of S2 r2 ed
        have hy := key_of r1 ek
        subst hy
        refine ⟨a, _, rfl, DGet.k (k := k) hd, ?_⟩
        have es : (valV vs k).isSome = (look kvs k).isSome := by
          obtain ⟨q1, q2⟩ := rk.look (k := k)
          cases el : look kvs k with
          | none => rw [q2 el]; rfl
          | some w => obtain ⟨v, hv, _⟩ := q1 w el; rw [hv]; rfl
        rw [es]
        exact q m2 H2 _ (A1.trans A2) S2 (.bl _)
theorem m_din {fd fy : FE} (hu : X.A.units + 1 < cLine) (hi : PE X i (tF X.K fy)) (ho : PE X o (tF X.K fd)) (h1 : behindInMarks .In o = false := by first | exact nobehind _ (by decide) (by decide) | rfl) : PE X (.Compare i [.In] [o] pos) (tF X.K (eDin false fy fd)) :=
  (pe_cmp (pc_din hu hi ho) h1).imp fun σ H Q h => din_of σ H Q h
theorem m_dnotin {fd fy : FE} (hu : X.A.units + 1 < cLine) (hi : PE X i (tF X.K fy)) (ho : PE X o (tF X.K fd)) (h1 : behindInMarks .NotIn o = false := by first | exact nobehind _ (by decide) (by decide) | rfl) : PE X (.Compare i [.NotIn] [o] pos) (tF X.K (eDin true fy fd)) :=
  (pe_cmp (pc_dnotin hu hi ho) h1).imp fun σ H Q h => din_of σ H Q h
theorem mt_din {fd fy : FE} (hu : X.A.units + 1 < cLine) (hi : PE X i (tF X.K fy)) (ho : PE X o (tF X.K fd)) (h1 : behindInMarks .In o = false := by first | exact nobehind _ (by decide) (by decide) | rfl) : PT X (.Compare i [.In] [o] pos) (tT X.K (bTest (eDin false fy fd))) :=
  (pt_cmp (pc_din hu hi ho) h1).imp fun σ H Q h => din_of σ H _ (tT_test σ H Q h)
theorem mt_dnotin {fd fy : FE} (hu : X.A.units + 1 < cLine) (hi : PE X i (tF X.K fy)) (ho : PE X o (tF X.K fd)) (h1 : behindInMarks .NotIn o = false := by first | exact nobehind _ (by decide) (by decide) | rfl) : PT X (.Compare i [.NotIn] [o] pos) (tT X.K (bTest (eDin true fy fd))) :=
  (pt_cmp (pc_dnotin hu hi ho) h1).imp fun σ H Q h => din_of σ H _ (tT_test σ H Q h)
def sDput (d y f : FE) : FS := fun ρ s => bd (f ρ s) fun w s1 => bd (d ρ s1) fun x s2 => bd (y ρ s2) fun z s3 => match dcOf x s3, keyW z with
  | some (n, kvs), some k => if kvs.length ≤ 100000 then some (.nx ρ, s3.set n (.dct (put kvs k w))) else none
  | _, _ => none
theorem ms_dput {fd fy fv : FE} {v : Expr} {pos' : Pos} (hu : X.A.units + 1 < cLine) (ho : PE X o (tF X.K fd)) (hi : PE X i (tF X.K fy)) (hv : PE X v (tF X.K fv)) (hs : swapsWith v (some (.Subscript o i pos')) pos.line X.env = pure false := by rfl) :
    PS X (.Assign [.Subscript o i pos'] v pos) (tS X.K (sDput fd fy fv)) :=
  (ps_dput hu ho hi hv hs).imp fun D σ H ⟨m, ρ, s, er, sr, oo, s', e, q⟩ => by
    obtain ⟨w, s1, e1, e⟩ := bd_inv e
    obtain ⟨x, s2, e2, e⟩ := bd_inv e
    obtain ⟨z, s3, e3, e⟩ := bd_inv e
    refine ⟨m, ρ, s, er, sr, w, s1, e1, fun m1 H1 v A1 S1 r1 => ⟨m1, ρ, s1, er.adv A1, S1, x, s2, e2, fun m2 H2 u A2 S2 r2 => ⟨m2, ρ, s2, (er.adv A1).adv A2, S2, z, s3, e3, fun m3 H3 y A3 S3 r3 => ?_⟩⟩⟩
    cases ed : dcOf x s3 with
    | none => simp only [ed] at e; cases e
    | some p =>
      obtain ⟨n, kvs⟩ := p
      cases ek : keyW z with
      | none => simp only [ed, ek] at e; cases e
      | some k =>
        simp only [ed, ek] at e
        split at e
        · rename_i hl
          cases e
          obtain ⟨a, vs, rfl, hm, hs2, hd, rk⟩ := dc_of S3 (r2.adv A3) ed
          have hy := key_of r3 ek
          subst hy
          refine ⟨a, _, rfl, DPut.k (k := k) hd (szt (by rw [rk.len]; exact hl)), ?_⟩
          have A4 : Adv m3 H3 m3 (upd H3 a (.dK (putK vs k v))) := Adv.write S3 hm
          exact q m3 _ σ (((A1.trans A2).trans A3).trans A4) (S3.write hm ⟨_, upd_same, (rk.adv A4).put (((r1.adv A2).adv A3).adv A4)⟩) ((((er.adv A1).adv A2).adv A3).adv A4)
        · cases e
def eDget2 (d y f : FE) : FE := fun ρ s => bd (d ρ s) fun x s1 => if (dcOf x s1).isSome = true then bd (y ρ s1) fun z s2 => bd (f ρ s2) fun w s3 => match dcOf x s3, keyW z with
  | some (_, kvs), some k => some ((look kvs k).getD w, s3)
  | _, _ => none
  else none
theorem m_dget2 {fd fy fv : FE} {cpos apos : Pos} (hu : X.A.units + 1 < cLine) (ho : PE X o (tF X.K fd)) (he : PE X e (tF X.K fy)) (hf : PE X f (tF X.K fv)) (M : M2 X o "get" apos e f cpos) : PE X (.Call (.Attribute o "get" apos) [e, f] [] cpos) (tF X.K (eDget2 fd fy fv)) :=
  (pe_dget2 hu ho he hf M).imp fun σ H Q ⟨m, ρ, s, er, sr, w, s', e, q⟩ => by
    obtain ⟨x, s1, e1, e⟩ := bd_inv e
    split at e
    · rename_i hd1
      obtain ⟨z, s2, e2, e⟩ := bd_inv e
      obtain ⟨d, s3, e3, e⟩ := bd_inv e
      refine ⟨m, ρ, s, er, sr, x, s1, e1, fun m1 H1 v A1 S1 r1 => ?_⟩
      cases ed1 : dcOf x s1 with
      | none => rw [ed1] at hd1; cases hd1
      | some p1 =>
        obtain ⟨n1, kvs1⟩ := p1
        obtain ⟨a, vs1, rfl, hm1, _, hh1, _⟩ := dc_of S1 r1 ed1
        refine ⟨a, rfl, .inl ⟨vs1, .inl hh1⟩, m1, ρ, s1, er.adv A1, S1, z, s2, e2, fun m2 H2 u A2 S2 r2 => ⟨m2, ρ, s2, (er.adv A1).adv A2, S2, d, s3, e3, fun m3 H3 y A3 S3 r3 => ?_⟩⟩
        cases ed : dcOf x s3 with
        | none => simp only [ed] at e; cases e
        | some p =>
          obtain ⟨n, kvs⟩ := p
          cases ek : keyW z with
          | none => simp only [ed, ek] at e; cases e
          | some k =>
            simp only [ed, ek] at e
            cases e
            obtain ⟨a', vs, ea, hm, hs2, hd, rk⟩ := dc_of S3 ((r1.adv A2).adv A3) ed
            cases ea
            have hy := key_of r2 ek
            subst hy
            refine ⟨_, DGet.k (k := k) hd, ?_⟩
            obtain ⟨q1, q2⟩ := rk.look (k := k)
            cases el : look kvs k with
            | none =>
              rw [q2 el]
              rw [el] at q
              exact q m3 H3 y ((A1.trans A2).trans A3) S3 r3
            | some w =>
              obtain ⟨v, hv, rv⟩ := q1 w el
              rw [hv]
              rw [el] at q
              exact q m3 H3 v ((A1.trans A2).trans A3) S3 rv
    · cases e
/-! ### constants of the module -/
def Cst (K : PySem.W.Frag) (mg : Str → Option Value) (x : Str) (w : W) : Prop := ∃ v u, mg x = some u ∧ RelV v u ∧ ∀ m H, R K m H w v
theorem m_glob {x : Str} {w : W} {p : Pos} (h : Cst X.K X.mg x w) (hg : Gl X x) (hd : (x == ("__debug__" : Str)) = false := by decide) : PE X (.Name x p) (tF X.K (eC w)) := by
  obtain ⟨v, u, h1, h2, h3⟩ := h
  exact m_c (pe_glob hg h1 h2 hd) h3
/-! ### texts -/
def gStr (f : Str → List W → Sto → Rz W) : W → List W → Sto → Rz W := fun x ws s => match x with
  | .str z => f z ws s
  | _ => none
def isS (x : W) (_ : Sto) : Bool := match x with
  | .str _ => true
  | _ => false
theorem isS_ty {K : PySem.W.Frag} {m : List Addr} {H : Hp} {s : Sto} {x : W} {v : V} (S : SR K m H s) (r : R K m H x v) (h : isS x s = true) : tyV K "str" v H := by
  cases r with
  | str z => rfl
  | _ => cases h
def gUpper := gStr fun z ws s => match ws with
  | [] => if z.length ≤ 5592405 then some (.str (Txt.upper z), s) else none
  | _ => none
theorem f_upper {K : PySem.W.Frag} : MtF K (fun x xs H Q => ∃ a, x = .str a ∧ xs = [] ∧ a.length ≤ 5592405 ∧ Q (.str (Txt.upper a)) H) gUpper := by
  intro m H s x v ws vs Q S rx r h
  cases rx with
  | str z =>
    cases r with
    | cons _ _ => exact nopeE h
    | nil =>
      by_cases hz : z.length ≤ 5592405
      · simp only [gUpper, gStr, hz, if_true] at h
        exact ⟨z, rfl, rfl, hz, h.val S _ (.str _)⟩
      · exact nopeE' h (by simp only [gUpper, gStr, hz, if_false])
  | _ => exact nopeE h
def gJoin := gStr fun z ws s => match ws with
  | [x] => match seqOf x s with
    | some xs => match strsOf xs with
      | some ys => if (ys.map (·.length)).sum + ys.length * z.length ≤ 16777216 then some (.str (Txt.join z ys), s) else none
      | none => none
    | none => none
  | _ => none
theorem f_join {K : PySem.W.Frag} : MtF K (fun x xs H Q => ∃ a p, ∃ ys : List Str, x = .str a ∧ xs = [.ref p] ∧ (SqL K H p (ys.map V.str) ∨ SqT K H p (ys.map V.str)) ∧ (ys.map (·.length)).sum + ys.length * a.length ≤ 16777216 ∧ Q (.str (Txt.join a ys)) H) gJoin := by
  intro m H s x v ws vs Q S rx r h
  cases rx with
  | str z =>
    cases r with
    | nil => exact nopeE h
    | @cons y _ _ _ r1 r2 =>
      cases r2 with
      | cons _ _ => exact nopeE h
      | nil =>
        cases es : seqOf y s with
        | none => exact nopeE' h (by simp only [gJoin, gStr, es])
        | some xs =>
          cases ey : strsOf xs with
          | none => exact nopeE' h (by simp only [gJoin, gStr, es, ey])
          | some ys =>
            by_cases hz : (ys.map (·.length)).sum + ys.length * z.length ≤ 16777216
            · simp only [gJoin, gStr, es, ey, hz, if_true] at h
              obtain ⟨p, us, rfl, hs, rl⟩ := seq_of S r1 es
              rw [strs_of rl ey] at hs
              exact ⟨z, p, ys, rfl, rfl, hs.symm, hz, h.val S _ (.str _)⟩
            · exact nopeE' h (by simp only [gJoin, gStr, es, ey, hz, if_false])
  | _ => exact nopeE h
theorem rl_strs {K : PySem.W.Frag} {m : List Addr} {H : Hp} : ∀ ys : List Str, RL K m H (ys.map W.str) (ys.map V.str)
  | [] => .nil
  | y :: ys => .cons (.str y) (rl_strs ys)
def gSplit := gStr fun z ws s => match ws with
  | [.str b] => if (b.length == 0) = false ∧ z.length + 2 ≤ sizeLine then some (.ref s.length, s ++ [.lst ((Txt.split z b).map W.str)]) else none
  | [] => if z.length + 2 ≤ sizeLine then some (.ref s.length, s ++ [.lst ((Txt.words z).map W.str)]) else none
  | _ => none
theorem f_split {K : PySem.W.Frag} : MtF K (fun x xs H Q => (∃ a b, x = .str a ∧ xs = [.str b] ∧ (b.length == 0) = false ∧ a.length + 2 ≤ sizeLine ∧ rNewStrs (Txt.split a b) H Q) ∨ (∃ a, x = .str a ∧ xs = [] ∧ a.length + 2 ≤ sizeLine ∧ rNewStrs (Txt.words a) H Q)) gSplit := by
  intro m H s x v ws vs Q S rx r h
  cases rx with
  | str z =>
    cases r with
    | nil =>
      by_cases hz : z.length + 2 ≤ sizeLine
      · simp only [gSplit, gStr, hz, if_true] at h
        obtain ⟨w, s', e, q⟩ := h
        cases e
        exact .inr ⟨z, rfl, rfl, hz, fun p hp => new_lst S (rl_strs _) hp q⟩
      · exact nopeE' h (by simp only [gSplit, gStr, hz, if_false])
    | @cons y _ _ _ r1 r2 =>
      cases r2 with
      | cons _ _ => cases r1 <;> exact nopeE h
      | nil =>
        cases r1 with
        | str b =>
          by_cases hz : (b.length == 0) = false ∧ z.length + 2 ≤ sizeLine
          · simp only [gSplit, gStr, hz, and_self, if_true] at h
            obtain ⟨w, s', e, q⟩ := h
            cases e
            exact .inl ⟨z, b, rfl, rfl, hz.1, hz.2, fun p hp => new_lst S (rl_strs _) hp q⟩
          · exact nopeE' h (by simp only [gSplit, gStr, hz, if_false])
        | _ => exact nopeE h
  | _ => exact nopeE h
/-! ### t[::-1], slices by values -/
def gSlA : W → Option Int → Option Int → Sto → Rz W := fun x lo hi s => match x with
  | .str z => if z.length ≤ sizeLine then some (.str (cutS z lo hi), s) else none
  | .tup ws => some (.tup ((ws.drop (HT.sIx ws.length 0 lo)).take (HT.sIx ws.length ws.length hi - HT.sIx ws.length 0 lo)), s)
  | x => match lstOf x s with
    | some ws => some (.ref s.length, s ++ [.lst ((ws.drop (HT.sIx ws.length 0 lo)).take (HT.sIx ws.length ws.length hi - HT.sIx ws.length 0 lo))])
    | none => none
def rSlAny (K : PySem.W.Frag) : V → Option Int → Option Int → Hp → VK → Prop := fun x lo hi H Q => rSlS x lo hi H Q ∨ rSlA K x lo hi H Q ∨ rSlL K x lo hi H Q
theorem sl_any : SlR X (rSlAny X.K) := sl_str.or (sl_tupA.or sl_list)
theorem f_sl {K : PySem.W.Frag} : SlF K (rSlAny K) gSlA := by
  intro m H s x v lo hi Q S rx h
  have lst : ∀ {ws}, lstOf x s = some ws → wE K m H (some (.ref s.length, s ++ [.lst ((ws.drop (HT.sIx ws.length 0 lo)).take (HT.sIx ws.length ws.length hi - HT.sIx ws.length 0 lo))])) Q → rSlAny K v lo hi H Q := fun {ws} hl h => by
    obtain ⟨p, vs, rfl, h1, h2⟩ := lst_of S rx hl
    obtain ⟨w, s', e, q⟩ := h
    cases e
    exact .inr (.inr ⟨p, vs, rfl, h1, fun l hl => new_lst S (h2.cut lo hi) hl q⟩)
  cases rx with
  | str z =>
    by_cases hz : z.length ≤ sizeLine
    · simp only [gSlA, hz, if_true] at h
      exact .inl ⟨z, rfl, hz, h.val S _ (.str _)⟩
    · exact nopeE' h (by simp only [gSlA, hz, if_false])
  | @tup p vs ws h1 h2 =>
    have rc := h2.cut lo hi
    refine .inr (.inl ⟨p, vs, rfl, h1.sq, fun hw => ?_, fun hw q hq => ?_⟩)
    · refine h.val S _ (.tup h1 ?_)
      unfold cutV at rc
      rw [hw.1, hw.2, List.drop_zero, Nat.sub_zero, List.take_length] at rc
      exact rc
    · obtain ⟨w, s', e, q⟩ := h
      cases e
      exact new_tup S rc hq q
  | @ref n a h1 =>
    cases hl : lstOf (.ref n) s with
    | none => exact nopeE' h (by simp only [gSlA, hl])
    | some ws =>
      have e : gSlA (.ref n) lo hi s = some (.ref s.length, s ++ [.lst ((ws.drop (HT.sIx ws.length 0 lo)).take (HT.sIx ws.length ws.length hi - HT.sIx ws.length 0 lo))]) := by simp only [gSlA, hl]
      rw [e] at h
      exact lst hl h
  | @lro p vs ws h1 h2 =>
    have e : gSlA (.lro ws) lo hi s = some (.ref s.length, s ++ [.lst ((ws.drop (HT.sIx ws.length 0 lo)).take (HT.sIx ws.length ws.length hi - HT.sIx ws.length 0 lo))]) := by simp only [gSlA, lstOf]
    rw [e] at h
    exact lst rfl h
  | _ => exact nopeE h
def gRevL : W → Sto → Rz W := fun x s => match lstOf x s with
  | some ws => some (.ref s.length, s ++ [.lst ws.reverse])
  | none => none
def gRevT : W → Sto → Rz W := fun x s => match x with
  | .tup ws => some (.tup ws.reverse, s)
  | _ => none
theorem m_revL {fe : FE} {k : Nat} {p1 p2 p3 : Pos} (he : PE X e (tF X.K fe)) : PE X (.Subscript e (.Slice none none (some (.UnaryOp .USub (.Constant (.int 1) k p1) p2)) p3) pos) (tF X.K (eUn gRevL fe)) :=
  (pe_revL he).imp fun σ H Q ⟨m, ρ, s, er, sr, w, s', e, q⟩ => by
    obtain ⟨x, s1, e1, e⟩ := bd_inv e
    refine ⟨m, ρ, s, er, sr, x, s1, e1, fun m1 H1 v A1 S1 r1 => ?_⟩
    cases hl : lstOf x s1 with
    | none => simp only [gRevL, hl] at e; cases e
    | some ws =>
      simp only [gRevL, hl] at e
      cases e
      obtain ⟨p, vs, rfl, h1, h2⟩ := lst_of S1 r1 hl
      exact ⟨p, vs, rfl, h1, fun l hl => new_lst S1 h2.rev hl fun m2 H2 v A2 => q m2 H2 v (A1.trans A2)⟩
theorem m_revT {fe : FE} {k : Nat} {p1 p2 p3 : Pos} (he : PE X e (tF X.K fe)) : PE X (.Subscript e (.Slice none none (some (.UnaryOp .USub (.Constant (.int 1) k p1) p2)) p3) pos) (tF X.K (eUn gRevT fe)) :=
  (Vr.pe_revT he).imp fun σ H Q ⟨m, ρ, s, er, sr, w, s', e, q⟩ => by
    obtain ⟨x, s1, e1, e⟩ := bd_inv e
    refine ⟨m, ρ, s, er, sr, x, s1, e1, fun m1 H1 v A1 S1 r1 => ?_⟩
    cases r1 with
    | tup h1 h2 =>
      cases e
      exact ⟨_, _, rfl, h1.sq, fun l hl => new_tup S1 h2.rev hl fun m2 H2 v A2 => q m2 H2 v (A1.trans A2)⟩
    | _ => cases e
/-! ### f'..' -/
def eFmt (f : FE) : FE := fun ρ s => bd (f ρ s) fun x s1 => match x with
  | .str y => if y.length ≤ sizeLine then some (.str y, s1) else none
  | .int i => if i.natAbs.log2 < 1920 then some (.str (toString i), s1) else none
  | _ => none
theorem m_fmt {fe : FE} (he : PE X e (tF X.K fe)) : PE X (.FormattedValue e (-1) none pos) (tF X.K (eFmt fe)) :=
  (pe_fmt he).imp fun σ H Q ⟨m, ρ, s, er, sr, w, s', e, q⟩ => by
    obtain ⟨x, s1, e1, e⟩ := bd_inv e
    refine ⟨m, ρ, s, er, sr, x, s1, e1, fun m1 H1 v A1 S1 r1 => ?_⟩
    cases r1 with
    | str y =>
      by_cases hy : y.length ≤ sizeLine
      · simp only [hy, if_true] at e
        cases e
        exact .inl ⟨y, rfl, hy, q m1 H1 _ A1 S1 (.str _)⟩
      · simp only [hy, if_false] at e; cases e
    | int y =>
      by_cases hy : y.natAbs.log2 < 1920
      · simp only [hy, if_true] at e
        cases e
        exact .inr ⟨y, rfl, hy, q m1 H1 _ A1 S1 (.str _)⟩
      · simp only [hy, if_false] at e; cases e
    | _ => cases e
def joinF : List FE → Str → EnvM → Sto → Rz Str
  | [], acc, _, s => some (acc, s)
  | f :: fs, acc, ρ, s => bd (f ρ s) fun x s1 => match x with
    | .str y => if (acc ++ y).length ≤ sizeLine then joinF fs (acc ++ y) ρ s1 else none
    | _ => none
def eJoin (fs : List FE) : FE := fun ρ s => bd (joinF fs Str.empty ρ s) fun y s1 => some (.str y, s1)
theorem tJs_of {σ : L2.St} : ∀ (fs : List FE) {acc : Str} {m : List Addr} {ρ : EnvM} {s : Sto} {H : Hp} {y : Str} {s' : Sto} {Q : Str → Hp → Prop}, ER X.K m H ρ σ → SR X.K m H s → joinF fs acc ρ s = some (y, s') → (∀ m' H', Adv m H m' H' → SR X.K m' H' s' → Q y H') → tJs (fs.map (tF X.K)) acc σ H Q
  | [], acc, m, ρ, s, H, y, s', Q, er, sr, e, q => by
    cases e
    exact q m H (Adv.refl m H) sr
  | f :: fs, acc, m, ρ, s, H, y, s', Q, er, sr, e, q => by
    obtain ⟨x, s1, e1, e⟩ := bd_inv e
    refine ⟨m, ρ, s, er, sr, x, s1, e1, fun m1 H1 v A1 S1 r1 => ?_⟩
    cases r1 with
    | str z =>
      by_cases hz : (acc ++ z).length ≤ sizeLine
      · simp only [hz, if_true] at e
        exact ⟨z, rfl, hz, tJs_of fs (er.adv A1) S1 e fun m2 H2 A2 => q m2 H2 (A1.trans A2)⟩
      · simp only [hz, if_false] at e; cases e
    | _ => cases e
theorem m_joined {v1 v2 : Expr} {rest : List Expr} {fs : List FE} (h : PJ X (v1 :: v2 :: rest) (fs.map (tF X.K))) : PE X (.JoinedStr (v1 :: v2 :: rest) pos) (tF X.K (eJoin fs)) :=
  (pe_joined h).imp fun σ H Q ⟨m, ρ, s, er, sr, w, s', e, q⟩ => by
    obtain ⟨y, s1, e1, e⟩ := bd_inv e
    cases e
    exact tJs_of fs er sr e1 fun m1 H1 A1 S1 => q m1 H1 _ A1 S1 (.str _)
theorem m_joined1 {fe : FE} (he : PE X e (tF X.K fe)) : PE X (.JoinedStr [e] pos) (tF X.K fe) := pe_joined1 he
end
end Mir

set_option Elab.async false
set_option linter.all false
set_option maxRecDepth 100000
namespace Mir
open PySem PySem.Spec PyProof.Rows L2
section
variable {K : PySem.W.Frag}
/-! ### isinstance(x, T), T a built-in type -/
def tyW (x : W) (s : Sto) : Option String := match x with
  | .non => some "NoneType"
  | .bl _ => some "bool"
  | .int _ => some "int"
  | .str _ => some "str"
  | .tup _ => some "tuple"
  | .lro _ => some "list"
  | .ref n => match s[n]? with
    | some (.lst _) => some "list"
    | some (.dct _) => some "dict"
    | none => none
theorem tyW_of {m : List Addr} {H : Hp} {s : Sto} {x : W} {v : V} {t : String} (S : SR K m H s) (r : R K m H x v) (h : tyW x s = some t) : TyX K H v (.type t) := by
  cases r with
  | non => cases h; exact .base .non
  | bl b => cases h; exact .base (.bl b)
  | int i => cases h; exact .base (.int i)
  | str y => cases h; exact .base (.str y)
  | tup h1 h2 =>
    cases h
    rcases h1 with h1 | ⟨o, its, n, l, c, _⟩
    · exact .base (.tup h1)
    · exact .kTuple l c
  | lro h1 h2 =>
    cases h
    rcases h1 with ⟨o, h1⟩ | ⟨o, its, n, l, c, _⟩
    · exact .base (.frz h1)
    · exact .kList l c
  | @ref n a h1 =>
    cases e : s[n]? with
    | none => simp only [tyW, e] at h; cases h
    | some o =>
      obtain ⟨a', h2, h3⟩ := S.at e
      rw [h1] at h2; cases h2
      cases o with
      | lst ws =>
        simp only [tyW, e] at h
        cases h
        obtain ⟨vs, h3, _⟩ := h3
        exact .base (.lst h3)
      | dct ws =>
        simp only [tyW, e] at h
        cases h
        obtain ⟨vs, h3, _⟩ := h3
        exact .base (.dK h3)
/-- the answer, by the names of the types -/
def isiT (a b : String) : Bool := (a == b) || (a == "bool" && b == "int")
def eIsi (T : String) (f : FE) : FE := fun ρ s => bd (f ρ s) fun x s1 => match tyW x s1 with
  | some t => some (.bl (isiT t T), s1)
  | none => none

def tyNames : List String := ["NoneType", "bool", "int", "str", "tuple", "list", "dict"]
theorem tyW_in {x : W} {s : Sto} {t : String} (h : tyW x s = some t) : t ∈ tyNames := by
  cases x with
  | ref n =>
    simp only [tyW] at h
    split at h <;> (cases h <;> decide)
  | _ => cases h; decide
theorem kit_int : ∀ t ∈ tyNames, kitB t "int" = some (isiT t "int") := by decide +kernel
theorem kit_str : ∀ t ∈ tyNames, kitB t "str" = some (isiT t "str") := by decide +kernel
theorem kit_bool : ∀ t ∈ tyNames, kitB t "bool" = some (isiT t "bool") := by decide +kernel
theorem kit_tuple : ∀ t ∈ tyNames, kitB t "tuple" = some (isiT t "tuple") := by decide +kernel
theorem kit_list : ∀ t ∈ tyNames, kitB t "list" = some (isiT t "list") := by decide +kernel
theorem kit_dict : ∀ t ∈ tyNames, kitB t "dict" = some (isiT t "dict") := by decide +kernel
end
section
variable {X : Cx} {a b c e e2 : Expr} {pos : Pos}
theorem m_isi {f : FE} {T : String} {p p2 : Pos} {x : Str} (hk : ∀ t ∈ tyNames, kitB t T = some (isiT t T)) (hg : Gl X "isinstance") (hm : X.mg "isinstance" = none) (hg2 : Gl X x) (hm2 : X.mg x = none) (hb : bootBuiltins x = some (.type T)) (he : PE X e (tF X.K f)) (hn : x ≠ "__name__" := by decide) (hd : (x == ("__debug__" : Str)) = false := by decide)
    (hs1 : starEach [e, .Name x p2] X.env = (false, eval e X.env) :: starEach [.Name x p2] X.env := by rfl) (hs2 : starEach [.Name x p2] X.env = (false, eval (.Name x p2) X.env) :: starEach [] X.env := by rfl) (hpl : (backTo pos (starEach [.Name x p2] X.env)).any (·.1) = false := by rfl) :
    PE X (.Call (.Name "isinstance" p) [e, .Name x p2] [] pos) (tF X.K (eIsi T f)) :=
  (pe_callB call_isi hg hm PyProof.Rows.boot_isinstance (pa_cons he (pa_cons (pe_bltn (v := .ty T) hg2 hm2 hb rfl hn hd) pa_nil hs2) hs1) (by decide) (by decide) hs1 hpl).imp fun σ H Q ⟨m, ρ, s, er, sr, w, s', e, q⟩ => by
    obtain ⟨x, s1, e1, e⟩ := bd_inv e
    cases ht : tyW x s1 with
    | none => simp only [ht] at e; cases e
    | some t =>
      simp only [ht] at e
      cases e
      exact ⟨m, ρ, s, er, sr, x, _, e1, fun m1 H1 v A1 S1 r1 => ⟨v, .ty T, .type t, .type T, _, rfl, .ty T, tyW_of S1 r1 ht, kit_ty (hk t (tyW_in ht)), q m1 H1 _ A1 S1 (.bl _)⟩⟩
/-! ### a < b < c -/
def eChain (g g' : W → W → Sto → Rz W) (fa fb fc : FE) : FE := fun ρ s => bd (fa ρ s) fun x s1 => bd (fb ρ s1) fun y s2 => bd (g x y s2) fun z s3 => match z with
  | .bl k => if k = true then bd (fc ρ s3) fun w s4 => g' y w s4 else some (.bl false, s3)
  | _ => none
theorem chain_of {r r' : R2} {g g' : W → W → Sto → Rz W} {fa fb fc : FE} (hg : OpF X.K r g) (hg' : OpF X.K r' g') : ∀ σ H Q, tF X.K (eChain g g' fa fb fc) σ H Q → tChain r r' (tF X.K fa) (tF X.K fb) (tF X.K fc) σ H Q := fun σ H Q ⟨m, ρ, s, er, sr, w, s', e, q⟩ => by
  obtain ⟨x, s1, e1, e⟩ := bd_inv e
  obtain ⟨y, s2, e2, e⟩ := bd_inv e
  obtain ⟨z, s3, e3, e⟩ := bd_inv e
  refine ⟨m, ρ, s, er, sr, x, s1, e1, fun m1 H1 v A1 S1 r1 => ⟨m1, ρ, s1, er.adv A1, S1, y, s2, e2, fun m2 H2 u A2 S2 r2 => hg m2 H2 s2 x y v u _ S2 (r1.adv A2) r2 ⟨z, s3, e3, fun m3 H3 zv A3 S3 r3 => ?_⟩⟩⟩
  cases r3 with
  | bl k =>
    refine ⟨k, rfl, ?_⟩
    cases k with
    | true =>
      simp only [if_true] at e
      rw [if_pos rfl]
      obtain ⟨w4, s4, e4, e⟩ := bd_inv e
      exact ⟨m3, ρ, s3, ((er.adv A1).adv A2).adv A3, S3, w4, s4, e4, fun m4 H4 v4 A4 S4 r4 => hg' m4 H4 s4 y w4 u v4 Q S4 ((r2.adv A3).adv A4) r4 ⟨w, s', e, fun m5 H5 v5 A5 => q m5 H5 v5 ((((A1.trans A2).trans A3).trans A4).trans A5)⟩⟩
    | false =>
      simp only [if_neg Bool.false_ne_true] at e
      rw [if_neg Bool.false_ne_true]
      cases e
      exact q m3 H3 _ ((A1.trans A2).trans A3) S3 (.bl false)
  | _ => cases e
theorem m_chain {op op' : CmpOp} {r r' : R2} {g g' : W → W → Sto → Rz W} {fa fb fc : FE} (ho : OpR X (compareOp op) r) (ho' : OpR X (compareOp op') r') (hg : OpF X.K r g) (hg' : OpF X.K r' g') (ha : PE X a (tF X.K fa)) (hb : PE X b (tF X.K fb)) (hc : PE X c (tF X.K fc))
    (hm : lastMarks [op, op'] [b, c] = false := by with_unfolding_all rfl) : PE X (.Compare a [op, op'] [b, c] pos) (tF X.K (eChain g g' fa fb fc)) := (pe_chain ho ho' ha hb hc hm).imp (chain_of hg hg')
theorem mt_chain {op op' : CmpOp} {r r' : R2} {g g' : W → W → Sto → Rz W} {fa fb fc : FE} (ho : OpR X (compareOp op) r) (ho' : OpR X (compareOp op') r') (hg : OpF X.K r g) (hg' : OpF X.K r' g') (ha : PE X a (tF X.K fa)) (hb : PE X b (tF X.K fb)) (hc : PE X c (tF X.K fc))
    (hm : lastMarks [op, op'] [b, c] = false := by with_unfolding_all rfl) : PT X (.Compare a [op, op'] [b, c] pos) (tT X.K (bTest (eChain g g' fa fb fc))) := (pt_chain ho ho' ha hb hc hm).imp fun σ H Q h => chain_of hg hg' σ H _ (tT_test σ H Q h)
/-! ### tuple(a dict), t * k -/
def gTupleD : List W → Sto → Rz W := fun ws s => match ws with
  | [x] => match dcOf x s with
    | some (_, kvs) => some (.tup (kvs.map fun kv => match kv.1 with | .inl i => W.int i | .inr z => W.str z), s)
    | none => none
  | _ => none
theorem keys_rl {K : PySem.W.Frag} {m : List Addr} {H : Hp} : ∀ {kvs : List (Key × W)} {vs : List (Key × V)}, RK K m H kvs vs → RL K m H (kvs.map fun kv => match kv.1 with | .inl i => W.int i | .inr z => W.str z) (vs.map fun kv => kV kv.1)
  | [], _, r => by cases r; exact .nil
  | (k, w) :: kvs, _, r => by
    cases r with
    | cons h1 h2 =>
      refine .cons ?_ (keys_rl h2)
      cases k with
      | inl i => exact .int i
      | inr z => exact .str z
theorem f_tupleD {K : PySem.W.Frag} : CallF K (fun xs H Q => ∃ (a : Addr) (kvs : List (Key × V)), xs = [.ref a] ∧ Rd H a (.dK kvs) ∧ ∀ p, H p = none → Q (.ref p) (upd H p (.tup (kvs.map fun kv => kV kv.1)))) gTupleD := by
  intro m H s ws vs Q S r h
  cases r with
  | nil => exact nopeE h
  | @cons x v _ _ r1 r2 =>
    cases r2 with
    | cons _ _ => exact nopeE h
    | nil =>
      cases ed : dcOf x s with
      | none => exact nopeE' h (by simp only [gTupleD, ed])
      | some p =>
        obtain ⟨n, kvs⟩ := p
        simp only [gTupleD, ed] at h
        obtain ⟨a, us, rfl, _, _, hd, rk⟩ := dc_of S r1 ed
        obtain ⟨w, s', e, q⟩ := h
        cases e
        exact ⟨a, us, rfl, .inl hd, fun p hp => new_tup S (keys_rl rk) hp q⟩
def gMul : W → W → Sto → Rz W := fun x y s => match x, y with
  | .int i, .int j => if (-(2 ^ 64) < i ∧ i < 2 ^ 64) ∨ (-(2 ^ 64) < j ∧ j < 2 ^ 64) then some (.int (i * j), s) else none
  | .tup ws, .int k => if ws ≠ [] ∧ 2 ≤ k ∧ k ≤ 1000 ∧ ws.length ≤ 1000 then some (.tup (List.replicate k.toNat ws).flatten, s) else none
  | _, _ => none
def rMulA (K : PySem.W.Frag) : R2 := fun x y H Q => rI CMul (fun i j => .int (i * j)) x y H Q ∨ rRepT K x y H Q
theorem op_mulA : OpR X (binaryOp .Mult) (rMulA X.K) := op_mul.or op_repT
theorem f_mul {K : PySem.W.Frag} : OpF K (rMulA K) gMul := by
  intro m H s x y v u Q S rx ry h
  cases rx with
  | int i =>
    cases ry with
    | int j =>
      by_cases q : (-(2 ^ 64) < i ∧ i < 2 ^ 64) ∨ (-(2 ^ 64) < j ∧ j < 2 ^ 64)
      · simp only [gMul, q, if_true] at h
        exact .inl ⟨i, j, rfl, rfl, q, h.val S _ (.int _)⟩
      · exact nopeE' h (by simp only [gMul, q, if_false])
    | _ => exact nopeE h
  | @tup p vs ws h1 h2 =>
    cases ry with
    | int k =>
      by_cases q : ws ≠ [] ∧ 2 ≤ k ∧ k ≤ 1000 ∧ ws.length ≤ 1000
      · obtain ⟨w, s', e, qq⟩ := h
        simp only [gMul] at e
        rw [if_pos q] at e
        cases e
        refine .inr ⟨p, k, vs, rfl, rfl, h1.sq, fun e => q.1 ?_, q.2.1, q.2.2.1, by rw [h2.len]; exact q.2.2.2, fun z hz => new_tup S (h2.rep k.toNat) hz qq⟩
        subst e
        cases h2
        rfl
      · exact nopeE' h (by simp only [gMul]; rw [if_neg q])
    | _ => exact nopeE h
  | _ => cases ry <;> exact nopeE h
/-! ### a, b = x, y -/
def sPar (i j : Nat) (f : FA) : FS := fun ρ s => bd (f ρ s) fun ws s1 => match ws with
  | [v, w] => some (.nx ((ρ.set i (some v)).set j (some w)), s1)
  | _ => none
theorem ms_par {i j : Nat} {x y : Str} {fa : FA} {px py pt : Pos} {kt k2 pt2} (hc : X.calm = true) (hN : X.N.Nodup) (hi : X.N[i]? = some x) (hj : X.N[j]? = some y) (hij : i ≠ j)
    (hx : X.env.scope.names.lookup x = some .local) (hy : X.env.scope.names.lookup y = some .local) (ha : PA X [a, b] (tA X.K fa))
    (hw : swappedStores [.Tuple [.Name x px, .Name y py] kt pt] (.Tuple [a, b] k2 pt2) X.env = pure (some [x, y]))
    (hs : swapsWithSole [.Tuple [.Name x px, .Name y py] kt pt] (.Tuple [a, b] k2 pt2) pos.line X.env = pure false := by rfl) :
    PS X (.Assign [.Tuple [.Name x px, .Name y py] kt pt] (.Tuple [a, b] k2 pt2) pos) (tS X.K (sPar i j fa)) :=
  (ps_par hc hN hi hj hij hx hy ha hw hs).imp fun D σ H ⟨m, ρ, s, er, sr, o, s', e, q⟩ => by
    obtain ⟨ws, s1, e1, e⟩ := bd_inv e
    refine ⟨m, ρ, s, er, sr, ws, s1, e1, fun m1 H1 vs A1 S1 r1 => ?_⟩
    cases r1 with
    | nil => cases e
    | cons h1 h2 =>
      cases h2 with
      | nil => cases e
      | cons h2 h3 =>
        cases h3 with
        | cons _ _ => cases e
        | nil =>
          cases e
          exact ⟨_, _, rfl, q m1 H1 _ A1 S1 (((er.adv A1).set i h1).set j h2)⟩
/-! ### x += e -/
theorem ip_addA : PIp X .Add (fun x y H Q => rI0 (fun i j => .int (i + j)) x y H Q ∨ ∃ i j, x = .str i ∧ y = .str j ∧ i.length + j.length ≤ sizeLine ∧ Q (.str (i ++ j)) H) := OpR.or iop_add iop_add_str
def gIAdd : W → W → Sto → Rz W := fun x y s => match x, y with
  | .int i, .int j => some (.int (i + j), s)
  | .str a, .str b => if a.length + b.length ≤ 100000 then some (.str (a ++ b), s) else none
  | _, _ => none
theorem f_iadd {K : PySem.W.Frag} : OpF K (fun x y H Q => rI0 (fun i j => .int (i + j)) x y H Q ∨ ∃ i j, x = .str i ∧ y = .str j ∧ i.length + j.length ≤ sizeLine ∧ Q (.str (i ++ j)) H) gIAdd := by
  intro m H s x y v u Q S rx ry h
  cases rx with
  | int i =>
    cases ry with
    | int j => exact .inl ⟨i, j, rfl, rfl, h.val S _ (.int _)⟩
    | _ => exact nopeE h
  | str a =>
    cases ry with
    | str b =>
      by_cases q : a.length + b.length ≤ 100000
      · simp only [gIAdd, q, if_pos] at h
        exact .inr ⟨a, b, rfl, rfl, szl q, h.val S _ (.str _)⟩
      · exact nopeE' h (by simp only [gIAdd, q, if_false])
    | _ => exact nopeE h
  | _ => cases ry <;> exact nopeE h
/-! ### the script -/
theorem ints_rl {K : PySem.W.Frag} {m : List Addr} {H : Hp} : ∀ ns : List Int, RL K m H (ns.map W.int) (ns.map V.int)
  | [] => .nil
  | n :: ns => .cons (.int n) (ints_rl ns)
theorem law_sp {K : PySem.W.Frag} {F : List W → Sto → Rz W} {H : Hp} {a : Addr} {ns : List Int} (hO : Only H) (hS : SqL K H a (ns.map V.int)) (h : ∃ s, F [.lro (ns.map W.int)] [] = some (.bl true, s)) : spF K 1 F [.ref a] H (fun v _ => v = .bl true) (fun _ _ _ => False) := by
  obtain ⟨s, e⟩ := h
  refine ⟨rfl, [], [], [.lro (ns.map W.int)], .cons (.lro ?_ (ints_rl ns)) .nil, ⟨rfl, List.nodup_nil, fun n a o h _ => by cases h⟩, .bl true, s, e, fun m' H' v _ _ r => by cases r; rfl⟩
  rcases hS with (h | h) | h
  · exfalso
    rcases hO a with q | ⟨o, xs, q⟩
    · rw [q] at h; cases h
    · rw [q] at h; cases h
  · exact .inl h
  · exact .inr h
end
end Mir
namespace Mir
open PySem L2
theorem ofString_inj {a b : String} : (Str.ofString a = Str.ofString b) ↔ a = b := by
  refine ⟨fun h => ?_, fun h => by rw [h]⟩
  have h1 : Str.ofStringByList a = Str.ofStringByList b := by rw [← Str.ofString_eq_byList]; exact h
  unfold Str.ofStringByList at h1
  injection h1 with h1
  have h2 : a.toList.map Char.toNat = b.toList.map Char.toNat := by simpa using congrArg Array.toList h1
  have inj : ∀ l m : List Char, l.map Char.toNat = m.map Char.toNat → l = m := by
    intro l
    induction l with
    | nil => intro m e; cases m with | nil => rfl | cons _ _ => cases e
    | cons x l ih =>
      intro m e
      cases m with
      | nil => cases e
      | cons y m =>
        injection e with e1 e2
        rw [ih m e2, Char.toNat_inj.mp e1]
  have h3 : a.toList = b.toList := inj _ _ h2
  exact String.toList_inj.mp h3
theorem hu65 {A : Around} {k : Nat} (hr : Room k A) : A.units + 65 < cLine := by
  have := hr.un
  omega
end Mir
namespace Mir
open PySem PySem.Spec PyProof.Rows L2
theorem cst_int {K : PySem.W.Frag} {mg : Str → Option Value} {x : Str} {i : Int} {t : Tok} (h : mg x = some (.int i t)) : Cst K mg x (.int i) := ⟨.int i, _, h, ⟨t, rfl⟩, fun _ _ => .int i⟩
theorem cst_str {K : PySem.W.Frag} {mg : Str → Option Value} {x : Str} {i : Str} {t : Tok} (h : mg x = some (.str i t)) : Cst K mg x (.str i) := ⟨.str i, _, h, ⟨t, rfl⟩, fun _ _ => .str i⟩
theorem cst_tup {K : PySem.W.Frag} {m : List Addr} {H : Hp} {a : Addr} {od : Option Addr} {its : Array Value} {n : Nat} {sl : Array (Option Value)} {vs : List V} {ws : List W} (h : K.lookup a = some ⟨.type "tuple", od, .seq its n, sl⟩) (hz : its.size ≤ 100000) (hv : Vals vs its.toList) (r : RL K m H ws vs) : R K m H (.tup ws) (.ref a) :=
  .tup (.inr ⟨_, its, n, h, rfl, rfl, szl hz, hv⟩) r
end Mir
namespace Mir
theorem bd_ite {α β : Type} {c : Prop} [Decidable c] {x y : Rz α} {f : α → Sto → Rz β} : bd (if c then x else y) f = if c then bd x f else bd y f := by split <;> rfl
theorem getapp {α : Type} (s : List α) (a : α) : (s ++ [a])[s.length]? = some a := by simp
theorem setapp {α : Type} (s : List α) (a b : α) : (s ++ [a]).set s.length b = s ++ [b] := by simp
end Mir
namespace Mir
theorem bd_congr {α β : Type} {x x' : Rz α} {f : α → Sto → Rz β} (h : x = x') : bd x f = bd x' f := by rw [h]
end Mir
namespace Mir
theorem tgM_name {i : Nat} {w : W} {ρ : EnvM} : tgM (.name i) w ρ = some (ρ.set i (some w)) := by rw [tgM]
theorem tgM_tup {ts : List Tg} {ws : List W} {ρ : EnvM} : tgM (.tup ts) (.tup ws) ρ = tgMs ts ws ρ := by rw [tgM]
theorem tgMs_nil {ρ : EnvM} : tgMs [] [] ρ = some ρ := by rw [tgMs]
theorem tgMs_name {i : Nat} {ts : List Tg} {w : W} {ws : List W} {ρ : EnvM} : tgMs (.name i :: ts) (w :: ws) ρ = tgMs ts ws (ρ.set i (some w)) := by rw [tgMs, tgM]
theorem tgMs_tup {us ts : List Tg} {vs ws : List W} {ρ ρ' : EnvM} (h : tgMs us vs ρ = some ρ') : tgMs (.tup us :: ts) (.tup vs :: ws) ρ = tgMs ts ws ρ' := by rw [tgMs, tgM, h]
end Mir

set_option Elab.async false
set_option linter.all false
set_option maxRecDepth 100000
namespace K10
open PySem PySem.Spec PyProof.Rows L2 Mir
def topS (i : Nat) : Stmt := PySem.Challenge.pw_shapewright_k10_form_of_shapes.main.body.getD i (.Pass ⟨0, 0, 0, 0⟩)
abbrev sIsNumber : Stmt := topS 1
theorem scIsNumber : FnScope ["value"] ["value"] (defScope sIsNumber) := ⟨rfl, rfl, rfl, by decide +kernel, rfl, by decide +kernel, by decide +kernel⟩
abbrev sIsList : Stmt := topS 2
theorem scIsList : FnScope ["value", "low", "high"] ["value", "low", "high"] (defScope sIsList) := ⟨rfl, rfl, rfl, by decide +kernel, rfl, by decide +kernel, by decide +kernel⟩
abbrev sIsShape : Stmt := topS 12
theorem scIsShape : FnScope ["value", "arities", "count", "waiting", "part", "level", "inner"] ["value", "arities"] (defScope sIsShape) := ⟨rfl, rfl, rfl, by decide +kernel, rfl, by decide +kernel, by decide +kernel⟩
abbrev sIsNode : Stmt := topS 13
theorem scIsNode : FnScope ["value", "arities"] ["value", "arities"] (defScope sIsNode) := ⟨rfl, rfl, rfl, by decide +kernel, rfl, by decide +kernel, by decide +kernel⟩
abbrev sPartsOfShape : Stmt := topS 14
theorem scPartsOfShape : FnScope ["shape"] ["shape"] (defScope sPartsOfShape) := ⟨rfl, rfl, rfl, by decide +kernel, rfl, by decide +kernel, by decide +kernel⟩
abbrev sMeasures : Stmt := topS 15
theorem scMeasures : FnScope ["shape", "count", "deepest", "waiting", "part", "level", "inner"] ["shape"] (defScope sMeasures) := ⟨rfl, rfl, rfl, by decide +kernel, rfl, by decide +kernel, by decide +kernel⟩
abbrev sSize : Stmt := topS 16
theorem scSize : FnScope ["shape"] ["shape"] (defScope sSize) := ⟨rfl, rfl, rfl, by decide +kernel, rfl, by decide +kernel, by decide +kernel⟩
abbrev sDepth : Stmt := topS 17
theorem scDepth : FnScope ["shape"] ["shape"] (defScope sDepth) := ⟨rfl, rfl, rfl, by decide +kernel, rfl, by decide +kernel, by decide +kernel⟩
abbrev sVariables : Stmt := topS 18
theorem scVariables : FnScope ["shape", "found", "waiting", "part"] ["shape"] (defScope sVariables) := ⟨rfl, rfl, rfl, by decide +kernel, rfl, by decide +kernel, by decide +kernel⟩
abbrev sLawTape : Stmt := topS 20
theorem scLawTape : FnScope ["script", "many", "cells", "cell", "big", "value", "tape", "k"] ["script", "many"] (defScope sLawTape) := ⟨rfl, rfl, rfl, by decide +kernel, rfl, by decide +kernel, by decide +kernel⟩
abbrev sLawPick : Stmt := topS 21
theorem scLawPick : FnScope ["tape", "at", "many"] ["tape", "at", "many"] (defScope sLawPick) := ⟨rfl, rfl, rfl, by decide +kernel, rfl, by decide +kernel, by decide +kernel⟩
abbrev sLawLeaf : Stmt := topS 22
theorem scLawLeaf : FnScope ["tape", "at", "free", "pick"] ["tape", "at", "free"] (defScope sLawLeaf) := ⟨rfl, rfl, rfl, by decide +kernel, rfl, by decide +kernel, by decide +kernel⟩
abbrev sLawShape : Stmt := topS 23
theorem scLawShape : FnScope ["tape", "at", "level", "free", "pick", "left", "right", "inner", "parts", "many", "k", "part"] ["tape", "at", "level", "free"] (defScope sLawShape) := ⟨rfl, rfl, rfl, by decide +kernel, rfl, by decide +kernel, by decide +kernel⟩
abbrev sLawParts : Stmt := topS 24
theorem scLawParts : FnScope ["shape"] ["shape"] (defScope sLawParts) := ⟨rfl, rfl, rfl, by decide +kernel, rfl, by decide +kernel, by decide +kernel⟩
abbrev sLawRebuilt : Stmt := topS 25
theorem scLawRebuilt : FnScope ["shape", "parts"] ["shape", "parts"] (defScope sLawRebuilt) := ⟨rfl, rfl, rfl, by decide +kernel, rfl, by decide +kernel, by decide +kernel⟩
abbrev sLawVariables : Stmt := topS 26
theorem scLawVariables : FnScope ["shape", "found", "part"] ["shape", "found"] (defScope sLawVariables) := ⟨rfl, rfl, rfl, by decide +kernel, rfl, by decide +kernel, by decide +kernel⟩
abbrev sLawCount : Stmt := topS 27
theorem scLawCount : FnScope ["shape", "total", "part"] ["shape"] (defScope sLawCount) := ⟨rfl, rfl, rfl, by decide +kernel, rfl, by decide +kernel, by decide +kernel⟩
abbrev sLawDeep : Stmt := topS 28
theorem scLawDeep : FnScope ["shape", "level", "part"] ["shape"] (defScope sLawDeep) := ⟨rfl, rfl, rfl, by decide +kernel, rfl, by decide +kernel, by decide +kernel⟩
abbrev sLawWrong : Stmt := topS 29
theorem scLawWrong : FnScope ["pick"] ["pick"] (defScope sLawWrong) := ⟨rfl, rfl, rfl, by decide +kernel, rfl, by decide +kernel, by decide +kernel⟩
abbrev sLawSpoilt : Stmt := topS 30
theorem scLawSpoilt : FnScope ["shape", "tape", "at", "parts", "chosen", "bent", "part"] ["shape", "tape", "at"] (defScope sLawSpoilt) := ⟨rfl, rfl, rfl, by decide +kernel, rfl, by decide +kernel, by decide +kernel⟩
abbrev sLawNodes : Stmt := topS 31
theorem scLawNodes : FnScope ["many", "half"] ["many"] (defScope sLawNodes) := ⟨rfl, rfl, rfl, by decide +kernel, rfl, by decide +kernel, by decide +kernel⟩
abbrev sLawWide : Stmt := topS 32
theorem scLawWide : FnScope ["shape", "tape", "at", "items"] ["shape", "tape", "at"] (defScope sLawWide) := ⟨rfl, rfl, rfl, by decide +kernel, rfl, by decide +kernel, by decide +kernel⟩
abbrev sLawConstants : Stmt := topS 33
theorem scLawConstants : FnScope [] [] (defScope sLawConstants) := ⟨rfl, rfl, rfl, by decide +kernel, rfl, by decide +kernel, by decide +kernel⟩
abbrev sLawSame : Stmt := topS 34
theorem scLawSame : FnScope ["actual", "due"] ["actual", "due"] (defScope sLawSame) := ⟨rfl, rfl, rfl, by decide +kernel, rfl, by decide +kernel, by decide +kernel⟩
abbrev sLaw : Stmt := topS 35
theorem scLaw : FnScope ["script", "arities", "tape", "shape", "at", "level", "k", "many", "wide", "actual"] ["script"] (defScope sLaw) := ⟨rfl, rfl, rfl, by decide +kernel, rfl, by decide +kernel, by decide +kernel⟩
noncomputable def BIsNumber : FS := (sRet (eAnd (eIsi "int" (eVar 0)) (eAnd (eNot (eIsi "bool" (eVar 0))) (eOp gGe (eVar 0) (eC (.int 0))))))
noncomputable def FIsNumber : List W → Sto → Rz W := mkF 1 1 BIsNumber
noncomputable def BIsList : FS := (sRet (eAnd (eIsi "tuple" (eVar 0)) (eChain gLe gLe (eVar 1) (eFn gLen (aCons (eVar 0) aNil)) (eVar 2))))
noncomputable def FIsList : List W → Sto → Rz W := mkF 3 3 BIsList
noncomputable def BPartsOfShape : FS := (sCons (sIf (bTest (eOp gEq (eOp gIx (eVar 0) (eC (.int 0))) (eC (.str "v")))) (sRet (eTup aNil)) sNil)
    (sCons (sIf (bTest (eOp gEq (eOp gIx (eVar 0) (eC (.int 0))) (eC (.str "f")))) (sRet (eSl gSlA (eVar 0) (pAt (eC (.int 1))) pNo)) sNil)
    (sRet (eOp gIx (eVar 0) (eUn gNeg (eC (.int 1)))))))
noncomputable def FPartsOfShape : List W → Sto → Rz W := mkF 1 1 BPartsOfShape
noncomputable def BIsNode : FS := (sCons (sIf (bOr (bNot (bTruth (eIsi "tuple" (eVar 0)))) (bTest (eOp gLt (eFn gLen (aCons (eVar 0) aNil)) (eC (.int 2))))) (sRet (eC (.bl false))) sNil)
    (sCons (sIf (bTest (eOp gEq (eOp gIx (eVar 0) (eC (.int 0))) (eC (.str "v")))) (sRet (eAnd (eOp gEq (eFn gLen (aCons (eVar 0) aNil)) (eC (.int 2))) (eFn FIsNumber (aCons (eOp gIx (eVar 0) (eC (.int 1))) aNil)))) sNil)
    (sCons (sIf (bTest (eOp gEq (eOp gIx (eVar 0) (eC (.int 0))) (eC (.str "f")))) (sRet (eOp gEq (eFn gLen (aCons (eVar 0) aNil)) (eC (.int 3)))) sNil)
    (sCons (sIf (bTest (eOp gEq (eOp gIx (eVar 0) (eC (.int 0))) (eC (.str "t")))) (sRet (eAnd (eOp gEq (eFn gLen (aCons (eVar 0) aNil)) (eC (.int 2))) (eFn FIsList (aCons (eOp gIx (eVar 0) (eC (.int 1))) (aCons (eC (.int 2)) (aCons (eC (.int 6)) aNil)))))) sNil)
    (sCons (sIf (bOr (bTest (eOp gNe (eOp gIx (eVar 0) (eC (.int 0))) (eC (.str "c")))) (bOr (bTest (eOp gNe (eFn gLen (aCons (eVar 0) aNil)) (eC (.int 3)))) (bOr (bNot (bTruth (eFn FIsNumber (aCons (eOp gIx (eVar 0) (eC (.int 1))) aNil)))) (bTest (eOp gGe (eOp gIx (eVar 0) (eC (.int 1))) (eFn gLen (aCons (eVar 1) aNil))))))) (sRet (eC (.bl false))) sNil)
    (sRet (eAnd (eIsi "tuple" (eOp gIx (eVar 0) (eC (.int 2)))) (eOp gEq (eFn gLen (aCons (eOp gIx (eVar 0) (eC (.int 2))) aNil)) (eOp gIx (eVar 1) (eOp gIx (eVar 0) (eC (.int 1))))))))))))
noncomputable def FIsNode : List W → Sto → Rz W := mkF 2 2 BIsNode
noncomputable def BIsShape : FS := (sCons (sSet 2 (eC (.int 0)))
    (sCons (sSet 3 (eLst (aCons (eTup (aCons (eVar 0) (aCons (eC (.int 1)) aNil))) aNil)))
    (sCons (sWh (fun _ _ => 100000) (bTruth (eVar 3)) (sCons (sAsg (.tup [(.name 4), (.name 5)]) (eMt isL gPop (eVar 3) aNil))
    (sCons (sAug 2 gIAdd (eC (.int 1)))
    (sCons (sIf (bOr (bTest (eOp gGt (eVar 2) (eC (.int 2000)))) (bOr (bTest (eOp gGt (eVar 5) (eC (.int 100)))) (bNot (bTruth (eFn FIsNode (aCons (eVar 4) (aCons (eVar 1) aNil))))))) (sRet (eC (.bl false))) sNil)
    (sFor (iSeq (eFn FPartsOfShape (aCons (eVar 4) aNil))) (.name 6) (sDo (eMt isL gAppend (eVar 3) (aCons (eTup (aCons (eVar 6) (aCons (eOp gAdd (eVar 5) (eC (.int 1))) aNil))) aNil))))))))
    (sRet (eC (.bl true))))))
noncomputable def FIsShape : List W → Sto → Rz W := mkF 2 7 BIsShape
noncomputable def BMeasures : FS := (sCons (sSet 1 (eC (.int 0)))
    (sCons (sSet 2 (eC (.int 0)))
    (sCons (sSet 3 (eLst (aCons (eTup (aCons (eVar 0) (aCons (eC (.int 1)) aNil))) aNil)))
    (sCons (sWh (fun _ _ => 100000) (bTruth (eVar 3)) (sCons (sAsg (.tup [(.name 4), (.name 5)]) (eMt isL gPop (eVar 3) aNil))
    (sCons (sAug 1 gIAdd (eC (.int 1)))
    (sCons (sSet 2 (eFn gMax2 (aCons (eVar 2) (aCons (eVar 5) aNil))))
    (sFor (iSeq (eFn FPartsOfShape (aCons (eVar 4) aNil))) (.name 6) (sDo (eMt isL gAppend (eVar 3) (aCons (eTup (aCons (eVar 6) (aCons (eOp gAdd (eVar 5) (eC (.int 1))) aNil))) aNil))))))))
    (sRet (eTup (aCons (eVar 1) (aCons (eVar 2) aNil))))))))
noncomputable def FMeasures : List W → Sto → Rz W := mkF 1 7 BMeasures
noncomputable def BSize : FS := (sRet (eOp gIx (eFn FMeasures (aCons (eVar 0) aNil)) (eC (.int 0))))
noncomputable def FSize : List W → Sto → Rz W := mkF 1 1 BSize
noncomputable def BDepth : FS := (sRet (eOp gIx (eFn FMeasures (aCons (eVar 0) aNil)) (eC (.int 1))))
noncomputable def FDepth : List W → Sto → Rz W := mkF 1 1 BDepth
noncomputable def BVariables : FS := (sCons (sSet 1 eDnew)
    (sCons (sSet 2 (eLst (aCons (eVar 0) aNil)))
    (sCons (sWh (fun _ _ => 100000) (bTruth (eVar 2)) (sCons (sSet 3 (eMt isL gPop (eVar 2) aNil))
    (sCons (sIf (bTest (eOp gEq (eOp gIx (eVar 3) (eC (.int 0))) (eC (.str "v")))) (sDput (eVar 1) (eOp gIx (eVar 3) (eC (.int 1))) (eC (.bl true))) sNil)
    (sDo (eMt isL gExtend (eVar 2) (aCons (eUn gRevT (eFn FPartsOfShape (aCons (eVar 3) aNil))) aNil))))))
    (sRet (eFn gTupleD (aCons (eVar 1) aNil))))))
noncomputable def FVariables : List W → Sto → Rz W := mkF 1 4 BVariables
noncomputable def BLawTape : FS := (sCons (sSet 2 (eLst (aCons (eC (.int 0)) aNil)))
    (sCons (sFor (iSeq (eSl gSlA (eVar 0) pNo (pAt (eC (.int 63))))) (.name 3) (sDo (eMt isL gAppend (eVar 2) (aCons (eFn gAbs (aCons (eVar 3) aNil)) aNil))))
    (sCons (sSet 4 (eFn gMaxL (aCons (eVar 2) aNil)))
    (sCons (sIf (bTest (eOp gLt (eVar 4) (eOp gPow (eC (.int 10)) (eC (.int 18))))) (sSet 4 (eC (.int 0))) sNil)
    (sCons (sSet 5 (eOp gAdd (eC (.int 12345)) (eFn gLen (aCons (eVar 2) aNil))))
    (sCons (sSet 6 (eLst aNil))
    (sCons (sFor (iRng1 (eVar 1)) (.name 7) (sIf (bTest (eOp gGt (eVar 4) (eC (.int 0)))) (sCons (sDo (eMt isL gAppend (eVar 6) (aCons (eOp gMod (eFn gInt1 (aCons (eVar 4) aNil)) (eC (.int 1009))) aNil)))
    (sSet 4 (eOp gDiv (eVar 4) (eC (.int 1009))))) (sCons (sSet 5 (eOp gMod (eFn gInt1 (aCons (eOp gAdd (eOp gAdd (eOp gMul (eVar 5) (eC (.int 48271))) (eOp gMul (eOp gIx (eVar 2) (eOp gMod (eFn gInt1 (aCons (eVar 7) aNil)) (eFn gLen (aCons (eVar 2) aNil)))) (eC (.int 69621)))) (eVar 7)) aNil)) (eC (.int 2147483647))))
    (sDo (eMt isL gAppend (eVar 6) (aCons (eOp gMod (eFn gInt1 (aCons (eOp gAdd (eOp gMul (eVar 5) (eC (.int 16807))) (eOp gMul (eVar 7) (eC (.int 7919)))) aNil)) (eC (.int 1000003))) aNil))))))
    (sRet (eVar 6)))))))))
noncomputable def FLawTape : List W → Sto → Rz W := mkF 2 8 BLawTape
noncomputable def BLawPick : FS := (sRet (eOp gMod (eFn gInt1 (aCons (eOp gIx (eVar 0) (eOp gMod (eFn gInt1 (aCons (eVar 1) aNil)) (eFn gLen (aCons (eVar 0) aNil)))) aNil)) (eVar 2)))
noncomputable def FLawPick : List W → Sto → Rz W := mkF 3 3 BLawPick
noncomputable def BLawLeaf : FS := (sCons (sSet 3 (eFn FLawPick (aCons (eVar 0) (aCons (eVar 1) (aCons (eOp gAdd (eC (.int 4)) (eFn gLen (aCons (eVar 2) aNil))) aNil)))))
    (sCons (sIf (bTest (eOp gGe (eVar 3) (eC (.int 4)))) (sRet (eTup (aCons (eC (.str "v")) (aCons (eOp gIx (eVar 2) (eOp gSub (eVar 3) (eC (.int 4)))) aNil)))) sNil)
    (sRet (eTup (aCons (eC (.str "c")) (aCons (eOp gIx (eTup (aCons (eC (.int 0)) (aCons (eC (.int 1)) (aCons (eC (.int 4)) (aCons (eC (.int 0)) aNil))))) (eVar 3)) (aCons (eTup aNil) aNil)))))))
noncomputable def FLawLeaf : List W → Sto → Rz W := mkF 3 4 BLawLeaf
noncomputable def BLawShape (fLawShape : List W → Sto → Rz W) : FS := (sCons (sSet 4 (eFn FLawPick (aCons (eVar 0) (aCons (eVar 1) (aCons (eC (.int 7)) aNil)))))
    (sCons (sIf (bOr (bTest (eOp gLe (eVar 2) (eC (.int 0)))) (bTest (eOp gLt (eVar 4) (eC (.int 2))))) (sRet (eTup (aCons (eFn FLawLeaf (aCons (eVar 0) (aCons (eOp gAdd (eVar 1) (eC (.int 1))) (aCons (eVar 3) aNil)))) (aCons (eOp gAdd (eVar 1) (eC (.int 2))) aNil)))) sNil)
    (sCons (sIf (bTest (eOp gLt (eVar 4) (eC (.int 4)))) (sCons (sAsg (.tup [(.name 5), (.name 1)]) (eFn fLawShape (aCons (eVar 0) (aCons (eOp gAdd (eVar 1) (eC (.int 1))) (aCons (eOp gSub (eVar 2) (eC (.int 1))) (aCons (eVar 3) aNil))))))
    (sCons (sAsg (.tup [(.name 6), (.name 1)]) (eFn fLawShape (aCons (eVar 0) (aCons (eVar 1) (aCons (eOp gSub (eVar 2) (eC (.int 1))) (aCons (eVar 3) aNil))))))
    (sRet (eTup (aCons (eTup (aCons (eC (.str "f")) (aCons (eVar 5) (aCons (eVar 6) aNil)))) (aCons (eVar 1) aNil)))))) sNil)
    (sCons (sIf (bTest (eOp gEq (eVar 4) (eC (.int 4)))) (sCons (sAsg (.tup [(.name 7), (.name 1)]) (eFn fLawShape (aCons (eVar 0) (aCons (eOp gAdd (eVar 1) (eC (.int 1))) (aCons (eOp gSub (eVar 2) (eC (.int 1))) (aCons (eVar 3) aNil))))))
    (sRet (eTup (aCons (eTup (aCons (eC (.str "c")) (aCons (eOp gIx (eTup (aCons (eC (.int 3)) (aCons (eC (.int 5)) (aCons (eC (.int 6)) aNil)))) (eFn FLawPick (aCons (eVar 0) (aCons (eVar 1) (aCons (eC (.int 3)) aNil))))) (aCons (eTup (aCons (eVar 7) aNil)) aNil)))) (aCons (eOp gAdd (eVar 1) (eC (.int 1))) aNil))))) sNil)
    (sCons (sSet 8 (eLst aNil))
    (sCons (sSet 9 (eOp gAdd (eC (.int 2)) (eOp gDiv (eFn FLawPick (aCons (eVar 0) (aCons (eOp gAdd (eVar 1) (eC (.int 1))) (aCons (eC (.int 5)) aNil)))) (eC (.int 2)))))
    (sCons (sSet 1 (eOp gAdd (eVar 1) (eC (.int 2))))
    (sCons (sFor (iRng1 (eVar 9)) (.name 10) (sCons (sAsg (.tup [(.name 11), (.name 1)]) (eFn fLawShape (aCons (eVar 0) (aCons (eVar 1) (aCons (eOp gSub (eVar 2) (eC (.int 1))) (aCons (eVar 3) aNil))))))
    (sDo (eMt isL gAppend (eVar 8) (aCons (eVar 11) aNil)))))
    (sRet (eTup (aCons (eTup (aCons (eC (.str "t")) (aCons (eFn gTuple (aCons (eVar 8) aNil)) aNil))) (aCons (eVar 1) aNil))))))))))))
noncomputable def FLawShape : Nat → List W → Sto → Rz W
  | 0 => fun _ _ => none
  | n + 1 => mkF 4 12 (BLawShape (FLawShape n))
noncomputable def BLawParts : FS := (sCons (sIf (bTest (eOp gEq (eOp gIx (eVar 0) (eC (.int 0))) (eC (.str "v")))) (sRet (eTup aNil)) sNil)
    (sCons (sIf (bTest (eOp gEq (eOp gIx (eVar 0) (eC (.int 0))) (eC (.str "c")))) (sRet (eOp gIx (eVar 0) (eC (.int 2)))) sNil)
    (sCons (sIf (bTest (eOp gEq (eOp gIx (eVar 0) (eC (.int 0))) (eC (.str "t")))) (sRet (eOp gIx (eVar 0) (eC (.int 1)))) sNil)
    (sRet (eTup (aCons (eOp gIx (eVar 0) (eC (.int 1))) (aCons (eOp gIx (eVar 0) (eC (.int 2))) aNil)))))))
noncomputable def FLawParts : List W → Sto → Rz W := mkF 1 1 BLawParts
noncomputable def BLawRebuilt : FS := (sCons (sIf (bTest (eOp gEq (eOp gIx (eVar 0) (eC (.int 0))) (eC (.str "c")))) (sRet (eTup (aCons (eC (.str "c")) (aCons (eOp gIx (eVar 0) (eC (.int 1))) (aCons (eFn gTuple (aCons (eVar 1) aNil)) aNil))))) sNil)
    (sCons (sIf (bTest (eOp gEq (eOp gIx (eVar 0) (eC (.int 0))) (eC (.str "t")))) (sRet (eTup (aCons (eC (.str "t")) (aCons (eFn gTuple (aCons (eVar 1) aNil)) aNil)))) sNil)
    (sRet (eTup (aCons (eC (.str "f")) (aCons (eOp gIx (eVar 1) (eC (.int 0))) (aCons (eOp gIx (eVar 1) (eC (.int 1))) aNil)))))))
noncomputable def FLawRebuilt : List W → Sto → Rz W := mkF 2 2 BLawRebuilt
noncomputable def BLawVariables (fLawVariables : List W → Sto → Rz W) : FS := (sCons (sIf (bTest (eOp gEq (eOp gIx (eVar 0) (eC (.int 0))) (eC (.str "v")))) (sIf (bTest (eOp gNotIn (eOp gIx (eVar 0) (eC (.int 1))) (eVar 1))) (sDo (eMt isL gAppend (eVar 1) (aCons (eOp gIx (eVar 0) (eC (.int 1))) aNil))) sNil) (sFor (iSeq (eFn FLawParts (aCons (eVar 0) aNil))) (.name 2) (sDo (eFn fLawVariables (aCons (eVar 2) (aCons (eVar 1) aNil))))))
    (sRet (eVar 1)))
noncomputable def FLawVariables : Nat → List W → Sto → Rz W
  | 0 => fun _ _ => none
  | n + 1 => mkF 2 3 (BLawVariables (FLawVariables n))
noncomputable def BLawCount (fLawCount : List W → Sto → Rz W) : FS := (sCons (sSet 1 (eC (.int 1)))
    (sCons (sFor (iSeq (eFn FLawParts (aCons (eVar 0) aNil))) (.name 2) (sSet 1 (eOp gAdd (eVar 1) (eFn fLawCount (aCons (eVar 2) aNil)))))
    (sRet (eVar 1))))
noncomputable def FLawCount : Nat → List W → Sto → Rz W
  | 0 => fun _ _ => none
  | n + 1 => mkF 1 3 (BLawCount (FLawCount n))
noncomputable def BLawDeep (fLawDeep : List W → Sto → Rz W) : FS := (sCons (sSet 1 (eC (.int 0)))
    (sCons (sFor (iSeq (eFn FLawParts (aCons (eVar 0) aNil))) (.name 2) (sSet 1 (eFn gMax2 (aCons (eVar 1) (aCons (eFn fLawDeep (aCons (eVar 2) aNil)) aNil)))))
    (sRet (eOp gAdd (eVar 1) (eC (.int 1))))))
noncomputable def FLawDeep : Nat → List W → Sto → Rz W
  | 0 => fun _ _ => none
  | n + 1 => mkF 1 3 (BLawDeep (FLawDeep n))
noncomputable def BLawWrong : FS := (sRet (eOp gIx (eTup (aCons (eTup (aCons (eC (.str "c")) (aCons (eC (.str "a")) (aCons (eTup aNil) aNil)))) (aCons (eTup (aCons (eC (.str "c")) (aCons (eC (.int 8)) (aCons (eTup aNil) aNil)))) (aCons (eTup (aCons (eC (.str "c")) (aCons (eC (.int 3)) (aCons (eTup aNil) aNil)))) (aCons (eTup (aCons (eC (.str "c")) (aCons (eC (.int 0)) (aCons (eTup (aCons (eTup (aCons (eC (.str "c")) (aCons (eC (.int 0)) (aCons (eTup aNil) aNil)))) aNil)) aNil)))) (aCons (eTup (aCons (eC (.str "t")) (aCons (eTup (aCons (eTup (aCons (eC (.str "c")) (aCons (eC (.int 0)) (aCons (eTup aNil) aNil)))) aNil)) aNil))) (aCons (eTup (aCons (eC (.str "t")) (aCons (eOp gMul (eTup (aCons (eTup (aCons (eC (.str "v")) (aCons (eC (.int 1000000)) aNil))) aNil)) (eC (.int 7))) aNil))) (aCons (eTup (aCons (eC (.str "v")) (aCons (eUn gNeg (eC (.int 1))) aNil))) (aCons (eTup (aCons (eC (.str "v")) (aCons (eC (.str "a")) aNil))) (aCons (eC (.str "v")) (aCons (eTup (aCons (eC (.str "f")) (aCons (eTup (aCons (eC (.str "c")) (aCons (eC (.int 0)) (aCons (eTup aNil) aNil)))) aNil))) (aCons (eTup (aCons (eC (.str "v")) aNil)) (aCons (eTup aNil) (aCons (eTup (aCons (eC (.str "c")) (aCons (eUn gNeg (eC (.int 1))) (aCons (eTup aNil) aNil)))) (aCons (eTup (aCons (eC (.str "x")) (aCons (eTup (aCons (eC (.str "c")) (aCons (eC (.int 0)) (aCons (eTup aNil) aNil)))) (aCons (eTup (aCons (eC (.str "c")) (aCons (eC (.int 0)) (aCons (eTup aNil) aNil)))) aNil)))) (aCons (eC (.int 5)) aNil)))))))))))))))) (eVar 0)))
noncomputable def FLawWrong : List W → Sto → Rz W := mkF 1 1 BLawWrong
noncomputable def BLawSpoilt (fLawSpoilt : List W → Sto → Rz W) : FS := (sCons (sSet 3 (eFn FLawParts (aCons (eVar 0) aNil)))
    (sCons (sIf (bOr (bTest (eOp gEq (eFn gLen (aCons (eVar 3) aNil)) (eC (.int 0)))) (bTest (eOp gEq (eFn FLawPick (aCons (eVar 1) (aCons (eVar 2) (aCons (eC (.int 3)) aNil)))) (eC (.int 0))))) (sRet (eFn FLawWrong (aCons (eFn FLawPick (aCons (eVar 1) (aCons (eOp gAdd (eVar 2) (eC (.int 1))) (aCons (eC (.int 15)) aNil)))) aNil))) sNil)
    (sCons (sSet 4 (eFn FLawPick (aCons (eVar 1) (aCons (eOp gAdd (eVar 2) (eC (.int 2))) (aCons (eFn gLen (aCons (eVar 3) aNil)) aNil)))))
    (sCons (sSet 5 (eLc [6] (iSeq (eVar 3)) (.name 6) bYes (eVar 6)))
    (sCons (sPut (eVar 5) (eVar 4) (eFn fLawSpoilt (aCons (eOp gIx (eVar 3) (eVar 4)) (aCons (eVar 1) (aCons (eOp gAdd (eVar 2) (eC (.int 3))) aNil)))))
    (sRet (eFn FLawRebuilt (aCons (eVar 0) (aCons (eVar 5) aNil)))))))))
noncomputable def FLawSpoilt : Nat → List W → Sto → Rz W
  | 0 => fun _ _ => none
  | n + 1 => mkF 3 7 (BLawSpoilt (FLawSpoilt n))
noncomputable def BLawNodes (fLawNodes : List W → Sto → Rz W) : FS := (sCons (sIf (bTest (eOp gEq (eVar 0) (eC (.int 1)))) (sRet (eTup (aCons (eC (.str "c")) (aCons (eC (.int 2)) (aCons (eTup aNil) aNil))))) sNil)
    (sCons (sIf (bTest (eOp gEq (eVar 0) (eC (.int 2)))) (sRet (eTup (aCons (eC (.str "c")) (aCons (eC (.int 5)) (aCons (eTup (aCons (eTup (aCons (eC (.str "c")) (aCons (eC (.int 7)) (aCons (eTup aNil) aNil)))) aNil)) aNil))))) sNil)
    (sCons (sSet 1 (eOp gDiv (eOp gSub (eVar 0) (eC (.int 1))) (eC (.int 2))))
    (sRet (eTup (aCons (eC (.str "f")) (aCons (eFn fLawNodes (aCons (eVar 1) aNil)) (aCons (eFn fLawNodes (aCons (eOp gSub (eOp gSub (eVar 0) (eC (.int 1))) (eVar 1)) aNil)) aNil))))))))
noncomputable def FLawNodes : Nat → List W → Sto → Rz W
  | 0 => fun _ _ => none
  | n + 1 => mkF 1 2 (BLawNodes (FLawNodes n))
noncomputable def BLawWide : FS := (sCons (sSet 3 (eLst (aCons (eVar 0) (aCons (eTup (aCons (eC (.str "c")) (aCons (eC (.int 8)) (aCons (eTup (aCons (eVar 0) (aCons (eTup (aCons (eC (.str "v")) (aCons (eC (.int 1000002)) aNil))) aNil))) aNil)))) (aCons (eTup (aCons (eC (.str "c")) (aCons (eC (.int 10)) (aCons (eOp gMul (eTup (aCons (eVar 0) aNil)) (eC (.int 4))) aNil)))) (aCons (eTup (aCons (eC (.str "c")) (aCons (eC (.int 7)) (aCons (eTup aNil) aNil)))) (aCons (eTup (aCons (eC (.str "c")) (aCons (eC (.int 9)) (aCons (eTup aNil) aNil)))) (aCons (eTup (aCons (eC (.str "c")) (aCons (eC (.int 2)) (aCons (eTup aNil) aNil)))) aNil))))))))
    (sRet (eTup (aCons (eC (.str "t")) (aCons (eFn gTuple (aCons (eSl gSlA (eVar 3) pNo (pAt (eOp gAdd (eC (.int 2)) (eFn FLawPick (aCons (eVar 1) (aCons (eVar 2) (aCons (eC (.int 5)) aNil))))))) aNil)) aNil)))))
noncomputable def FLawWide : List W → Sto → Rz W := mkF 3 4 BLawWide
noncomputable def BLawConstants : FS := (sCons (sIf (bOr (bTest (eOp gNe (eC (.int 1000000)) (eC (.int 1000000)))) (bOr (bTest (eOp gNe (eC (.int 2000)) (eC (.int 2000)))) (bOr (bTest (eOp gNe (eC (.int 100)) (eC (.int 100)))) (bTest (eOp gNe (eC (.tup [(.int 0), (.int 0), (.int 0), (.int 1), (.int 0), (.int 1), (.int 1), (.int 0)])) (eTup (aCons (eC (.int 0)) (aCons (eC (.int 0)) (aCons (eC (.int 0)) (aCons (eC (.int 1)) (aCons (eC (.int 0)) (aCons (eC (.int 1)) (aCons (eC (.int 1)) (aCons (eC (.int 0)) aNil)))))))))))))) (sRet (eC (.bl false))) sNil)
    (sRet (eOp gEq (eTup (aCons (eC (.tup [(.str "c"), (.int 0), (.tup [])])) (aCons (eC (.tup [(.str "c"), (.int 1), (.tup [])])) (aCons (eC (.tup [(.str "c"), (.int 2), (.tup [])])) (aCons (eC (.tup [(.str "c"), (.int 4), (.tup [])])) aNil))))) (eTup (aCons (eTup (aCons (eC (.str "c")) (aCons (eC (.int 0)) (aCons (eTup aNil) aNil)))) (aCons (eTup (aCons (eC (.str "c")) (aCons (eC (.int 1)) (aCons (eTup aNil) aNil)))) (aCons (eTup (aCons (eC (.str "c")) (aCons (eC (.int 2)) (aCons (eTup aNil) aNil)))) (aCons (eTup (aCons (eC (.str "c")) (aCons (eC (.int 4)) (aCons (eTup aNil) aNil)))) aNil))))))))
noncomputable def FLawConstants : List W → Sto → Rz W := mkF 0 0 BLawConstants
noncomputable def BLawSame : FS := (sRet (eAnd (eIsi "int" (eVar 0)) (eAnd (eNot (eIsi "bool" (eVar 0))) (eOp gEq (eVar 0) (eVar 1)))))
noncomputable def FLawSame : List W → Sto → Rz W := mkF 2 2 BLawSame
noncomputable def BLaw : FS := (sCons (sSet 1 (eTup (aCons (eC (.int 0)) (aCons (eC (.int 0)) (aCons (eC (.int 0)) (aCons (eC (.int 1)) (aCons (eC (.int 0)) (aCons (eC (.int 1)) (aCons (eC (.int 1)) (aCons (eC (.int 0)) aNil))))))))))
    (sCons (sSet 2 (eFn FLawTape (aCons (eVar 0) (aCons (eC (.int 120)) aNil))))
    (sCons (sAsg (.tup [(.name 3), (.name 4)]) (eFn (FLawShape 8) (aCons (eVar 2) (aCons (eC (.int 1)) (aCons (eOp gAdd (eC (.int 1)) (eFn FLawPick (aCons (eVar 2) (aCons (eC (.int 0)) (aCons (eC (.int 4)) aNil))))) (aCons (eLst (aCons (eC (.int 1000000)) (aCons (eC (.int 1000007)) (aCons (eC (.int 0)) (aCons (eC (.int 3)) aNil))))) aNil))))))
    (sCons (sIf (bTest (eOp gEq (eFn FLawPick (aCons (eVar 2) (aCons (eVar 4) (aCons (eC (.int 8)) aNil)))) (eC (.int 5)))) (sCons (sSet 5 (eOp gAdd (eC (.int 90)) (eFn FLawPick (aCons (eVar 2) (aCons (eOp gAdd (eVar 4) (eC (.int 1))) (aCons (eC (.int 21)) aNil))))))
    (sCons (sSet 3 (eTup (aCons (eC (.str "v")) (aCons (eC (.int 1000003)) aNil))))
    (sCons (sFor (iRng1 (eOp gSub (eVar 5) (eC (.int 1)))) (.name 6) (sSet 3 (eTup (aCons (eC (.str "f")) (aCons (eTup (aCons (eC (.str "c")) (aCons (eC (.int 0)) (aCons (eTup aNil) aNil)))) (aCons (eVar 3) aNil))))))
    (sRet (eOp gEq (eFn FIsShape (aCons (eVar 3) (aCons (eVar 1) aNil))) (eOp gLe (eVar 5) (eC (.int 100)))))))) sNil)
    (sCons (sSet 7 (eOp gAdd (eC (.int 1990)) (eFn FLawPick (aCons (eVar 2) (aCons (eOp gAdd (eVar 4) (eC (.int 5))) (aCons (eC (.int 21)) aNil))))))
    (sCons (sIf (bOr (bNot (bTruth (eFn FLawConstants aNil))) (bTest (eOp gNe (eFn FIsShape (aCons (eFn (FLawNodes 14) (aCons (eVar 7) aNil)) (aCons (eVar 1) aNil))) (eOp gLe (eVar 7) (eC (.int 2000)))))) (sRet (eC (.bl false))) sNil)
    (sCons (sSet 8 (eFn FLawWide (aCons (eOp gIx (eFn (FLawShape 8) (aCons (eVar 2) (aCons (eC (.int 50)) (aCons (eC (.int 2)) (aCons (eLst (aCons (eC (.int 1000000)) (aCons (eC (.int 4)) aNil))) aNil))))) (eC (.int 0))) (aCons (eVar 2) (aCons (eOp gAdd (eVar 4) (eC (.int 6))) aNil)))))
    (sCons (sIf (bOr (bTest (eOp gIsNot (eFn FIsShape (aCons (eVar 8) (aCons (eOp gAdd (eVar 1) (eTup (aCons (eC (.int 2)) (aCons (eC (.int 0)) (aCons (eC (.int 4)) aNil))))) aNil))) (eC (.bl true)))) (bTest (eOp gIsNot (eFn FIsShape (aCons (eVar 8) (aCons (eVar 1) aNil))) (eC (.bl false))))) (sRet (eC (.bl false))) sNil)
    (sCons (sIf (bOr (bNot (bTruth (eFn FLawSame (aCons (eFn FSize (aCons (eVar 8) aNil)) (aCons (eFn (FLawCount 12) (aCons (eVar 8) aNil)) aNil))))) (bNot (bTruth (eFn FLawSame (aCons (eFn FDepth (aCons (eVar 8) aNil)) (aCons (eFn (FLawDeep 12) (aCons (eVar 8) aNil)) aNil)))))) (sRet (eC (.bl false))) sNil)
    (sCons (sIf (bOr (bTest (eOp gIsNot (eFn FIsShape (aCons (eVar 3) (aCons (eVar 1) aNil))) (eC (.bl true)))) (bNot (bTruth (eFn FLawSame (aCons (eFn FSize (aCons (eVar 3) aNil)) (aCons (eFn (FLawCount 12) (aCons (eVar 3) aNil)) aNil)))))) (sRet (eC (.bl false))) sNil)
    (sCons (sIf (bNot (bTruth (eFn FLawSame (aCons (eFn FDepth (aCons (eVar 3) aNil)) (aCons (eFn (FLawDeep 12) (aCons (eVar 3) aNil)) aNil))))) (sRet (eC (.bl false))) sNil)
    (sCons (sSet 9 (eFn FVariables (aCons (eVar 3) aNil)))
    (sCons (sIf (bOr (bNot (bTruth (eIsi "tuple" (eVar 9)))) (bTest (eOp gNe (eFn gList (aCons (eVar 9) aNil)) (eFn (FLawVariables 10) (aCons (eVar 3) (aCons (eLst aNil) aNil)))))) (sRet (eC (.bl false))) sNil)
    (sRet (eOp gIs (eFn FIsShape (aCons (eFn (FLawSpoilt 10) (aCons (eVar 3) (aCons (eVar 2) (aCons (eOp gAdd (eVar 4) (eC (.int 2))) aNil)))) (aCons (eVar 1) aNil))) (eC (.bl false)))))))))))))))))
noncomputable def FLaw : List W → Sto → Rz W := mkF 1 10 BLaw
end K10

set_option Elab.async false
set_option linter.all false
set_option maxRecDepth 100000
namespace K10
open PySem PySem.Spec PyProof.Rows L2 Mir
theorem okIsNumber {P : Program} {w : World} {K : PySem.W.Frag} {mg : Str → Option Value} {base : Heap} {f : Addr} {fd : FuncData} {k : Nat} (F : Fun K "is_number" "is_number" sIsNumber f fd) (hb : Binds K fd ["value"] []) (hm : mg "is_number" = some (.ref f)) (nb_bool : mg "bool" = none) (nb_int : mg "int" = none) (nb_isinstance : mg "isinstance" = none) : Own P w K mg base (k + 1) "is_number" ["value"] FIsNumber :=
  own_of F scIsNumber hb hm fun cdv A outer s H E hr =>
    (mss_one (ms_ret (m_and (m_isi kit_int rfl nb_isinstance rfl nb_int (by decide +kernel) (m_var 0)) (m_and (m_not (m_isi kit_bool rfl nb_isinstance rfl nb_bool (by decide +kernel) (m_var 0))) (m_one (m_cmp op_ge f_ge (m_var 0) m_int (nomark _)))))))
theorem okIsList {P : Program} {w : World} {K : PySem.W.Frag} {mg : Str → Option Value} {base : Heap} {f : Addr} {fd : FuncData} {k : Nat} (F : Fun K "is_list" "is_list" sIsList f fd) (hb : Binds K fd ["value", "low", "high"] []) (hm : mg "is_list" = some (.ref f)) (nb_isinstance : mg "isinstance" = none) (nb_len : mg "len" = none) (nb_tuple : mg "tuple" = none) : Own P w K mg base (k + 1) "is_list" ["value", "low", "high"] FIsList :=
  own_of F scIsList hb hm fun cdv A outer s H E hr =>
    (mss_one (ms_ret (m_and (m_isi kit_tuple rfl nb_isinstance rfl nb_tuple (by decide +kernel) (m_var 0)) (m_one (m_chain op_le op_le f_le f_le (m_var 1) (m_callB call_lenA f_len rfl nb_len (by decide +kernel) (ma_cons (m_var 0) ma_nil)) (m_var 2))))))
theorem okPartsOfShape {P : Program} {w : World} {K : PySem.W.Frag} {mg : Str → Option Value} {base : Heap} {f : Addr} {fd : FuncData} {k : Nat} (F : Fun K "parts_of_shape" "parts_of_shape" sPartsOfShape f fd) (hb : Binds K fd ["shape"] []) (hm : mg "parts_of_shape" = some (.ref f)) : Own P w K mg base (k + 1) "parts_of_shape" ["shape"] FPartsOfShape :=
  own_of F scPartsOfShape hb hm fun cdv A outer s H E hr =>
    (mss_cons (ms_if (mt_cmp (op_eqA hr.units) f_eq (m_ix ix_seq f_ix (m_var 0) m_int (fun _ _ => rfl)) m_str (nomark _)) (mss_one (ms_ret (m_tup ma_nil))) mss_nil)
    (mss_cons (ms_if (mt_cmp (op_eqA hr.units) f_eq (m_ix ix_seq f_ix (m_var 0) m_int (fun _ _ => rfl)) m_str (nomark _)) (mss_one (ms_ret (m_slice sl_any f_sl (m_var 0) (mp_some m_int) mp_none))) mss_nil)
    (mss_one (ms_ret (m_ix ix_seq f_ix (m_var 0) (m_un un_neg f_neg m_int) (fun _ _ => rfl))))))
theorem okIsNode {P : Program} {w : World} {K : PySem.W.Frag} {mg : Str → Option Value} {base : Heap} {f : Addr} {fd : FuncData} {k : Nat} (F : Fun K "is_node" "is_node" sIsNode f fd) (hb : Binds K fd ["value", "arities"] []) (hm : mg "is_node" = some (.ref f)) (OIsNumber : Own P w K mg base k "is_number" ["value"] FIsNumber) (OIsList : Own P w K mg base k "is_list" ["value", "low", "high"] FIsList) (nb_isinstance : mg "isinstance" = none) (nb_len : mg "len" = none) (nb_tuple : mg "tuple" = none) : Own P w K mg base (k + 1) "is_node" ["value", "arities"] FIsNode :=
  own_of F scIsNode hb hm fun cdv A outer s H E hr =>
    (mss_cons (ms_if (PW.pt (mw_or (mt_not (mt_truth (m_isi kit_tuple rfl nb_isinstance rfl nb_tuple (by decide +kernel) (m_var 0)))) (mw_or1 (mt_cmp op_lt f_lt (m_callB call_lenA f_len rfl nb_len (by decide +kernel) (ma_cons (m_var 0) ma_nil)) m_int (nomark _))))) (mss_one (ms_ret m_bl)) mss_nil)
    (mss_cons (ms_if (mt_cmp (op_eqA hr.units) f_eq (m_ix ix_seq f_ix (m_var 0) m_int (fun _ _ => rfl)) m_str (nomark _)) (mss_one (ms_ret (m_and (m_cmp (op_eqA hr.units) f_eq (m_callB call_lenA f_len rfl nb_len (by decide +kernel) (ma_cons (m_var 0) ma_nil)) m_int (nomark _)) (m_one (m_call OIsNumber hr rfl (ma_cons (m_ix ix_seq f_ix (m_var 0) m_int (fun _ _ => rfl)) ma_nil)))))) mss_nil)
    (mss_cons (ms_if (mt_cmp (op_eqA hr.units) f_eq (m_ix ix_seq f_ix (m_var 0) m_int (fun _ _ => rfl)) m_str (nomark _)) (mss_one (ms_ret (m_cmp (op_eqA hr.units) f_eq (m_callB call_lenA f_len rfl nb_len (by decide +kernel) (ma_cons (m_var 0) ma_nil)) m_int (nomark _)))) mss_nil)
    (mss_cons (ms_if (mt_cmp (op_eqA hr.units) f_eq (m_ix ix_seq f_ix (m_var 0) m_int (fun _ _ => rfl)) m_str (nomark _)) (mss_one (ms_ret (m_and (m_cmp (op_eqA hr.units) f_eq (m_callB call_lenA f_len rfl nb_len (by decide +kernel) (ma_cons (m_var 0) ma_nil)) m_int (nomark _)) (m_one (m_call OIsList hr rfl (ma_cons (m_ix ix_seq f_ix (m_var 0) m_int (fun _ _ => rfl)) (ma_cons m_int (ma_cons m_int ma_nil)))))))) mss_nil)
    (mss_cons (ms_if (PW.pt (mw_or (mt_cmp (op_neA hr.units) f_ne (m_ix ix_seq f_ix (m_var 0) m_int (fun _ _ => rfl)) m_str (nomark _)) (mw_or (mt_cmp (op_neA hr.units) f_ne (m_callB call_lenA f_len rfl nb_len (by decide +kernel) (ma_cons (m_var 0) ma_nil)) m_int (nomark _)) (mw_or (mt_not (mt_truth (m_call OIsNumber hr rfl (ma_cons (m_ix ix_seq f_ix (m_var 0) m_int (fun _ _ => rfl)) ma_nil)))) (mw_or1 (mt_cmp op_ge f_ge (m_ix ix_seq f_ix (m_var 0) m_int (fun _ _ => rfl)) (m_callB call_lenA f_len rfl nb_len (by decide +kernel) (ma_cons (m_var 1) ma_nil)) (nomark _))))))) (mss_one (ms_ret m_bl)) mss_nil)
    (mss_one (ms_ret (m_and (m_isi kit_tuple rfl nb_isinstance rfl nb_tuple (by decide +kernel) (m_ix ix_seq f_ix (m_var 0) m_int (fun _ _ => rfl))) (m_one (m_cmp (op_eqA hr.units) f_eq (m_callB call_lenA f_len rfl nb_len (by decide +kernel) (ma_cons (m_ix ix_seq f_ix (m_var 0) m_int (fun _ _ => rfl)) ma_nil)) (m_ix ix_seq f_ix (m_var 1) (m_ix ix_seq f_ix (m_var 0) m_int (fun _ _ => rfl)) (fun _ _ => rfl)) (nomark _)))))))))))
theorem okIsShape {P : Program} {w : World} {K : PySem.W.Frag} {mg : Str → Option Value} {base : Heap} {f : Addr} {fd : FuncData} {k : Nat} (F : Fun K "is_shape" "is_shape" sIsShape f fd) (hb : Binds K fd ["value", "arities"] []) (hm : mg "is_shape" = some (.ref f)) (OPartsOfShape : Own P w K mg base k "parts_of_shape" ["shape"] FPartsOfShape) (OIsNode : Own P w K mg base k "is_node" ["value", "arities"] FIsNode) (c_MAX_DEPTH : Cst K mg "MAX_DEPTH" (.int 100)) (c_MAX_SIZE : Cst K mg "MAX_SIZE" (.int 2000)) : Own P w K mg base (k + 1) "is_shape" ["value", "arities"] FIsShape :=
  own_of F scIsShape hb hm fun cdv A outer s H E hr =>
    (mss_cons (ms_set (i := 2) scIsShape.nd rfl (.inl rfl) m_int)
    (mss_cons (ms_set (i := 3) scIsShape.nd rfl (.inl rfl) (m_lst (ma_cons (m_tup (ma_cons (m_var 0) (ma_cons m_int ma_nil))) ma_nil)))
    (mss_cons (ms_while (n := (fun _ _ => 100000)) PassesOwn.never (mt_truth (m_var 3)) (mss_cons (ms_asg (t := (.tup [(.name 4), (.name 5)])) (m_pop (m_var 3)) (pg_tup rfl (pgs_cons (pg_name (i := 4) scIsShape.nd rfl (.inl rfl)) (pgs_cons (pg_name (i := 5) scIsShape.nd rfl (.inl rfl)) pgs_nil))))
    (mss_cons (ms_aug (i := 2) scIsShape.nd rfl (.inl rfl) m_int ip_addA f_iadd)
    (mss_cons (ms_if (PW.pt (mw_or (mt_cmp op_gt f_gt (m_var 2) (m_glob c_MAX_SIZE rfl) (nomark _)) (mw_or (mt_cmp op_gt f_gt (m_var 5) (m_glob c_MAX_DEPTH rfl) (nomark _)) (mw_or1 (mt_not (mt_truth (m_call OIsNode hr rfl (ma_cons (m_var 4) (ma_cons (m_var 1) ma_nil))))))))) (mss_one (ms_ret m_bl)) mss_nil)
    (mss_one (ms_for (t := (.name 6)) PassesOwn.never rfl (mi_seq (m_call OPartsOfShape hr rfl (ma_cons (m_var 4) ma_nil))) (pg_name (i := 6) scIsShape.nd rfl (.inl rfl)) (mss_one (ms_expr (m_append (m_var 3) (ma_cons (m_tup (ma_cons (m_var 6) (ma_cons (m_op op_addA f_add (m_var 5) m_int) ma_nil))) ma_nil))))))))))
    (mss_one (ms_ret m_bl)))))
theorem okMeasures {P : Program} {w : World} {K : PySem.W.Frag} {mg : Str → Option Value} {base : Heap} {f : Addr} {fd : FuncData} {k : Nat} (F : Fun K "measures" "measures" sMeasures f fd) (hb : Binds K fd ["shape"] []) (hm : mg "measures" = some (.ref f)) (OPartsOfShape : Own P w K mg base k "parts_of_shape" ["shape"] FPartsOfShape) (nb_max : mg "max" = none) : Own P w K mg base (k + 1) "measures" ["shape"] FMeasures :=
  own_of F scMeasures hb hm fun cdv A outer s H E hr =>
    (mss_cons (ms_set (i := 1) scMeasures.nd rfl (.inl rfl) m_int)
    (mss_cons (ms_set (i := 2) scMeasures.nd rfl (.inl rfl) m_int)
    (mss_cons (ms_set (i := 3) scMeasures.nd rfl (.inl rfl) (m_lst (ma_cons (m_tup (ma_cons (m_var 0) (ma_cons m_int ma_nil))) ma_nil)))
    (mss_cons (ms_while (n := (fun _ _ => 100000)) PassesOwn.never (mt_truth (m_var 3)) (mss_cons (ms_asg (t := (.tup [(.name 4), (.name 5)])) (m_pop (m_var 3)) (pg_tup rfl (pgs_cons (pg_name (i := 4) scMeasures.nd rfl (.inl rfl)) (pgs_cons (pg_name (i := 5) scMeasures.nd rfl (.inl rfl)) pgs_nil))))
    (mss_cons (ms_aug (i := 1) scMeasures.nd rfl (.inl rfl) m_int ip_addA f_iadd)
    (mss_cons (ms_set (i := 2) scMeasures.nd rfl (.inl rfl) (m_callB (call_max2 rfl) f_max2 rfl nb_max (by decide +kernel) (ma_cons (m_var 2) (ma_cons (m_var 5) ma_nil))))
    (mss_one (ms_for (t := (.name 6)) PassesOwn.never rfl (mi_seq (m_call OPartsOfShape hr rfl (ma_cons (m_var 4) ma_nil))) (pg_name (i := 6) scMeasures.nd rfl (.inl rfl)) (mss_one (ms_expr (m_append (m_var 3) (ma_cons (m_tup (ma_cons (m_var 6) (ma_cons (m_op op_addA f_add (m_var 5) m_int) ma_nil))) ma_nil))))))))))
    (mss_one (ms_ret (m_tup (ma_cons (m_var 1) (ma_cons (m_var 2) ma_nil)))))))))
theorem okSize {P : Program} {w : World} {K : PySem.W.Frag} {mg : Str → Option Value} {base : Heap} {f : Addr} {fd : FuncData} {k : Nat} (F : Fun K "size" "size" sSize f fd) (hb : Binds K fd ["shape"] []) (hm : mg "size" = some (.ref f)) (OMeasures : Own P w K mg base k "measures" ["shape"] FMeasures) : Own P w K mg base (k + 1) "size" ["shape"] FSize :=
  own_of F scSize hb hm fun cdv A outer s H E hr =>
    (mss_one (ms_ret (m_ix ix_seq f_ix (m_call OMeasures hr rfl (ma_cons (m_var 0) ma_nil)) m_int (fun _ _ => rfl))))
theorem okDepth {P : Program} {w : World} {K : PySem.W.Frag} {mg : Str → Option Value} {base : Heap} {f : Addr} {fd : FuncData} {k : Nat} (F : Fun K "depth" "depth" sDepth f fd) (hb : Binds K fd ["shape"] []) (hm : mg "depth" = some (.ref f)) (OMeasures : Own P w K mg base k "measures" ["shape"] FMeasures) : Own P w K mg base (k + 1) "depth" ["shape"] FDepth :=
  own_of F scDepth hb hm fun cdv A outer s H E hr =>
    (mss_one (ms_ret (m_ix ix_seq f_ix (m_call OMeasures hr rfl (ma_cons (m_var 0) ma_nil)) m_int (fun _ _ => rfl))))
theorem okVariables {P : Program} {w : World} {K : PySem.W.Frag} {mg : Str → Option Value} {base : Heap} {f : Addr} {fd : FuncData} {k : Nat} (F : Fun K "variables" "variables" sVariables f fd) (hb : Binds K fd ["shape"] []) (hm : mg "variables" = some (.ref f)) (OPartsOfShape : Own P w K mg base k "parts_of_shape" ["shape"] FPartsOfShape) (nb_tuple : mg "tuple" = none) : Own P w K mg base (k + 1) "variables" ["shape"] FVariables :=
  own_of F scVariables hb hm fun cdv A outer s H E hr =>
    (mss_cons (ms_set (i := 1) scVariables.nd rfl (.inl rfl) m_dnew)
    (mss_cons (ms_set (i := 2) scVariables.nd rfl (.inl rfl) (m_lst (ma_cons (m_var 0) ma_nil)))
    (mss_cons (ms_while (n := (fun _ _ => 100000)) PassesOwn.never (mt_truth (m_var 2)) (mss_cons (ms_set (i := 3) scVariables.nd rfl (.inl rfl) (m_pop (m_var 2)))
    (mss_cons (ms_if (mt_cmp (op_eqA hr.units) f_eq (m_ix ix_seq f_ix (m_var 3) m_int (fun _ _ => rfl)) m_str (nomark _)) (mss_one (ms_dput (hu_of hr) (m_var 1) (m_ix ix_seq f_ix (m_var 3) m_int (fun _ _ => rfl)) m_bl)) mss_nil)
    (mss_one (ms_expr (m_extend (m_var 2) (ma_cons (m_revT (m_call OPartsOfShape hr rfl (ma_cons (m_var 3) ma_nil))) ma_nil)))))))
    (mss_one (ms_ret (m_callTy (Vr.call_tupleD rfl) f_tupleD rfl nb_tuple (by decide +kernel) (ma_cons (m_var 1) ma_nil)))))))
theorem okLawTape {P : Program} {w : World} {K : PySem.W.Frag} {mg : Str → Option Value} {base : Heap} {f : Addr} {fd : FuncData} {k : Nat} (F : Fun K "_law_tape" "_law_tape" sLawTape f fd) (hb : Binds K fd ["script", "many"] []) (hm : mg "_law_tape" = some (.ref f)) (nb_abs : mg "abs" = none) (nb_int : mg "int" = none) (nb_len : mg "len" = none) (nb_max : mg "max" = none) (nb_range : mg "range" = none) : Own P w K mg base (k + 1) "_law_tape" ["script", "many"] FLawTape :=
  own_of F scLawTape hb hm fun cdv A outer s H E hr =>
    (mss_cons (ms_set (i := 2) scLawTape.nd rfl (.inl rfl) (m_lst (ma_cons m_int ma_nil)))
    (mss_cons (ms_for (t := (.name 3)) PassesOwn.never rfl (mi_seq (m_slice sl_any f_sl (m_var 0) mp_none (mp_some m_int))) (pg_name (i := 3) scLawTape.nd rfl (.inl rfl)) (mss_one (ms_expr (m_append (m_var 2) (ma_cons (m_callB call_abs f_abs rfl nb_abs (by decide +kernel) (ma_cons (m_var 3) ma_nil)) ma_nil)))))
    (mss_cons (ms_set (i := 4) scLawTape.nd rfl (.inl rfl) (m_callB (cr_max rfl) f_maxL rfl nb_max (by decide +kernel) (ma_cons (m_var 2) ma_nil)))
    (mss_cons (ms_if (mt_cmp op_lt f_lt (m_var 4) (m_op op_pow f_pow m_int m_int) (nomark _)) (mss_one (ms_set (i := 4) scLawTape.nd rfl (.inl rfl) m_int)) mss_nil)
    (mss_cons (ms_set (i := 5) scLawTape.nd rfl (.inl rfl) (m_op op_addA f_add m_int (m_callB call_lenA f_len rfl nb_len (by decide +kernel) (ma_cons (m_var 2) ma_nil))))
    (mss_cons (ms_set (i := 6) scLawTape.nd rfl (.inl rfl) (m_lst ma_nil))
    (mss_cons (ms_for (t := (.name 7)) PassesOwn.never rfl (mi_rng1 rfl nb_range (m_var 1)) (pg_name (i := 7) scLawTape.nd rfl (.inl rfl)) (mss_one (ms_if (mt_cmp op_gt f_gt (m_var 4) m_int (nomark _)) (mss_cons (ms_expr (m_append (m_var 6) (ma_cons (m_op op_mod f_mod (m_callTy call_int1 f_int1 rfl nb_int (by decide +kernel) (ma_cons (m_var 4) ma_nil)) m_int) ma_nil)))
    (mss_one (ms_set (i := 4) scLawTape.nd rfl (.inl rfl) (m_op op_fdiv f_div (m_var 4) m_int)))) (mss_cons (ms_set (i := 5) scLawTape.nd rfl (.inl rfl) (m_op op_mod f_mod (m_callTy call_int1 f_int1 rfl nb_int (by decide +kernel) (ma_cons (m_op op_addA f_add (m_op op_addA f_add (m_op op_mulA f_mul (m_var 5) m_int) (m_op op_mulA f_mul (m_ix ix_seq f_ix (m_var 2) (m_op op_mod f_mod (m_callTy call_int1 f_int1 rfl nb_int (by decide +kernel) (ma_cons (m_var 7) ma_nil)) (m_callB call_lenA f_len rfl nb_len (by decide +kernel) (ma_cons (m_var 2) ma_nil))) (fun _ _ => rfl)) m_int)) (m_var 7)) ma_nil)) m_int))
    (mss_one (ms_expr (m_append (m_var 6) (ma_cons (m_op op_mod f_mod (m_callTy call_int1 f_int1 rfl nb_int (by decide +kernel) (ma_cons (m_op op_addA f_add (m_op op_mulA f_mul (m_var 5) m_int) (m_op op_mulA f_mul (m_var 7) m_int)) ma_nil)) m_int) ma_nil))))))))
    (mss_one (ms_ret (m_var 6))))))))))
theorem okLawPick {P : Program} {w : World} {K : PySem.W.Frag} {mg : Str → Option Value} {base : Heap} {f : Addr} {fd : FuncData} {k : Nat} (F : Fun K "_law_pick" "_law_pick" sLawPick f fd) (hb : Binds K fd ["tape", "at", "many"] []) (hm : mg "_law_pick" = some (.ref f)) (nb_int : mg "int" = none) (nb_len : mg "len" = none) : Own P w K mg base (k + 1) "_law_pick" ["tape", "at", "many"] FLawPick :=
  own_of F scLawPick hb hm fun cdv A outer s H E hr =>
    (mss_one (ms_ret (m_op op_mod f_mod (m_callTy call_int1 f_int1 rfl nb_int (by decide +kernel) (ma_cons (m_ix ix_seq f_ix (m_var 0) (m_op op_mod f_mod (m_callTy call_int1 f_int1 rfl nb_int (by decide +kernel) (ma_cons (m_var 1) ma_nil)) (m_callB call_lenA f_len rfl nb_len (by decide +kernel) (ma_cons (m_var 0) ma_nil))) (fun _ _ => rfl)) ma_nil)) (m_var 2))))
theorem okLawLeaf {P : Program} {w : World} {K : PySem.W.Frag} {mg : Str → Option Value} {base : Heap} {f : Addr} {fd : FuncData} {k : Nat} (F : Fun K "_law_leaf" "_law_leaf" sLawLeaf f fd) (hb : Binds K fd ["tape", "at", "free"] []) (hm : mg "_law_leaf" = some (.ref f)) (OLawPick : Own P w K mg base k "_law_pick" ["tape", "at", "many"] FLawPick) (nb_len : mg "len" = none) : Own P w K mg base (k + 1) "_law_leaf" ["tape", "at", "free"] FLawLeaf :=
  own_of F scLawLeaf hb hm fun cdv A outer s H E hr =>
    (mss_cons (ms_set (i := 3) scLawLeaf.nd rfl (.inl rfl) (m_call OLawPick hr rfl (ma_cons (m_var 0) (ma_cons (m_var 1) (ma_cons (m_op op_addA f_add m_int (m_callB call_lenA f_len rfl nb_len (by decide +kernel) (ma_cons (m_var 2) ma_nil))) ma_nil)))))
    (mss_cons (ms_if (mt_cmp op_ge f_ge (m_var 3) m_int (nomark _)) (mss_one (ms_ret (m_tup (ma_cons m_str (ma_cons (m_ix ix_seq f_ix (m_var 2) (m_op op_sub f_sub (m_var 3) m_int) (fun _ _ => rfl)) ma_nil))))) mss_nil)
    (mss_one (ms_ret (m_tup (ma_cons m_str (ma_cons (m_ix ix_seq f_ix (m_tup (ma_cons m_int (ma_cons m_int (ma_cons m_int (ma_cons m_int ma_nil))))) (m_var 3) (fun _ _ => rfl)) (ma_cons (m_tup ma_nil) ma_nil))))))))
theorem okLawShape {P : Program} {w : World} {K : PySem.W.Frag} {mg : Str → Option Value} {base : Heap} {f : Addr} {fd : FuncData} {k : Nat} {fLawShape : List W → Sto → Rz W} (F : Fun K "_law_shape" "_law_shape" sLawShape f fd) (hb : Binds K fd ["tape", "at", "level", "free"] []) (hm : mg "_law_shape" = some (.ref f)) (OLawShape : Own P w K mg base k "_law_shape" ["tape", "at", "level", "free"] fLawShape) (OLawPick : Own P w K mg base k "_law_pick" ["tape", "at", "many"] FLawPick) (OLawLeaf : Own P w K mg base k "_law_leaf" ["tape", "at", "free"] FLawLeaf) (nb_range : mg "range" = none) (nb_tuple : mg "tuple" = none) : Own P w K mg base (k + 1) "_law_shape" ["tape", "at", "level", "free"] (mkF 4 12 (BLawShape fLawShape)) :=
  own_of F scLawShape hb hm fun cdv A outer s H E hr =>
    (mss_cons (ms_set (i := 4) scLawShape.nd rfl (.inl rfl) (m_call OLawPick hr rfl (ma_cons (m_var 0) (ma_cons (m_var 1) (ma_cons m_int ma_nil)))))
    (mss_cons (ms_if (PW.pt (mw_or (mt_cmp op_le f_le (m_var 2) m_int (nomark _)) (mw_or1 (mt_cmp op_lt f_lt (m_var 4) m_int (nomark _))))) (mss_one (ms_ret (m_tup (ma_cons (m_call OLawLeaf hr rfl (ma_cons (m_var 0) (ma_cons (m_op op_addA f_add (m_var 1) m_int) (ma_cons (m_var 3) ma_nil)))) (ma_cons (m_op op_addA f_add (m_var 1) m_int) ma_nil))))) mss_nil)
    (mss_cons (ms_if (mt_cmp op_lt f_lt (m_var 4) m_int (nomark _)) (mss_cons (ms_asg (t := (.tup [(.name 5), (.name 1)])) (m_call OLawShape hr rfl (ma_cons (m_var 0) (ma_cons (m_op op_addA f_add (m_var 1) m_int) (ma_cons (m_op op_sub f_sub (m_var 2) m_int) (ma_cons (m_var 3) ma_nil))))) (pg_tup rfl (pgs_cons (pg_name (i := 5) scLawShape.nd rfl (.inl rfl)) (pgs_cons (pg_name (i := 1) scLawShape.nd rfl (.inl rfl)) pgs_nil))))
    (mss_cons (ms_asg (t := (.tup [(.name 6), (.name 1)])) (m_call OLawShape hr rfl (ma_cons (m_var 0) (ma_cons (m_var 1) (ma_cons (m_op op_sub f_sub (m_var 2) m_int) (ma_cons (m_var 3) ma_nil))))) (pg_tup rfl (pgs_cons (pg_name (i := 6) scLawShape.nd rfl (.inl rfl)) (pgs_cons (pg_name (i := 1) scLawShape.nd rfl (.inl rfl)) pgs_nil))))
    (mss_one (ms_ret (m_tup (ma_cons (m_tup (ma_cons m_str (ma_cons (m_var 5) (ma_cons (m_var 6) ma_nil)))) (ma_cons (m_var 1) ma_nil))))))) mss_nil)
    (mss_cons (ms_if (mt_cmp (op_eqA hr.units) f_eq (m_var 4) m_int (nomark _)) (mss_cons (ms_asg (t := (.tup [(.name 7), (.name 1)])) (m_call OLawShape hr rfl (ma_cons (m_var 0) (ma_cons (m_op op_addA f_add (m_var 1) m_int) (ma_cons (m_op op_sub f_sub (m_var 2) m_int) (ma_cons (m_var 3) ma_nil))))) (pg_tup rfl (pgs_cons (pg_name (i := 7) scLawShape.nd rfl (.inl rfl)) (pgs_cons (pg_name (i := 1) scLawShape.nd rfl (.inl rfl)) pgs_nil))))
    (mss_one (ms_ret (m_tup (ma_cons (m_tup (ma_cons m_str (ma_cons (m_ix ix_seq f_ix (m_tup (ma_cons m_int (ma_cons m_int (ma_cons m_int ma_nil)))) (m_call OLawPick hr rfl (ma_cons (m_var 0) (ma_cons (m_var 1) (ma_cons m_int ma_nil)))) (fun _ _ => rfl)) (ma_cons (m_tup (ma_cons (m_var 7) ma_nil)) ma_nil)))) (ma_cons (m_op op_addA f_add (m_var 1) m_int) ma_nil)))))) mss_nil)
    (mss_cons (ms_set (i := 8) scLawShape.nd rfl (.inl rfl) (m_lst ma_nil))
    (mss_cons (ms_set (i := 9) scLawShape.nd rfl (.inl rfl) (m_op op_addA f_add m_int (m_op op_fdiv f_div (m_call OLawPick hr rfl (ma_cons (m_var 0) (ma_cons (m_op op_addA f_add (m_var 1) m_int) (ma_cons m_int ma_nil)))) m_int)))
    (mss_cons (ms_set (i := 1) scLawShape.nd rfl (.inl rfl) (m_op op_addA f_add (m_var 1) m_int))
    (mss_cons (ms_for (t := (.name 10)) PassesOwn.never rfl (mi_rng1 rfl nb_range (m_var 9)) (pg_name (i := 10) scLawShape.nd rfl (.inl rfl)) (mss_cons (ms_asg (t := (.tup [(.name 11), (.name 1)])) (m_call OLawShape hr rfl (ma_cons (m_var 0) (ma_cons (m_var 1) (ma_cons (m_op op_sub f_sub (m_var 2) m_int) (ma_cons (m_var 3) ma_nil))))) (pg_tup rfl (pgs_cons (pg_name (i := 11) scLawShape.nd rfl (.inl rfl)) (pgs_cons (pg_name (i := 1) scLawShape.nd rfl (.inl rfl)) pgs_nil))))
    (mss_one (ms_expr (m_append (m_var 8) (ma_cons (m_var 11) ma_nil))))))
    (mss_one (ms_ret (m_tup (ma_cons (m_tup (ma_cons m_str (ma_cons (m_callTy call_tuple_of f_tuple rfl nb_tuple (by decide +kernel) (ma_cons (m_var 8) ma_nil)) ma_nil))) (ma_cons (m_var 1) ma_nil)))))))))))))
theorem allLawShape {P : Program} {w : World} {K : PySem.W.Frag} {mg : Str → Option Value} {base : Heap} {k0 : Nat} {f0 : Addr} {d0 : FuncData} (F0 : Fun K "_law_shape" "_law_shape" sLawShape f0 d0) (b0 : Binds K d0 ["tape", "at", "level", "free"] []) (g0 : mg "_law_shape" = some (.ref f0)) (OLawPick : Own P w K mg base k0 "_law_pick" ["tape", "at", "many"] FLawPick) (OLawLeaf : Own P w K mg base k0 "_law_leaf" ["tape", "at", "free"] FLawLeaf) (nb_range : mg "range" = none) (nb_tuple : mg "tuple" = none) : ∀ n, Own P w K mg base (k0 + n) "_law_shape" ["tape", "at", "level", "free"] (FLawShape n)
  | 0 => own_none b0 F0.kp g0
  | n + 1 => by
    have h0 := allLawShape (P := P) (w := w) (base := base) (k0 := k0) F0 b0 g0 OLawPick OLawLeaf nb_range nb_tuple n
    exact okLawShape F0 b0 g0 h0 (OLawPick.mono (Nat.le_add_right _ _)) (OLawLeaf.mono (Nat.le_add_right _ _)) nb_range nb_tuple
theorem okLawParts {P : Program} {w : World} {K : PySem.W.Frag} {mg : Str → Option Value} {base : Heap} {f : Addr} {fd : FuncData} {k : Nat} (F : Fun K "_law_parts" "_law_parts" sLawParts f fd) (hb : Binds K fd ["shape"] []) (hm : mg "_law_parts" = some (.ref f)) : Own P w K mg base (k + 1) "_law_parts" ["shape"] FLawParts :=
  own_of F scLawParts hb hm fun cdv A outer s H E hr =>
    (mss_cons (ms_if (mt_cmp (op_eqA hr.units) f_eq (m_ix ix_seq f_ix (m_var 0) m_int (fun _ _ => rfl)) m_str (nomark _)) (mss_one (ms_ret (m_tup ma_nil))) mss_nil)
    (mss_cons (ms_if (mt_cmp (op_eqA hr.units) f_eq (m_ix ix_seq f_ix (m_var 0) m_int (fun _ _ => rfl)) m_str (nomark _)) (mss_one (ms_ret (m_ix ix_seq f_ix (m_var 0) m_int (fun _ _ => rfl)))) mss_nil)
    (mss_cons (ms_if (mt_cmp (op_eqA hr.units) f_eq (m_ix ix_seq f_ix (m_var 0) m_int (fun _ _ => rfl)) m_str (nomark _)) (mss_one (ms_ret (m_ix ix_seq f_ix (m_var 0) m_int (fun _ _ => rfl)))) mss_nil)
    (mss_one (ms_ret (m_tup (ma_cons (m_ix ix_seq f_ix (m_var 0) m_int (fun _ _ => rfl)) (ma_cons (m_ix ix_seq f_ix (m_var 0) m_int (fun _ _ => rfl)) ma_nil))))))))
theorem okLawRebuilt {P : Program} {w : World} {K : PySem.W.Frag} {mg : Str → Option Value} {base : Heap} {f : Addr} {fd : FuncData} {k : Nat} (F : Fun K "_law_rebuilt" "_law_rebuilt" sLawRebuilt f fd) (hb : Binds K fd ["shape", "parts"] []) (hm : mg "_law_rebuilt" = some (.ref f)) (nb_tuple : mg "tuple" = none) : Own P w K mg base (k + 1) "_law_rebuilt" ["shape", "parts"] FLawRebuilt :=
  own_of F scLawRebuilt hb hm fun cdv A outer s H E hr =>
    (mss_cons (ms_if (mt_cmp (op_eqA hr.units) f_eq (m_ix ix_seq f_ix (m_var 0) m_int (fun _ _ => rfl)) m_str (nomark _)) (mss_one (ms_ret (m_tup (ma_cons m_str (ma_cons (m_ix ix_seq f_ix (m_var 0) m_int (fun _ _ => rfl)) (ma_cons (m_callTy call_tuple_of f_tuple rfl nb_tuple (by decide +kernel) (ma_cons (m_var 1) ma_nil)) ma_nil)))))) mss_nil)
    (mss_cons (ms_if (mt_cmp (op_eqA hr.units) f_eq (m_ix ix_seq f_ix (m_var 0) m_int (fun _ _ => rfl)) m_str (nomark _)) (mss_one (ms_ret (m_tup (ma_cons m_str (ma_cons (m_callTy call_tuple_of f_tuple rfl nb_tuple (by decide +kernel) (ma_cons (m_var 1) ma_nil)) ma_nil))))) mss_nil)
    (mss_one (ms_ret (m_tup (ma_cons m_str (ma_cons (m_ix ix_seq f_ix (m_var 1) m_int (fun _ _ => rfl)) (ma_cons (m_ix ix_seq f_ix (m_var 1) m_int (fun _ _ => rfl)) ma_nil))))))))
theorem okLawVariables {P : Program} {w : World} {K : PySem.W.Frag} {mg : Str → Option Value} {base : Heap} {f : Addr} {fd : FuncData} {k : Nat} {fLawVariables : List W → Sto → Rz W} (F : Fun K "_law_variables" "_law_variables" sLawVariables f fd) (hb : Binds K fd ["shape", "found"] []) (hm : mg "_law_variables" = some (.ref f)) (OLawParts : Own P w K mg base k "_law_parts" ["shape"] FLawParts) (OLawVariables : Own P w K mg base k "_law_variables" ["shape", "found"] fLawVariables) : Own P w K mg base (k + 1) "_law_variables" ["shape", "found"] (mkF 2 3 (BLawVariables fLawVariables)) :=
  own_of F scLawVariables hb hm fun cdv A outer s H E hr =>
    (mss_cons (ms_if (mt_cmp (op_eqA hr.units) f_eq (m_ix ix_seq f_ix (m_var 0) m_int (fun _ _ => rfl)) m_str (nomark _)) (mss_one (ms_if (mt_cmp (op_notInA (hu65 hr)) f_notIn (m_ix ix_seq f_ix (m_var 0) m_int (fun _ _ => rfl)) (m_var 1) (by with_unfolding_all rfl)) (mss_one (ms_expr (m_append (m_var 1) (ma_cons (m_ix ix_seq f_ix (m_var 0) m_int (fun _ _ => rfl)) ma_nil)))) mss_nil)) (mss_one (ms_for (t := (.name 2)) PassesOwn.never rfl (mi_seq (m_call OLawParts hr rfl (ma_cons (m_var 0) ma_nil))) (pg_name (i := 2) scLawVariables.nd rfl (.inl rfl)) (mss_one (ms_expr (m_call OLawVariables hr rfl (ma_cons (m_var 2) (ma_cons (m_var 1) ma_nil))))))))
    (mss_one (ms_ret (m_var 1))))
theorem allLawVariables {P : Program} {w : World} {K : PySem.W.Frag} {mg : Str → Option Value} {base : Heap} {k0 : Nat} {f0 : Addr} {d0 : FuncData} (F0 : Fun K "_law_variables" "_law_variables" sLawVariables f0 d0) (b0 : Binds K d0 ["shape", "found"] []) (g0 : mg "_law_variables" = some (.ref f0)) (OLawParts : Own P w K mg base k0 "_law_parts" ["shape"] FLawParts) : ∀ n, Own P w K mg base (k0 + n) "_law_variables" ["shape", "found"] (FLawVariables n)
  | 0 => own_none b0 F0.kp g0
  | n + 1 => by
    have h0 := allLawVariables (P := P) (w := w) (base := base) (k0 := k0) F0 b0 g0 OLawParts n
    exact okLawVariables F0 b0 g0 (OLawParts.mono (Nat.le_add_right _ _)) h0
theorem okLawCount {P : Program} {w : World} {K : PySem.W.Frag} {mg : Str → Option Value} {base : Heap} {f : Addr} {fd : FuncData} {k : Nat} {fLawCount : List W → Sto → Rz W} (F : Fun K "_law_count" "_law_count" sLawCount f fd) (hb : Binds K fd ["shape"] []) (hm : mg "_law_count" = some (.ref f)) (OLawParts : Own P w K mg base k "_law_parts" ["shape"] FLawParts) (OLawCount : Own P w K mg base k "_law_count" ["shape"] fLawCount) : Own P w K mg base (k + 1) "_law_count" ["shape"] (mkF 1 3 (BLawCount fLawCount)) :=
  own_of F scLawCount hb hm fun cdv A outer s H E hr =>
    (mss_cons (ms_set (i := 1) scLawCount.nd rfl (.inl rfl) m_int)
    (mss_cons (ms_for (t := (.name 2)) PassesOwn.never rfl (mi_seq (m_call OLawParts hr rfl (ma_cons (m_var 0) ma_nil))) (pg_name (i := 2) scLawCount.nd rfl (.inl rfl)) (mss_one (ms_set (i := 1) scLawCount.nd rfl (.inl rfl) (m_op op_addA f_add (m_var 1) (m_call OLawCount hr rfl (ma_cons (m_var 2) ma_nil))))))
    (mss_one (ms_ret (m_var 1)))))
theorem allLawCount {P : Program} {w : World} {K : PySem.W.Frag} {mg : Str → Option Value} {base : Heap} {k0 : Nat} {f0 : Addr} {d0 : FuncData} (F0 : Fun K "_law_count" "_law_count" sLawCount f0 d0) (b0 : Binds K d0 ["shape"] []) (g0 : mg "_law_count" = some (.ref f0)) (OLawParts : Own P w K mg base k0 "_law_parts" ["shape"] FLawParts) : ∀ n, Own P w K mg base (k0 + n) "_law_count" ["shape"] (FLawCount n)
  | 0 => own_none b0 F0.kp g0
  | n + 1 => by
    have h0 := allLawCount (P := P) (w := w) (base := base) (k0 := k0) F0 b0 g0 OLawParts n
    exact okLawCount F0 b0 g0 (OLawParts.mono (Nat.le_add_right _ _)) h0
theorem okLawDeep {P : Program} {w : World} {K : PySem.W.Frag} {mg : Str → Option Value} {base : Heap} {f : Addr} {fd : FuncData} {k : Nat} {fLawDeep : List W → Sto → Rz W} (F : Fun K "_law_deep" "_law_deep" sLawDeep f fd) (hb : Binds K fd ["shape"] []) (hm : mg "_law_deep" = some (.ref f)) (OLawParts : Own P w K mg base k "_law_parts" ["shape"] FLawParts) (OLawDeep : Own P w K mg base k "_law_deep" ["shape"] fLawDeep) (nb_max : mg "max" = none) : Own P w K mg base (k + 1) "_law_deep" ["shape"] (mkF 1 3 (BLawDeep fLawDeep)) :=
  own_of F scLawDeep hb hm fun cdv A outer s H E hr =>
    (mss_cons (ms_set (i := 1) scLawDeep.nd rfl (.inl rfl) m_int)
    (mss_cons (ms_for (t := (.name 2)) PassesOwn.never rfl (mi_seq (m_call OLawParts hr rfl (ma_cons (m_var 0) ma_nil))) (pg_name (i := 2) scLawDeep.nd rfl (.inl rfl)) (mss_one (ms_set (i := 1) scLawDeep.nd rfl (.inl rfl) (m_callB (call_max2 rfl) f_max2 rfl nb_max (by decide +kernel) (ma_cons (m_var 1) (ma_cons (m_call OLawDeep hr rfl (ma_cons (m_var 2) ma_nil)) ma_nil))))))
    (mss_one (ms_ret (m_op op_addA f_add (m_var 1) m_int)))))
theorem allLawDeep {P : Program} {w : World} {K : PySem.W.Frag} {mg : Str → Option Value} {base : Heap} {k0 : Nat} {f0 : Addr} {d0 : FuncData} (F0 : Fun K "_law_deep" "_law_deep" sLawDeep f0 d0) (b0 : Binds K d0 ["shape"] []) (g0 : mg "_law_deep" = some (.ref f0)) (OLawParts : Own P w K mg base k0 "_law_parts" ["shape"] FLawParts) (nb_max : mg "max" = none) : ∀ n, Own P w K mg base (k0 + n) "_law_deep" ["shape"] (FLawDeep n)
  | 0 => own_none b0 F0.kp g0
  | n + 1 => by
    have h0 := allLawDeep (P := P) (w := w) (base := base) (k0 := k0) F0 b0 g0 OLawParts nb_max n
    exact okLawDeep F0 b0 g0 (OLawParts.mono (Nat.le_add_right _ _)) h0 nb_max
theorem okLawWrong {P : Program} {w : World} {K : PySem.W.Frag} {mg : Str → Option Value} {base : Heap} {f : Addr} {fd : FuncData} {k : Nat} (F : Fun K "_law_wrong" "_law_wrong" sLawWrong f fd) (hb : Binds K fd ["pick"] []) (hm : mg "_law_wrong" = some (.ref f)) : Own P w K mg base (k + 1) "_law_wrong" ["pick"] FLawWrong :=
  own_of F scLawWrong hb hm fun cdv A outer s H E hr =>
    (mss_one (ms_ret (m_ix ix_seq f_ix (m_tup (ma_cons (m_tup (ma_cons m_str (ma_cons m_str (ma_cons (m_tup ma_nil) ma_nil)))) (ma_cons (m_tup (ma_cons m_str (ma_cons m_int (ma_cons (m_tup ma_nil) ma_nil)))) (ma_cons (m_tup (ma_cons m_str (ma_cons m_int (ma_cons (m_tup ma_nil) ma_nil)))) (ma_cons (m_tup (ma_cons m_str (ma_cons m_int (ma_cons (m_tup (ma_cons (m_tup (ma_cons m_str (ma_cons m_int (ma_cons (m_tup ma_nil) ma_nil)))) ma_nil)) ma_nil)))) (ma_cons (m_tup (ma_cons m_str (ma_cons (m_tup (ma_cons (m_tup (ma_cons m_str (ma_cons m_int (ma_cons (m_tup ma_nil) ma_nil)))) ma_nil)) ma_nil))) (ma_cons (m_tup (ma_cons m_str (ma_cons (m_op op_mulA f_mul (m_tup (ma_cons (m_tup (ma_cons m_str (ma_cons m_int ma_nil))) ma_nil)) m_int) ma_nil))) (ma_cons (m_tup (ma_cons m_str (ma_cons (m_un un_neg f_neg m_int) ma_nil))) (ma_cons (m_tup (ma_cons m_str (ma_cons m_str ma_nil))) (ma_cons m_str (ma_cons (m_tup (ma_cons m_str (ma_cons (m_tup (ma_cons m_str (ma_cons m_int (ma_cons (m_tup ma_nil) ma_nil)))) ma_nil))) (ma_cons (m_tup (ma_cons m_str ma_nil)) (ma_cons (m_tup ma_nil) (ma_cons (m_tup (ma_cons m_str (ma_cons (m_un un_neg f_neg m_int) (ma_cons (m_tup ma_nil) ma_nil)))) (ma_cons (m_tup (ma_cons m_str (ma_cons (m_tup (ma_cons m_str (ma_cons m_int (ma_cons (m_tup ma_nil) ma_nil)))) (ma_cons (m_tup (ma_cons m_str (ma_cons m_int (ma_cons (m_tup ma_nil) ma_nil)))) ma_nil)))) (ma_cons m_int ma_nil)))))))))))))))) (m_var 0) (fun _ _ => rfl))))
theorem okLawSpoilt {P : Program} {w : World} {K : PySem.W.Frag} {mg : Str → Option Value} {base : Heap} {f : Addr} {fd : FuncData} {k : Nat} {fLawSpoilt : List W → Sto → Rz W} (F : Fun K "_law_spoilt" "_law_spoilt" sLawSpoilt f fd) (hb : Binds K fd ["shape", "tape", "at"] []) (hm : mg "_law_spoilt" = some (.ref f)) (OLawRebuilt : Own P w K mg base k "_law_rebuilt" ["shape", "parts"] FLawRebuilt) (OLawSpoilt : Own P w K mg base k "_law_spoilt" ["shape", "tape", "at"] fLawSpoilt) (OLawPick : Own P w K mg base k "_law_pick" ["tape", "at", "many"] FLawPick) (OLawWrong : Own P w K mg base k "_law_wrong" ["pick"] FLawWrong) (OLawParts : Own P w K mg base k "_law_parts" ["shape"] FLawParts) (nb_len : mg "len" = none) : Own P w K mg base (k + 1) "_law_spoilt" ["shape", "tape", "at"] (mkF 3 7 (BLawSpoilt fLawSpoilt)) :=
  own_of F scLawSpoilt hb hm fun cdv A outer s H E hr =>
    (mss_cons (ms_set (i := 3) scLawSpoilt.nd rfl (.inl rfl) (m_call OLawParts hr rfl (ma_cons (m_var 0) ma_nil)))
    (mss_cons (ms_if (PW.pt (mw_or (mt_cmp (op_eqA hr.units) f_eq (m_callB call_lenA f_len rfl nb_len (by decide +kernel) (ma_cons (m_var 3) ma_nil)) m_int (nomark _)) (mw_or1 (mt_cmp (op_eqA hr.units) f_eq (m_call OLawPick hr rfl (ma_cons (m_var 1) (ma_cons (m_var 2) (ma_cons m_int ma_nil)))) m_int (nomark _))))) (mss_one (ms_ret (m_call OLawWrong hr rfl (ma_cons (m_call OLawPick hr rfl (ma_cons (m_var 1) (ma_cons (m_op op_addA f_add (m_var 2) m_int) (ma_cons m_int ma_nil)))) ma_nil)))) mss_nil)
    (mss_cons (ms_set (i := 4) scLawSpoilt.nd rfl (.inl rfl) (m_call OLawPick hr rfl (ma_cons (m_var 1) (ma_cons (m_op op_addA f_add (m_var 2) m_int) (ma_cons (m_callB call_lenA f_len rfl nb_len (by decide +kernel) (ma_cons (m_var 3) ma_nil)) ma_nil)))))
    (mss_cons (ms_setLc (i := 5) (own := [("part", 6)]) (t := (.name 6)) (u := bYes) (f := (eVar 6)) (by decide) rfl scLawSpoilt.nd rfl rfl (sw_true rfl rfl rfl (by decide +kernel)) (mi_seq (m_var 3)) (blkOk_by (own := [("part", 6)]) (N := ["shape", "tape", "at", "parts", "chosen", "bent", "part"]) (sc := defScope sLawSpoilt) (by decide +kernel)) (fun _ _ _ _ _ => (pg_name (i := 6) scLawSpoilt.nd rfl (.inl rfl))) (fun _ _ _ _ _ => mts_nil) (fun _ _ _ _ _ => (m_var 6)))
    (mss_cons (ms_put (m_call OLawSpoilt hr rfl (ma_cons (m_ix ix_seq f_ix (m_var 3) (m_var 4) (fun _ _ => rfl)) (ma_cons (m_var 1) (ma_cons (m_op op_addA f_add (m_var 2) m_int) ma_nil)))) (m_var 5) (m_var 4))
    (mss_one (ms_ret (m_call OLawRebuilt hr rfl (ma_cons (m_var 0) (ma_cons (m_var 5) ma_nil))))))))))
theorem allLawSpoilt {P : Program} {w : World} {K : PySem.W.Frag} {mg : Str → Option Value} {base : Heap} {k0 : Nat} {f0 : Addr} {d0 : FuncData} (F0 : Fun K "_law_spoilt" "_law_spoilt" sLawSpoilt f0 d0) (b0 : Binds K d0 ["shape", "tape", "at"] []) (g0 : mg "_law_spoilt" = some (.ref f0)) (OLawRebuilt : Own P w K mg base k0 "_law_rebuilt" ["shape", "parts"] FLawRebuilt) (OLawPick : Own P w K mg base k0 "_law_pick" ["tape", "at", "many"] FLawPick) (OLawWrong : Own P w K mg base k0 "_law_wrong" ["pick"] FLawWrong) (OLawParts : Own P w K mg base k0 "_law_parts" ["shape"] FLawParts) (nb_len : mg "len" = none) : ∀ n, Own P w K mg base (k0 + n) "_law_spoilt" ["shape", "tape", "at"] (FLawSpoilt n)
  | 0 => own_none b0 F0.kp g0
  | n + 1 => by
    have h0 := allLawSpoilt (P := P) (w := w) (base := base) (k0 := k0) F0 b0 g0 OLawRebuilt OLawPick OLawWrong OLawParts nb_len n
    exact okLawSpoilt F0 b0 g0 (OLawRebuilt.mono (Nat.le_add_right _ _)) h0 (OLawPick.mono (Nat.le_add_right _ _)) (OLawWrong.mono (Nat.le_add_right _ _)) (OLawParts.mono (Nat.le_add_right _ _)) nb_len
theorem okLawNodes {P : Program} {w : World} {K : PySem.W.Frag} {mg : Str → Option Value} {base : Heap} {f : Addr} {fd : FuncData} {k : Nat} {fLawNodes : List W → Sto → Rz W} (F : Fun K "_law_nodes" "_law_nodes" sLawNodes f fd) (hb : Binds K fd ["many"] []) (hm : mg "_law_nodes" = some (.ref f)) (OLawNodes : Own P w K mg base k "_law_nodes" ["many"] fLawNodes) : Own P w K mg base (k + 1) "_law_nodes" ["many"] (mkF 1 2 (BLawNodes fLawNodes)) :=
  own_of F scLawNodes hb hm fun cdv A outer s H E hr =>
    (mss_cons (ms_if (mt_cmp (op_eqA hr.units) f_eq (m_var 0) m_int (nomark _)) (mss_one (ms_ret (m_tup (ma_cons m_str (ma_cons m_int (ma_cons (m_tup ma_nil) ma_nil)))))) mss_nil)
    (mss_cons (ms_if (mt_cmp (op_eqA hr.units) f_eq (m_var 0) m_int (nomark _)) (mss_one (ms_ret (m_tup (ma_cons m_str (ma_cons m_int (ma_cons (m_tup (ma_cons (m_tup (ma_cons m_str (ma_cons m_int (ma_cons (m_tup ma_nil) ma_nil)))) ma_nil)) ma_nil)))))) mss_nil)
    (mss_cons (ms_set (i := 1) scLawNodes.nd rfl (.inl rfl) (m_op op_fdiv f_div (m_op op_sub f_sub (m_var 0) m_int) m_int))
    (mss_one (ms_ret (m_tup (ma_cons m_str (ma_cons (m_call OLawNodes hr rfl (ma_cons (m_var 1) ma_nil)) (ma_cons (m_call OLawNodes hr rfl (ma_cons (m_op op_sub f_sub (m_op op_sub f_sub (m_var 0) m_int) (m_var 1)) ma_nil)) ma_nil)))))))))
theorem allLawNodes {P : Program} {w : World} {K : PySem.W.Frag} {mg : Str → Option Value} {base : Heap} {k0 : Nat} {f0 : Addr} {d0 : FuncData} (F0 : Fun K "_law_nodes" "_law_nodes" sLawNodes f0 d0) (b0 : Binds K d0 ["many"] []) (g0 : mg "_law_nodes" = some (.ref f0)) : ∀ n, Own P w K mg base (k0 + n) "_law_nodes" ["many"] (FLawNodes n)
  | 0 => own_none b0 F0.kp g0
  | n + 1 => by
    have h0 := allLawNodes (P := P) (w := w) (base := base) (k0 := k0) F0 b0 g0 n
    exact okLawNodes F0 b0 g0 h0
theorem okLawWide {P : Program} {w : World} {K : PySem.W.Frag} {mg : Str → Option Value} {base : Heap} {f : Addr} {fd : FuncData} {k : Nat} (F : Fun K "_law_wide" "_law_wide" sLawWide f fd) (hb : Binds K fd ["shape", "tape", "at"] []) (hm : mg "_law_wide" = some (.ref f)) (OLawPick : Own P w K mg base k "_law_pick" ["tape", "at", "many"] FLawPick) (nb_tuple : mg "tuple" = none) : Own P w K mg base (k + 1) "_law_wide" ["shape", "tape", "at"] FLawWide :=
  own_of F scLawWide hb hm fun cdv A outer s H E hr =>
    (mss_cons (ms_set (i := 3) scLawWide.nd rfl (.inl rfl) (m_lst (ma_cons (m_var 0) (ma_cons (m_tup (ma_cons m_str (ma_cons m_int (ma_cons (m_tup (ma_cons (m_var 0) (ma_cons (m_tup (ma_cons m_str (ma_cons m_int ma_nil))) ma_nil))) ma_nil)))) (ma_cons (m_tup (ma_cons m_str (ma_cons m_int (ma_cons (m_op op_mulA f_mul (m_tup (ma_cons (m_var 0) ma_nil)) m_int) ma_nil)))) (ma_cons (m_tup (ma_cons m_str (ma_cons m_int (ma_cons (m_tup ma_nil) ma_nil)))) (ma_cons (m_tup (ma_cons m_str (ma_cons m_int (ma_cons (m_tup ma_nil) ma_nil)))) (ma_cons (m_tup (ma_cons m_str (ma_cons m_int (ma_cons (m_tup ma_nil) ma_nil)))) ma_nil))))))))
    (mss_one (ms_ret (m_tup (ma_cons m_str (ma_cons (m_callTy call_tuple_of f_tuple rfl nb_tuple (by decide +kernel) (ma_cons (m_slice sl_any f_sl (m_var 3) mp_none (mp_some (m_op op_addA f_add m_int (m_call OLawPick hr rfl (ma_cons (m_var 1) (ma_cons (m_var 2) (ma_cons m_int ma_nil))))))) ma_nil)) ma_nil))))))
theorem okLawConstants {P : Program} {w : World} {K : PySem.W.Frag} {mg : Str → Option Value} {base : Heap} {f : Addr} {fd : FuncData} {k : Nat} (F : Fun K "_law_constants" "_law_constants" sLawConstants f fd) (hb : Binds K fd [] []) (hm : mg "_law_constants" = some (.ref f)) (c_ARITIES : Cst K mg "ARITIES" (.tup [(.int 0), (.int 0), (.int 0), (.int 1), (.int 0), (.int 1), (.int 1), (.int 0)])) (c_BOOL : Cst K mg "BOOL" (.tup [(.str "c"), (.int 4), (.tup [])])) (c_EXN : Cst K mg "EXN" (.tup [(.str "c"), (.int 2), (.tup [])])) (c_FREE : Cst K mg "FREE" (.int 1000000)) (c_INT : Cst K mg "INT" (.tup [(.str "c"), (.int 0), (.tup [])])) (c_MAX_DEPTH : Cst K mg "MAX_DEPTH" (.int 100)) (c_MAX_SIZE : Cst K mg "MAX_SIZE" (.int 2000)) (c_UNIT : Cst K mg "UNIT" (.tup [(.str "c"), (.int 1), (.tup [])])) : Own P w K mg base (k + 1) "_law_constants" [] FLawConstants :=
  own_of F scLawConstants hb hm fun cdv A outer s H E hr =>
    (mss_cons (ms_if (PW.pt (mw_or (mt_cmp (op_neA hr.units) f_ne (m_glob c_FREE rfl) m_int (nomark _)) (mw_or (mt_cmp (op_neA hr.units) f_ne (m_glob c_MAX_SIZE rfl) m_int (nomark _)) (mw_or (mt_cmp (op_neA hr.units) f_ne (m_glob c_MAX_DEPTH rfl) m_int (nomark _)) (mw_or1 (mt_cmp (op_neA hr.units) f_ne (m_glob c_ARITIES rfl) (m_tup (ma_cons m_int (ma_cons m_int (ma_cons m_int (ma_cons m_int (ma_cons m_int (ma_cons m_int (ma_cons m_int (ma_cons m_int ma_nil))))))))) (nomark _))))))) (mss_one (ms_ret m_bl)) mss_nil)
    (mss_one (ms_ret (m_cmp (op_eqA hr.units) f_eq (m_tup (ma_cons (m_glob c_INT rfl) (ma_cons (m_glob c_UNIT rfl) (ma_cons (m_glob c_EXN rfl) (ma_cons (m_glob c_BOOL rfl) ma_nil))))) (m_tup (ma_cons (m_tup (ma_cons m_str (ma_cons m_int (ma_cons (m_tup ma_nil) ma_nil)))) (ma_cons (m_tup (ma_cons m_str (ma_cons m_int (ma_cons (m_tup ma_nil) ma_nil)))) (ma_cons (m_tup (ma_cons m_str (ma_cons m_int (ma_cons (m_tup ma_nil) ma_nil)))) (ma_cons (m_tup (ma_cons m_str (ma_cons m_int (ma_cons (m_tup ma_nil) ma_nil)))) ma_nil))))) (nomark _)))))
theorem okLawSame {P : Program} {w : World} {K : PySem.W.Frag} {mg : Str → Option Value} {base : Heap} {f : Addr} {fd : FuncData} {k : Nat} (F : Fun K "_law_same" "_law_same" sLawSame f fd) (hb : Binds K fd ["actual", "due"] []) (hm : mg "_law_same" = some (.ref f)) (nb_bool : mg "bool" = none) (nb_int : mg "int" = none) (nb_isinstance : mg "isinstance" = none) : Own P w K mg base (k + 1) "_law_same" ["actual", "due"] FLawSame :=
  own_of F scLawSame hb hm fun cdv A outer s H E hr =>
    (mss_one (ms_ret (m_and (m_isi kit_int rfl nb_isinstance rfl nb_int (by decide +kernel) (m_var 0)) (m_and (m_not (m_isi kit_bool rfl nb_isinstance rfl nb_bool (by decide +kernel) (m_var 0))) (m_one (m_cmp (op_eqA hr.units) f_eq (m_var 0) (m_var 1) (nomark _)))))))
theorem okLaw {P : Program} {w : World} {K : PySem.W.Frag} {mg : Str → Option Value} {base : Heap} {f : Addr} {fd : FuncData} {k : Nat} (F : Fun K "law" "law" sLaw f fd) (OIsShape : Own P w K mg base k "is_shape" ["value", "arities"] FIsShape) (OLawSpoilt : Own P w K mg base k "_law_spoilt" ["shape", "tape", "at"] (FLawSpoilt 10)) (OLawVariables : Own P w K mg base k "_law_variables" ["shape", "found"] (FLawVariables 10)) (OVariables : Own P w K mg base k "variables" ["shape"] FVariables) (OLawSame : Own P w K mg base k "_law_same" ["actual", "due"] FLawSame) (OLawDeep : Own P w K mg base k "_law_deep" ["shape"] (FLawDeep 12)) (ODepth : Own P w K mg base k "depth" ["shape"] FDepth) (OLawCount : Own P w K mg base k "_law_count" ["shape"] (FLawCount 12)) (OSize : Own P w K mg base k "size" ["shape"] FSize) (OLawWide : Own P w K mg base k "_law_wide" ["shape", "tape", "at"] FLawWide) (OLawShape : Own P w K mg base k "_law_shape" ["tape", "at", "level", "free"] (FLawShape 8)) (OLawNodes : Own P w K mg base k "_law_nodes" ["many"] (FLawNodes 14)) (OLawConstants : Own P w K mg base k "_law_constants" [] FLawConstants) (OLawPick : Own P w K mg base k "_law_pick" ["tape", "at", "many"] FLawPick) (OLawTape : Own P w K mg base k "_law_tape" ["script", "many"] FLawTape) (nb_isinstance : mg "isinstance" = none) (nb_list : mg "list" = none) (nb_range : mg "range" = none) (nb_tuple : mg "tuple" = none) : FnOk P w K mg base CX0 (k + 1) f fd ["script"] (spF K 1 FLaw) :=
  fnm_of F scLaw fun cdv A outer s H E hr =>
    (mss_cons (ms_set (i := 1) scLaw.nd rfl (.inl rfl) (m_tup (ma_cons m_int (ma_cons m_int (ma_cons m_int (ma_cons m_int (ma_cons m_int (ma_cons m_int (ma_cons m_int (ma_cons m_int ma_nil))))))))))
    (mss_cons (ms_set (i := 2) scLaw.nd rfl (.inl rfl) (m_call OLawTape hr rfl (ma_cons (m_var 0) (ma_cons m_int ma_nil))))
    (mss_cons (ms_asg (t := (.tup [(.name 3), (.name 4)])) (m_call OLawShape hr rfl (ma_cons (m_var 2) (ma_cons m_int (ma_cons (m_op op_addA f_add m_int (m_call OLawPick hr rfl (ma_cons (m_var 2) (ma_cons m_int (ma_cons m_int ma_nil))))) (ma_cons (m_lst (ma_cons m_int (ma_cons m_int (ma_cons m_int (ma_cons m_int ma_nil))))) ma_nil))))) (pg_tup rfl (pgs_cons (pg_name (i := 3) scLaw.nd rfl (.inl rfl)) (pgs_cons (pg_name (i := 4) scLaw.nd rfl (.inl rfl)) pgs_nil))))
    (mss_cons (ms_if (mt_cmp (op_eqA hr.units) f_eq (m_call OLawPick hr rfl (ma_cons (m_var 2) (ma_cons (m_var 4) (ma_cons m_int ma_nil)))) m_int (nomark _)) (mss_cons (ms_set (i := 5) scLaw.nd rfl (.inl rfl) (m_op op_addA f_add m_int (m_call OLawPick hr rfl (ma_cons (m_var 2) (ma_cons (m_op op_addA f_add (m_var 4) m_int) (ma_cons m_int ma_nil))))))
    (mss_cons (ms_set (i := 3) scLaw.nd rfl (.inl rfl) (m_tup (ma_cons m_str (ma_cons m_int ma_nil))))
    (mss_cons (ms_for (t := (.name 6)) PassesOwn.never rfl (mi_rng1 rfl nb_range (m_op op_sub f_sub (m_var 5) m_int)) (pg_name (i := 6) scLaw.nd rfl (.inl rfl)) (mss_one (ms_set (i := 3) scLaw.nd rfl (.inl rfl) (m_tup (ma_cons m_str (ma_cons (m_tup (ma_cons m_str (ma_cons m_int (ma_cons (m_tup ma_nil) ma_nil)))) (ma_cons (m_var 3) ma_nil)))))))
    (mss_one (ms_ret (m_cmp (op_eqA hr.units) f_eq (m_call OIsShape hr rfl (ma_cons (m_var 3) (ma_cons (m_var 1) ma_nil))) (m_cmp op_le f_le (m_var 5) m_int (nomark _)) (nomark _))))))) mss_nil)
    (mss_cons (ms_set (i := 7) scLaw.nd rfl (.inl rfl) (m_op op_addA f_add m_int (m_call OLawPick hr rfl (ma_cons (m_var 2) (ma_cons (m_op op_addA f_add (m_var 4) m_int) (ma_cons m_int ma_nil))))))
    (mss_cons (ms_if (PW.pt (mw_or (mt_not (mt_truth (m_call0 OLawConstants hr rfl))) (mw_or1 (mt_cmp (op_neA hr.units) f_ne (m_call OIsShape hr rfl (ma_cons (m_call OLawNodes hr rfl (ma_cons (m_var 7) ma_nil)) (ma_cons (m_var 1) ma_nil))) (m_cmp op_le f_le (m_var 7) m_int (nomark _)) (nomark _))))) (mss_one (ms_ret m_bl)) mss_nil)
    (mss_cons (ms_set (i := 8) scLaw.nd rfl (.inl rfl) (m_call OLawWide hr rfl (ma_cons (m_ix ix_seq f_ix (m_call OLawShape hr rfl (ma_cons (m_var 2) (ma_cons m_int (ma_cons m_int (ma_cons (m_lst (ma_cons m_int (ma_cons m_int ma_nil))) ma_nil))))) m_int (fun _ _ => rfl)) (ma_cons (m_var 2) (ma_cons (m_op op_addA f_add (m_var 4) m_int) ma_nil)))))
    (mss_cons (ms_if (PW.pt (mw_or (mt_cmp op_notA f_isNot (m_call OIsShape hr rfl (ma_cons (m_var 8) (ma_cons (m_op op_addA f_add (m_var 1) (m_tup (ma_cons m_int (ma_cons m_int (ma_cons m_int ma_nil))))) ma_nil))) m_bl (nomark _)) (mw_or1 (mt_cmp op_notA f_isNot (m_call OIsShape hr rfl (ma_cons (m_var 8) (ma_cons (m_var 1) ma_nil))) m_bl (nomark _))))) (mss_one (ms_ret m_bl)) mss_nil)
    (mss_cons (ms_if (PW.pt (mw_or (mt_not (mt_truth (m_call OLawSame hr rfl (ma_cons (m_call OSize hr rfl (ma_cons (m_var 8) ma_nil)) (ma_cons (m_call OLawCount hr rfl (ma_cons (m_var 8) ma_nil)) ma_nil))))) (mw_or1 (mt_not (mt_truth (m_call OLawSame hr rfl (ma_cons (m_call ODepth hr rfl (ma_cons (m_var 8) ma_nil)) (ma_cons (m_call OLawDeep hr rfl (ma_cons (m_var 8) ma_nil)) ma_nil)))))))) (mss_one (ms_ret m_bl)) mss_nil)
    (mss_cons (ms_if (PW.pt (mw_or (mt_cmp op_notA f_isNot (m_call OIsShape hr rfl (ma_cons (m_var 3) (ma_cons (m_var 1) ma_nil))) m_bl (nomark _)) (mw_or1 (mt_not (mt_truth (m_call OLawSame hr rfl (ma_cons (m_call OSize hr rfl (ma_cons (m_var 3) ma_nil)) (ma_cons (m_call OLawCount hr rfl (ma_cons (m_var 3) ma_nil)) ma_nil)))))))) (mss_one (ms_ret m_bl)) mss_nil)
    (mss_cons (ms_if (mt_not (mt_truth (m_call OLawSame hr rfl (ma_cons (m_call ODepth hr rfl (ma_cons (m_var 3) ma_nil)) (ma_cons (m_call OLawDeep hr rfl (ma_cons (m_var 3) ma_nil)) ma_nil))))) (mss_one (ms_ret m_bl)) mss_nil)
    (mss_cons (ms_set (i := 9) scLaw.nd rfl (.inl rfl) (m_call OVariables hr rfl (ma_cons (m_var 3) ma_nil)))
    (mss_cons (ms_if (PW.pt (mw_or (mt_not (mt_truth (m_isi kit_tuple rfl nb_isinstance rfl nb_tuple (by decide +kernel) (m_var 9)))) (mw_or1 (mt_cmp (op_neA hr.units) f_ne (m_callTy call_list_of f_list rfl nb_list (by decide +kernel) (ma_cons (m_var 9) ma_nil)) (m_call OLawVariables hr rfl (ma_cons (m_var 3) (ma_cons (m_lst ma_nil) ma_nil))) (nomark _))))) (mss_one (ms_ret m_bl)) mss_nil)
    (mss_one (ms_ret (m_cmp op_isA f_is (m_call OIsShape hr rfl (ma_cons (m_call OLawSpoilt hr rfl (ma_cons (m_var 3) (ma_cons (m_var 2) (ma_cons (m_op op_addA f_add (m_var 4) m_int) ma_nil)))) (ma_cons (m_var 1) ma_nil))) m_bl (nomark _)))))))))))))))))
end K10

set_option Elab.async false
set_option linter.all false
set_option maxRecDepth 100000
namespace K10
open PySem PySem.Spec PyProof.Rows L2 Mir
def isNum : W → Bool
  | .int n => decide (0 ≤ n)
  | _ => false
def noRef : W → Bool
  | .ref _ => false
  | _ => true
theorem isNumber_ok {x : W} {s : Sto} (h : noRef x = true) : FIsNumber [x] s = some (.bl (isNum x), s) := by
  unfold FIsNumber BIsNumber
  cases x <;> first | (cases h; done) | skip
  all_goals (simp [mkF, bd_some, bd_none, bd_ite, sCons, sNil, sSet, sAsg, sPar, sDo, sRet, sRetN, sIf, sPut, setAt, sAug, sBrk, sCnt, eVar, eC, eOp, eUn, eFn, eMt, aNil, aCons, eTup, eLst, eAnd, eOr, eNot, eIf, bTest, bTruth, bAnd, bOr, bNot, bYes, truW, eIsi, tyW, isiT, eChain, gII, gIIc, gIx, seqOf, lstOf, gLen, lenW, gEq, gNe, eqW, sEq, tgM_name, tgM_tup, tgMs_nil, tgMs_name, tgMs_tup, gAdd, gMul, gNeg, gIs, gIsNot, Mir.isNon, gInt1, g1I, g2I, gTuple, gList, isL, gLm, fAppend, fPop, fExtend, gIAdd, eSl, pNo, pAt, gSlA, atI, ixN, ofString_inj, HT.sIx, isNum])
def lenIn (x : W) (a b : Int) : Bool := match x with
  | .tup ws => decide (a ≤ ws.length) && decide ((ws.length : Int) ≤ b)
  | _ => false
theorem isList_ok {x : W} {s : Sto} {a b : Int} (h : noRef x = true) : FIsList [x, .int a, .int b] s = some (.bl (lenIn x a b), s) := by
  unfold FIsList BIsList
  cases x <;> first | (cases h; done) | skip
  case tup ws => by_cases q : a ≤ (ws.length : Int) <;> simp [mkF, bd_some, bd_none, bd_ite, sCons, sNil, sSet, sAsg, sPar, sDo, sRet, sRetN, sIf, sPut, setAt, sAug, sBrk, sCnt, eVar, eC, eOp, eUn, eFn, eMt, aNil, aCons, eTup, eLst, eAnd, eOr, eNot, eIf, bTest, bTruth, bAnd, bOr, bNot, bYes, truW, eIsi, tyW, isiT, eChain, gII, gIIc, gIx, seqOf, lstOf, gLen, lenW, gEq, gNe, eqW, sEq, tgM_name, tgM_tup, tgMs_nil, tgMs_name, tgMs_tup, gAdd, gMul, gNeg, gIs, gIsNot, Mir.isNon, gInt1, g1I, g2I, gTuple, gList, isL, gLm, fAppend, fPop, fExtend, gIAdd, eSl, pNo, pAt, gSlA, atI, ixN, ofString_inj, HT.sIx, lenIn, q]
  all_goals (simp [mkF, bd_some, bd_none, bd_ite, sCons, sNil, sSet, sAsg, sPar, sDo, sRet, sRetN, sIf, sPut, setAt, sAug, sBrk, sCnt, eVar, eC, eOp, eUn, eFn, eMt, aNil, aCons, eTup, eLst, eAnd, eOr, eNot, eIf, bTest, bTruth, bAnd, bOr, bNot, bYes, truW, eIsi, tyW, isiT, eChain, gII, gIIc, gIx, seqOf, lstOf, gLen, lenW, gEq, gNe, eqW, sEq, tgM_name, tgM_tup, tgMs_nil, tgMs_name, tgMs_tup, gAdd, gMul, gNeg, gIs, gIsNot, Mir.isNon, gInt1, g1I, g2I, gTuple, gList, isL, gLm, fAppend, fPop, fExtend, gIAdd, eSl, pNo, pAt, gSlA, atI, ixN, ofString_inj, HT.sIx, lenIn])
theorem num_int (n : Int) (s : Sto) : FIsNumber [.int n] s = some (.bl (decide (0 ≤ n)), s) := isNumber_ok rfl
theorem num_str (z : Str) (s : Sto) : FIsNumber [.str z] s = some (.bl false, s) := isNumber_ok rfl
theorem lst_tup (ws : List W) (a b : Int) (s : Sto) : FIsList [.tup ws, .int a, .int b] s = some (.bl (decide (a ≤ ws.length) && decide ((ws.length : Int) ≤ b)), s) := isList_ok rfl
inductive D where
  | v (n : Int)
  | c (s : Int) (as : List D)
  | t (as : List D)
  | f (a b : D)
  | bad (w : W)
mutual
def D.w : D → W
  | .v n => .tup [.str "v", .int n]
  | .c s as => .tup [.str "c", .int s, .tup (D.wL as)]
  | .t as => .tup [.str "t", .tup (D.wL as)]
  | .f a b => .tup [.str "f", a.w, b.w]
  | .bad w => w
def D.wL : List D → List W
  | [] => []
  | x :: r => x.w :: D.wL r
end
def D.kids : D → List D
  | .v _ => []
  | .c _ as => as
  | .t as => as
  | .f a b => [a, b]
  | .bad _ => []
def D.isX : D → Bool
  | .bad _ => true
  | _ => false
theorem parts_ok {d : D} {s : Sto} (h : d.isX = false) : FPartsOfShape [d.w] s = some (.tup (D.wL d.kids), s) := by
  unfold FPartsOfShape BPartsOfShape
  cases d <;> first | (cases h; done) | (simp [mkF, bd_some, bd_none, bd_ite, sCons, sNil, sSet, sAsg, sPar, sDo, sRet, sRetN, sIf, sPut, setAt, sAug, sBrk, sCnt, eVar, eC, eOp, eUn, eFn, eMt, aNil, aCons, eTup, eLst, eAnd, eOr, eNot, eIf, bTest, bTruth, bAnd, bOr, bNot, bYes, truW, eIsi, tyW, isiT, eChain, gII, gIIc, gIx, seqOf, lstOf, gLen, lenW, gEq, gNe, eqW, sEq, tgM_name, tgM_tup, tgMs_nil, tgMs_name, tgMs_tup, gAdd, gMul, gNeg, gIs, gIsNot, Mir.isNon, gInt1, g1I, g2I, gTuple, gList, isL, gLm, fAppend, fPop, fExtend, gIAdd, eSl, pNo, pAt, gSlA, atI, ixN, ofString_inj, HT.sIx, D.w, D.kids, D.wL])
theorem lparts_ok {d : D} {s : Sto} (h : d.isX = false) : FLawParts [d.w] s = some (.tup (D.wL d.kids), s) := by
  unfold FLawParts BLawParts
  cases d <;> first | (cases h; done) | (simp [mkF, bd_some, bd_none, bd_ite, sCons, sNil, sSet, sAsg, sPar, sDo, sRet, sRetN, sIf, sPut, setAt, sAug, sBrk, sCnt, eVar, eC, eOp, eUn, eFn, eMt, aNil, aCons, eTup, eLst, eAnd, eOr, eNot, eIf, bTest, bTruth, bAnd, bOr, bNot, bYes, truW, eIsi, tyW, isiT, eChain, gII, gIIc, gIx, seqOf, lstOf, gLen, lenW, gEq, gNe, eqW, sEq, tgM_name, tgM_tup, tgMs_nil, tgMs_name, tgMs_tup, gAdd, gMul, gNeg, gIs, gIsNot, Mir.isNon, gInt1, g1I, g2I, gTuple, gList, isL, gLm, fAppend, fPop, fExtend, gIAdd, eSl, pNo, pAt, gSlA, atI, ixN, ofString_inj, HT.sIx, D.w, D.kids, D.wL])
end K10

set_option Elab.async false
set_option linter.all false
set_option maxRecDepth 100000
namespace K10
open PySem PySem.Spec PyProof.Rows L2 Mir
def arW (ar : List Int) : W := .tup (ar.map W.int)
/-- what is_node says of a node -/
def D.node (ar : List Int) : D → Bool
  | .v n => decide (0 ≤ n)
  | .c s as => decide (0 ≤ s) && decide (s < (ar.length : Int)) && decide (ar[s.toNat]? = some (as.length : Int))
  | .t as => decide (2 ≤ as.length) && decide (as.length ≤ 6)
  | .f _ _ => true
  | .bad _ => false
/-- the leaves that are no shapes are refused -/
def Bad (ar : List Int) (w : W) : Prop := noRef w = true ∧ ∀ s, FIsNode [w, arW ar] s = some (.bl false, s)
mutual
def D.wf (ar : List Int) : D → Prop
  | .v _ => True
  | .c _ as => D.wfL ar as
  | .t as => D.wfL ar as
  | .f a b => a.wf ar ∧ b.wf ar
  | .bad w => Bad ar w
def D.wfL (ar : List Int) : List D → Prop
  | [] => True
  | x :: r => x.wf ar ∧ D.wfL ar r
end
theorem wL_len : ∀ as : List D, (D.wL as).length = as.length
  | [] => rfl
  | x :: r => by rw [D.wL, List.length_cons, List.length_cons, wL_len r]
theorem wL_map : ∀ as : List D, D.wL as = as.map D.w
  | [] => rfl
  | x :: r => by rw [D.wL, wL_map r, List.map_cons]
theorem ar_at {ar : List Int} {k : Int} (h0 : 0 ≤ k) (h1 : k < (ar.length : Int)) : ∃ a, ar[k.toNat]? = some a ∧ atI (ar.map W.int) k = some (.int a) := by
  obtain ⟨j, hj⟩ : ∃ j : Nat, k = (j : Int) := ⟨k.toNat, (Int.toNat_of_nonneg h0).symm⟩
  subst hj
  have hl : j < ar.length := by omega
  refine ⟨ar[j], by simp [hl], atI_nat ?_⟩
  simp [hl]
theorem noRef_w : ∀ d : D, ∀ ar, d.wf ar → noRef d.w = true
  | .v _, _, _ => by rw [D.w]; rfl
  | .c _ _, _, _ => by rw [D.w]; rfl
  | .t _, _, _ => by rw [D.w]; rfl
  | .f _ _, _, _ => by rw [D.w]; rfl
  | .bad w, ar, h => by rw [D.w]; rw [D.wf] at h; exact h.1
theorem isNode_ok {ar : List Int} {d : D} {s : Sto} (h : d.wf ar) : FIsNode [d.w, arW ar] s = some (.bl (d.node ar), s) := by
  cases d with
  | bad w => rw [D.wf] at h; rw [D.w, h.2 s]; rfl
  | v n =>
    unfold FIsNode BIsNode
    simp [mkF, bd_some, bd_none, bd_ite, sCons, sNil, sSet, sAsg, sPar, sDo, sRet, sRetN, sIf, sPut, setAt, sAug, sBrk, sCnt, eVar, eC, eOp, eUn, eFn, eMt, aNil, aCons, eTup, eLst, eAnd, eOr, eNot, eIf, bTest, bTruth, bAnd, bOr, bNot, bYes, truW, eIsi, tyW, isiT, eChain, gII, gIIc, gIx, seqOf, lstOf, gLen, lenW, gEq, gNe, eqW, sEq, tgM_name, tgM_tup, tgMs_nil, tgMs_name, tgMs_tup, gAdd, gMul, gNeg, gIs, gIsNot, Mir.isNon, gInt1, g1I, g2I, gTuple, gList, isL, gLm, fAppend, fPop, fExtend, gIAdd, eSl, pNo, pAt, gSlA, atI, ixN, ofString_inj, HT.sIx, D.w, D.node, num_int, num_str]
  | f a b =>
    unfold FIsNode BIsNode
    simp [mkF, bd_some, bd_none, bd_ite, sCons, sNil, sSet, sAsg, sPar, sDo, sRet, sRetN, sIf, sPut, setAt, sAug, sBrk, sCnt, eVar, eC, eOp, eUn, eFn, eMt, aNil, aCons, eTup, eLst, eAnd, eOr, eNot, eIf, bTest, bTruth, bAnd, bOr, bNot, bYes, truW, eIsi, tyW, isiT, eChain, gII, gIIc, gIx, seqOf, lstOf, gLen, lenW, gEq, gNe, eqW, sEq, tgM_name, tgM_tup, tgMs_nil, tgMs_name, tgMs_tup, gAdd, gMul, gNeg, gIs, gIsNot, Mir.isNon, gInt1, g1I, g2I, gTuple, gList, isL, gLm, fAppend, fPop, fExtend, gIAdd, eSl, pNo, pAt, gSlA, atI, ixN, ofString_inj, HT.sIx, D.w, D.node]
  | t as =>
    unfold FIsNode BIsNode
    simp [mkF, bd_some, bd_none, bd_ite, sCons, sNil, sSet, sAsg, sPar, sDo, sRet, sRetN, sIf, sPut, setAt, sAug, sBrk, sCnt, eVar, eC, eOp, eUn, eFn, eMt, aNil, aCons, eTup, eLst, eAnd, eOr, eNot, eIf, bTest, bTruth, bAnd, bOr, bNot, bYes, truW, eIsi, tyW, isiT, eChain, gII, gIIc, gIx, seqOf, lstOf, gLen, lenW, gEq, gNe, eqW, sEq, tgM_name, tgM_tup, tgMs_nil, tgMs_name, tgMs_tup, gAdd, gMul, gNeg, gIs, gIsNot, Mir.isNon, gInt1, g1I, g2I, gTuple, gList, isL, gLm, fAppend, fPop, fExtend, gIAdd, eSl, pNo, pAt, gSlA, atI, ixN, ofString_inj, HT.sIx, D.w, D.node, lst_tup, wL_len]
    rw [Bool.eq_iff_iff]
    simp
    omega
  | c k as =>
    unfold FIsNode BIsNode
    by_cases h0 : 0 ≤ k
    · by_cases h1 : k < (ar.length : Int)
      · obtain ⟨a, e1, e2⟩ := ar_at h0 h1
        simp only [D.w, D.node, arW]
        have e3 : gIx (.tup (ar.map W.int)) (.int k) s = some (.int a, s) := by simp only [gIx, seqOf, e2]
        have h2 : ¬ (ar.length : Int) ≤ k := by omega
        simp [mkF, bd_some, bd_none, bd_ite, sCons, sNil, sSet, sAsg, sPar, sDo, sRet, sRetN, sIf, sPut, setAt, sAug, sBrk, sCnt, eVar, eC, eOp, eUn, eFn, eMt, aNil, aCons, eTup, eLst, eAnd, eOr, eNot, eIf, bTest, bTruth, bAnd, bOr, bNot, bYes, truW, eIsi, tyW, isiT, eChain, gII, gIIc, gIx, seqOf, lstOf, gLen, lenW, gEq, gNe, eqW, sEq, tgM_name, tgM_tup, tgMs_nil, tgMs_name, tgMs_tup, gAdd, gMul, gNeg, gIs, gIsNot, Mir.isNon, gInt1, g1I, g2I, gTuple, gList, isL, gLm, fAppend, fPop, fExtend, gIAdd, eSl, pNo, pAt, gSlA, atI, ixN, ofString_inj, HT.sIx, num_int, num_str, h0, h1, h2, e1, e3, wL_len, e2]
        constructor <;> intro e <;> omega
      · have h2 : (ar.length : Int) ≤ k := by omega
        simp [mkF, bd_some, bd_none, bd_ite, sCons, sNil, sSet, sAsg, sPar, sDo, sRet, sRetN, sIf, sPut, setAt, sAug, sBrk, sCnt, eVar, eC, eOp, eUn, eFn, eMt, aNil, aCons, eTup, eLst, eAnd, eOr, eNot, eIf, bTest, bTruth, bAnd, bOr, bNot, bYes, truW, eIsi, tyW, isiT, eChain, gII, gIIc, gIx, seqOf, lstOf, gLen, lenW, gEq, gNe, eqW, sEq, tgM_name, tgM_tup, tgMs_nil, tgMs_name, tgMs_tup, gAdd, gMul, gNeg, gIs, gIsNot, Mir.isNon, gInt1, g1I, g2I, gTuple, gList, isL, gLm, fAppend, fPop, fExtend, gIAdd, eSl, pNo, pAt, gSlA, atI, ixN, ofString_inj, HT.sIx, D.w, D.node, arW, num_int, num_str, h0, h1, h2]
    · simp [mkF, bd_some, bd_none, bd_ite, sCons, sNil, sSet, sAsg, sPar, sDo, sRet, sRetN, sIf, sPut, setAt, sAug, sBrk, sCnt, eVar, eC, eOp, eUn, eFn, eMt, aNil, aCons, eTup, eLst, eAnd, eOr, eNot, eIf, bTest, bTruth, bAnd, bOr, bNot, bYes, truW, eIsi, tyW, isiT, eChain, gII, gIIc, gIx, seqOf, lstOf, gLen, lenW, gEq, gNe, eqW, sEq, tgM_name, tgM_tup, tgMs_nil, tgMs_name, tgMs_tup, gAdd, gMul, gNeg, gIs, gIsNot, Mir.isNon, gInt1, g1I, g2I, gTuple, gList, isL, gLm, fAppend, fPop, fExtend, gIAdd, eSl, pNo, pAt, gSlA, atI, ixN, ofString_inj, HT.sIx, D.w, D.node, arW, num_int, num_str, h0]
end K10

set_option Elab.async false
set_option linter.all false
set_option maxRecDepth 100000
namespace K10
open PySem PySem.Spec PyProof.Rows L2 Mir
mutual
def D.size : D → Nat
  | .v _ => 1
  | .c _ as => 1 + D.sizeL as
  | .t as => 1 + D.sizeL as
  | .f a b => 1 + (a.size + (b.size + 0))
  | .bad _ => 1
def D.sizeL : List D → Nat
  | [] => 0
  | x :: r => x.size + D.sizeL r
end
mutual
def D.good (ar : List Int) (l : Nat) : D → Bool
  | .v n => decide (l ≤ 100) && (D.v n).node ar
  | .c s as => decide (l ≤ 100) && (D.c s as).node ar && D.goodL ar (l + 1) as
  | .t as => decide (l ≤ 100) && (D.t as).node ar && D.goodL ar (l + 1) as
  | .f a b => decide (l ≤ 100) && (a.good ar (l + 1) && (b.good ar (l + 1) && true))
  | .bad _ => false
def D.goodL (ar : List Int) (l : Nat) : List D → Bool
  | [] => true
  | x :: r => x.good ar l && D.goodL ar l r
end
theorem good_kids (ar : List Int) (l : Nat) (d : D) (h : d.isX = false) : d.good ar l = (decide (l ≤ 100) && d.node ar && D.goodL ar (l + 1) d.kids) := by
  cases d with
  | v n => rw [D.good, D.kids, D.goodL, Bool.and_true]
  | c s as => rw [D.good, D.kids]
  | t as => rw [D.good, D.kids]
  | f a b => simp only [D.good, D.kids, D.goodL, D.node, Bool.and_true]
  | bad w => cases h
theorem size_kids (d : D) : d.size = 1 + D.sizeL d.kids := by
  cases d <;> simp only [D.size, D.kids, D.sizeL]
theorem wf_kids {ar : List Int} {d : D} (h : d.wf ar) (hx : d.isX = false) : D.wfL ar d.kids := by
  cases d with
  | v n => simp only [D.kids, D.wfL]
  | c s as => rw [D.wf] at h; exact h
  | t as => rw [D.wf] at h; exact h
  | f a b => rw [D.wf] at h; simp only [D.kids, D.wfL, and_true]; exact h
  | bad w => cases hx
/-! ### the stack -/
abbrev Stk := List (D × Nat)
def item (p : D × Nat) : W := .tup [p.1.w, .int p.2]
def stW (k : Stk) : List W := k.map item
def szS (k : Stk) : Nat := (k.map fun p => p.1.size).sum
def goodS (ar : List Int) (k : Stk) : Bool := k.all fun p => p.1.good ar p.2
def wfS (ar : List Int) (k : Stk) : Prop := ∀ p ∈ k, p.1.wf ar
def push (l : Nat) (ds : List D) : Stk := ds.map fun d => (d, l)
theorem szS_app (a b : Stk) : szS (a ++ b) = szS a + szS b := by simp [szS]
theorem goodS_app (ar : List Int) (a b : Stk) : goodS ar (a ++ b) = (goodS ar a && goodS ar b) := by simp [goodS]
theorem szS_push (l : Nat) : ∀ ds : List D, szS (push l ds) = D.sizeL ds
  | [] => rfl
  | x :: r => by
    have := szS_push l r
    simp only [szS, push, List.map_cons, List.sum_cons, D.sizeL] at this ⊢
    rw [this]
theorem goodS_push (ar : List Int) (l : Nat) : ∀ ds : List D, goodS ar (push l ds) = D.goodL ar l ds
  | [] => rfl
  | x :: r => by
    have := goodS_push ar l r
    simp only [goodS, push, List.map_cons, List.all_cons, D.goodL] at this ⊢
    rw [this]
theorem wfS_push {ar : List Int} (l : Nat) : ∀ {ds : List D}, D.wfL ar ds → wfS ar (push l ds)
  | [], _ => fun p h => by cases h
  | x :: r, h => fun p hp => by
    rw [D.wfL] at h
    rcases List.mem_cons.mp hp with rfl | hp
    · exact h.1
    · exact wfS_push l h.2 p hp
/-- the kids go onto the stack, one by one -/
theorem fo_push {s : Sto} {l : Nat} {w0 ar p : W} {c : Int} : ∀ (ds : List D) (k : Stk) (y : Option W), (stW k).length + ds.length ≤ 100000 →
    ∃ y', fo (.name 6) (sDo (eMt isL gAppend (eVar 3) (aCons (eTup (aCons (eVar 6) (aCons (eOp gAdd (eVar 5) (eC (.int 1))) aNil))) aNil))) none (D.wL ds) [some w0, some ar, some (.int c), some (.ref s.length), some p, some (.int l), y] (s ++ [.lst (stW k)])
      = some (.nx [some w0, some ar, some (.int c), some (.ref s.length), some p, some (.int l), y'], s ++ [.lst (stW (k ++ push (l + 1) ds))])
  | [], k, y, _ => ⟨y, by
    rw [D.wL, fo, if_pos (show okc none _ from trivial)]
    simp [push]⟩
  | d :: ds, k, y, h => by
    obtain ⟨y', e⟩ := fo_push (s := s) (l := l) (w0 := w0) (ar := ar) (p := p) (c := c) ds (k ++ [(d, l + 1)]) (some d.w) (by
      simp only [stW, List.length_map, List.length_append, List.length_cons, List.length_nil] at h ⊢
      omega)
    refine ⟨y', ?_⟩
    have hl : (stW k).length ≤ 100000 := by
      simp only [List.length_cons] at h
      omega
    have e2 : stW (k ++ [(d, l + 1)]) = stW k ++ [.tup [d.w, .int ((l : Int) + 1)]] := by simp [stW, item]
    have e3 : k ++ [(d, l + 1)] ++ push (l + 1) ds = k ++ push (l + 1) (d :: ds) := by simp [push]
    rw [e3, e2] at e
    rw [D.wL, fo, if_pos (show okc none _ from trivial)]
    simp [mkF, bd_some, bd_none, bd_ite, sCons, sNil, sSet, sAsg, sPar, sDo, sRet, sRetN, sIf, sPut, setAt, sAug, sBrk, sCnt, eVar, eC, eOp, eUn, eFn, eMt, aNil, aCons, eTup, eLst, eAnd, eOr, eNot, eIf, bTest, bTruth, bAnd, bOr, bNot, bYes, truW, eIsi, tyW, isiT, eChain, gII, gIIc, gIx, seqOf, lstOf, gLen, lenW, gEq, gNe, eqW, sEq, tgM_name, tgM_tup, tgMs_nil, tgMs_name, tgMs_tup, gAdd, gMul, gNeg, gIs, gIsNot, Mir.isNon, gInt1, g1I, g2I, gTuple, gList, isL, gLm, fAppend, fPop, fExtend, gIAdd, eSl, pNo, pAt, gSlA, atI, ixN, ofString_inj, HT.sIx, hl]
    exact e
end K10

set_option Elab.async false
set_option linter.all false
set_option maxRecDepth 100000
namespace K10
open PySem PySem.Spec PyProof.Rows L2 Mir
theorem kids_few {ar : List Int} (ha : ∀ a ∈ ar, a ≤ 10) {d : D} (h : d.node ar = true) : d.kids.length ≤ 10 := by
  cases d with
  | v n => exact Nat.zero_le _
  | f a b => exact (by decide : 2 ≤ 10)
  | bad w => exact Nat.zero_le _
  | t as =>
    simp only [D.node, Bool.and_eq_true, decide_eq_true_eq] at h
    simp only [D.kids]
    omega
  | c s as =>
    simp only [D.node, Bool.and_eq_true, decide_eq_true_eq] at h
    simp only [D.kids]
    have := ha _ (List.mem_of_getElem? h.2)
    omega
abbrev tShape : FT := bTruth (eVar 3)
noncomputable abbrev bShape : FS := (sCons (sAsg (.tup [(.name 4), (.name 5)]) (eMt isL gPop (eVar 3) aNil))
    (sCons (sAug 2 gIAdd (eC (.int 1)))
    (sCons (sIf (bOr (bTest (eOp gGt (eVar 2) (eC (.int 2000)))) (bOr (bTest (eOp gGt (eVar 5) (eC (.int 100)))) (bNot (bTruth (eFn FIsNode (aCons (eVar 4) (aCons (eVar 1) aNil))))))) (sRet (eC (.bl false))) sNil)
    (sFor (iSeq (eFn FPartsOfShape (aCons (eVar 4) aNil))) (.name 6) (sDo (eMt isL gAppend (eVar 3) (aCons (eTup (aCons (eVar 6) (aCons (eOp gAdd (eVar 5) (eC (.int 1))) aNil))) aNil)))))))
theorem walk {ar : List Int} (ha : ∀ a ∈ ar, a ≤ 10) {s : Sto} {w0 : W} : ∀ (n : Nat) (k : Stk) (c : Nat) (x4 x5 x6 : Option W), wfS ar k → c ≤ 2000 → 2001 ≤ c + n → k.length ≤ 1 + 10 * c →
    ∃ o st, wh tShape bShape n [some w0, some (arW ar), some (.int c), some (.ref s.length), x4, x5, x6] (s ++ [.lst (stW k)]) = some (o, s ++ [.lst st]) ∧
      if goodS ar k = true ∧ c + szS k ≤ 2000 then ∃ ρ, o = .nx ρ else o = .rt (.bl false) := by
  intro n
  induction n with
  | zero => intro k c x4 x5 x6 _ h1 h2; omega
  | succ n ih =>
    intro k c x4 x5 x6 hw h1 h2 h3
    rcases List.eq_nil_or_concat k with rfl | ⟨r, ⟨d, l⟩, rfl⟩
    · refine ⟨.nx [some w0, some (arW ar), some (.int c), some (.ref s.length), x4, x5, x6], stW [], ?_, ?_⟩
      · rw [wh]
        simp [mkF, bd_some, bd_none, bd_ite, sCons, sNil, sSet, sAsg, sPar, sDo, sRet, sRetN, sIf, sPut, setAt, sAug, sBrk, sCnt, eVar, eC, eOp, eUn, eFn, eMt, aNil, aCons, eTup, eLst, eAnd, eOr, eNot, eIf, bTest, bTruth, bAnd, bOr, bNot, bYes, truW, eIsi, tyW, isiT, eChain, gII, gIIc, gIx, seqOf, lstOf, gLen, lenW, gEq, gNe, eqW, sEq, tgM_name, tgM_tup, tgMs_nil, tgMs_name, tgMs_tup, gAdd, gMul, gNeg, gIs, gIsNot, Mir.isNon, gInt1, g1I, g2I, gTuple, gList, isL, gLm, fAppend, fPop, fExtend, gIAdd, eSl, pNo, pAt, gSlA, atI, ixN, ofString_inj, HT.sIx, stW]
      · rw [if_pos ⟨rfl, by simp [szS]; exact h1⟩]
        exact ⟨_, rfl⟩
    · have hd : d.wf ar := hw (d, l) (by simp)
      have e1 : stW (r.concat (d, l)) = stW r ++ [.tup [d.w, .int l]] := by simp [stW, item]
      have e2 : szS (r.concat (d, l)) = szS r + (1 + D.sizeL d.kids) := by rw [List.concat_eq_append, szS_app, ← size_kids]; simp [szS]
      have e3 : goodS ar (r.concat (d, l)) = (goodS ar r && d.good ar l) := by rw [List.concat_eq_append, goodS_app]; simp [goodS]
      rw [e1, e2, e3]
      have lr : r.length + 1 ≤ 1 + 10 * c := by simpa using h3
      by_cases hc : c + 1 ≤ 2000
      · by_cases hl : l ≤ 100
        · cases hn : d.node ar with
          | true =>
            have hx : d.isX = false := by
              cases d <;> first | rfl | (simp only [D.node] at hn; cases hn)
            obtain ⟨y', e4⟩ := fo_push (s := s) (l := l) (w0 := w0) (ar := arW ar) (p := d.w) (c := ((c : Nat) : Int) + 1) d.kids r x6 (by
              have := kids_few ha hn
              simp only [stW, List.length_map]
              omega)
            obtain ⟨o, st, e5, e6⟩ := ih (r ++ push (l + 1) d.kids) (c + 1) (some d.w) (some (.int l)) y' (fun p hp => by
                rcases List.mem_append.mp hp with hp | hp
                · exact hw p (by simp [hp])
                · exact wfS_push (l + 1) (wf_kids hd hx) p hp) hc (by omega) (by
                have := kids_few ha hn
                simp only [List.length_append, push, List.length_map]
                omega)
            refine ⟨o, st, ?_, ?_⟩
            · rw [wh]
              have g1 : ¬ (2000 : Int) < (c : Int) + 1 := by omega
              have g2 : ¬ (100 : Int) < (l : Int) := by omega
              simp [mkF, bd_some, bd_none, bd_ite, sCons, sNil, sSet, sAsg, sPar, sDo, sRet, sRetN, sIf, sPut, setAt, sAug, sBrk, sCnt, eVar, eC, eOp, eUn, eFn, eMt, aNil, aCons, eTup, eLst, eAnd, eOr, eNot, eIf, bTest, bTruth, bAnd, bOr, bNot, bYes, truW, eIsi, tyW, isiT, eChain, gII, gIIc, gIx, seqOf, lstOf, gLen, lenW, gEq, gNe, eqW, sEq, tgM_name, tgM_tup, tgMs_nil, tgMs_name, tgMs_tup, gAdd, gMul, gNeg, gIs, gIsNot, Mir.isNon, gInt1, g1I, g2I, gTuple, gList, isL, gLm, fAppend, fPop, fExtend, gIAdd, eSl, pNo, pAt, gSlA, atI, ixN, ofString_inj, HT.sIx, sFor, iSeq, isNode_ok hd, hn, parts_ok hx, g1, g2, e4]
              exact e5
            · rw [goodS_app, goodS_push, szS_app, szS_push] at e6
              rw [good_kids ar l d hx, hn, decide_eq_true hl, Bool.true_and, Bool.true_and]
              have e7 : c + 1 + (szS r + D.sizeL d.kids) = c + (szS r + (1 + D.sizeL d.kids)) := by omega
              rw [e7] at e6
              exact e6
          | false =>
            refine ⟨.rt (.bl false), stW r, ?_, ?_⟩
            · rw [wh]
              have g1 : ¬ (2000 : Int) < (c : Int) + 1 := by omega
              have g2 : ¬ (100 : Int) < (l : Int) := by omega
              simp [mkF, bd_some, bd_none, bd_ite, sCons, sNil, sSet, sAsg, sPar, sDo, sRet, sRetN, sIf, sPut, setAt, sAug, sBrk, sCnt, eVar, eC, eOp, eUn, eFn, eMt, aNil, aCons, eTup, eLst, eAnd, eOr, eNot, eIf, bTest, bTruth, bAnd, bOr, bNot, bYes, truW, eIsi, tyW, isiT, eChain, gII, gIIc, gIx, seqOf, lstOf, gLen, lenW, gEq, gNe, eqW, sEq, tgM_name, tgM_tup, tgMs_nil, tgMs_name, tgMs_tup, gAdd, gMul, gNeg, gIs, gIsNot, Mir.isNon, gInt1, g1I, g2I, gTuple, gList, isL, gLm, fAppend, fPop, fExtend, gIAdd, eSl, pNo, pAt, gSlA, atI, ixN, ofString_inj, HT.sIx, isNode_ok hd, hn, g1, g2]
            · have : d.good ar l = false := by
                cases hx : d.isX with
                | true => cases d <;> first | (cases hx; done) | (rw [D.good])
                | false => rw [good_kids ar l d hx, hn]; simp
              rw [this, if_neg (by simp)]
        · refine ⟨.rt (.bl false), stW r, ?_, ?_⟩
          · rw [wh]
            have g1 : ¬ (2000 : Int) < (c : Int) + 1 := by omega
            have g2 : (100 : Int) < (l : Int) := by omega
            simp [mkF, bd_some, bd_none, bd_ite, sCons, sNil, sSet, sAsg, sPar, sDo, sRet, sRetN, sIf, sPut, setAt, sAug, sBrk, sCnt, eVar, eC, eOp, eUn, eFn, eMt, aNil, aCons, eTup, eLst, eAnd, eOr, eNot, eIf, bTest, bTruth, bAnd, bOr, bNot, bYes, truW, eIsi, tyW, isiT, eChain, gII, gIIc, gIx, seqOf, lstOf, gLen, lenW, gEq, gNe, eqW, sEq, tgM_name, tgM_tup, tgMs_nil, tgMs_name, tgMs_tup, gAdd, gMul, gNeg, gIs, gIsNot, Mir.isNon, gInt1, g1I, g2I, gTuple, gList, isL, gLm, fAppend, fPop, fExtend, gIAdd, eSl, pNo, pAt, gSlA, atI, ixN, ofString_inj, HT.sIx, g1, g2]
          · have : d.good ar l = false := by
              cases hx : d.isX with
              | true => cases d <;> first | (cases hx; done) | (rw [D.good])
              | false => rw [good_kids ar l d hx, decide_eq_false hl]; simp
            rw [this, if_neg (by simp)]
      · refine ⟨.rt (.bl false), stW r, ?_, ?_⟩
        · rw [wh]
          have g1 : (2000 : Int) < (c : Int) + 1 := by omega
          simp [mkF, bd_some, bd_none, bd_ite, sCons, sNil, sSet, sAsg, sPar, sDo, sRet, sRetN, sIf, sPut, setAt, sAug, sBrk, sCnt, eVar, eC, eOp, eUn, eFn, eMt, aNil, aCons, eTup, eLst, eAnd, eOr, eNot, eIf, bTest, bTruth, bAnd, bOr, bNot, bYes, truW, eIsi, tyW, isiT, eChain, gII, gIIc, gIx, seqOf, lstOf, gLen, lenW, gEq, gNe, eqW, sEq, tgM_name, tgM_tup, tgMs_nil, tgMs_name, tgMs_tup, gAdd, gMul, gNeg, gIs, gIsNot, Mir.isNon, gInt1, g1I, g2I, gTuple, gList, isL, gLm, fAppend, fPop, fExtend, gIAdd, eSl, pNo, pAt, gSlA, atI, ixN, ofString_inj, HT.sIx, g1]
        · rw [if_neg (by omega)]
theorem isShape_ok {ar : List Int} (ha : ∀ a ∈ ar, a ≤ 10) {s : Sto} {d : D} (hd : d.wf ar) :
    ∃ t, FIsShape [d.w, arW ar] s = some (.bl (d.good ar 1 && decide (d.size ≤ 2000)), s ++ t) := by
  obtain ⟨o, st, e1, e2⟩ := walk ha (s := s) (w0 := d.w) 100000 [(d, 1)] 0 none none none (fun p hp => by
    rw [List.mem_singleton.mp hp]; exact hd) (by decide) (by decide) (by simp)
  refine ⟨[.lst st], ?_⟩
  have e3 : goodS ar [(d, 1)] = d.good ar 1 := by simp [goodS]
  have e4 : szS [(d, 1)] = d.size := by simp [szS]
  rw [e3, e4, Nat.zero_add] at e2
  unfold FIsShape BIsShape
  have e6 : wh tShape bShape 100000 [some d.w, some (arW ar), some (W.int 0), some (W.ref s.length), none, none, none] (s ++ [O.lst [W.tup [d.w, W.int 1]]]) = some (o, s ++ [O.lst st]) := e1
  have fin : (match o with
      | .nx _ => Out.rt (.bl true)
      | o => o) = Out.rt (.bl (d.good ar 1 && decide (d.size ≤ 2000))) := by
    by_cases q : d.good ar 1 = true ∧ d.size ≤ 2000
    · rw [if_pos q] at e2
      obtain ⟨ρ, rfl⟩ := e2
      simp [q]
    · rw [if_neg q] at e2
      subst e2
      have : (d.good ar 1 && decide (d.size ≤ 2000)) = false := by
        rw [Bool.eq_false_iff]
        intro h
        rw [Bool.and_eq_true, decide_eq_true_eq] at h
        exact q h
      rw [this]
  simp [mkF, bd_some, bd_none, bd_ite, sCons, sNil, sSet, sAsg, sPar, sDo, sRet, sRetN, sIf, sPut, setAt, sAug, sBrk, sCnt, eVar, eC, eOp, eUn, eFn, eMt, aNil, aCons, eTup, eLst, eAnd, eOr, eNot, eIf, bTest, bTruth, bAnd, bOr, bNot, bYes, truW, eIsi, tyW, isiT, eChain, gII, gIIc, gIx, seqOf, lstOf, gLen, lenW, gEq, gNe, eqW, sEq, tgM_name, tgM_tup, tgMs_nil, tgMs_name, tgMs_tup, gAdd, gMul, gNeg, gIs, gIsNot, Mir.isNon, gInt1, g1I, g2I, gTuple, gList, isL, gLm, fAppend, fPop, fExtend, gIAdd, eSl, pNo, pAt, gSlA, atI, ixN, ofString_inj, HT.sIx, sWh, e6]
  cases o with
  | nx ρ => injection fin with fin; rw [← fin]; rfl
  | rt w => injection fin with fin; rw [← fin]; rfl
  | bk ρ => cases fin
  | ct ρ => cases fin
end K10

set_option Elab.async false
set_option linter.all false
set_option maxRecDepth 100000
namespace K10
open PySem PySem.Spec PyProof.Rows L2 Mir
/-! ### the tape -/
def pk (ts : List Int) (a m : Int) : Int := ts.getD (a % (ts.length : Int)).toNat 0 % m
theorem pk_lo {ts : List Int} {a m : Int} (h : 0 < m) : 0 ≤ pk ts a m := Int.emod_nonneg _ (by omega)
theorem pk_hi {ts : List Int} {a m : Int} (h : 0 < m) : pk ts a m < m := Int.emod_lt_of_pos _ h
theorem ints_at {ts : List Int} {i : Int} (h0 : 0 ≤ i) (h1 : i < (ts.length : Int)) : atI (ts.map W.int) i = some (.int (ts.getD i.toNat 0)) := by
  obtain ⟨j, hj⟩ : ∃ j : Nat, i = (j : Int) := ⟨i.toNat, (Int.toNat_of_nonneg h0).symm⟩
  subst hj
  have hl : j < ts.length := by omega
  refine atI_nat ?_
  simp [hl]
theorem intsOf_map : ∀ ts : List Int, intsOf (ts.map W.int) = some ts
  | [] => rfl
  | t :: ts => by rw [List.map_cons, intsOf, intsOf_map ts]
theorem pick_ok {s : Sto} {r : Nat} {ts : List Int} {a m : Int} (h : s[r]? = some (.lst (ts.map W.int))) (hl : 0 < ts.length) (hm : 0 < m) : FLawPick [.ref r, .int a, .int m] s = some (.int (pk ts a m), s) := by
  have l0 : (0 : Int) < (ts.length : Int) := by omega
  have e : gIx (.ref r) (.int (a % (ts.length : Int))) s = some (.int (ts.getD (a % (ts.length : Int)).toNat 0), s) := by
    simp only [gIx, seqOf, h, ints_at (Int.emod_nonneg a (by omega)) (Int.emod_lt_of_pos a l0)]
  have g : gMod (.int (ts.getD (a % (ts.length : Int)).toNat 0)) (.int m) s = some (.int (pk ts a m), s) := by simp [gIIc, hm, pk]
  have g2 : gMod (.int a) (.int (ts.length : Int)) s = some (.int (a % (ts.length : Int)), s) := by
    simp only [gIIc, l0, decide_true, if_true]
  have g3 : gLen [.ref r] s = some (.int (ts.length : Int), s) := by simp [gLen, lenW, h]
  unfold FLawPick BLawPick
  simp only [mkF, sRet, eOp, eFn, aCons, aNil, eVar, List.map_cons, List.map_nil, List.length_cons, List.length_nil, if_true, List.nil_append, List.cons_append, List.replicate, Nat.zero_add, List.getElem?_cons_succ, List.getElem?_cons_zero, bd_some, gInt1, g3, g2, e, g]
theorem cells_go {s : Sto} {sl : List W} {y0 y1 y4 y5 y6 y7 : Option W} (hs : sl.length ≤ 63) : ∀ (ns : List Int) (cs : List Int) (y3 : Option W), cs.length + ns.length ≤ 100 → (∀ c ∈ cs, 0 ≤ c) →
    ∃ (cs' : List Int) (y3' : Option W), 0 < cs.length → fo (.name 3) (sDo (eMt isL gAppend (eVar 2) (aCons (eFn gAbs (aCons (eVar 3) aNil)) aNil))) (some (s.length + 1, sl)) (ns.map W.int) [y0, y1, some (.ref s.length), y3, y4, y5, y6, y7] (s ++ [.lst (cs.map W.int), .lst sl])
      = some (.nx [y0, y1, some (.ref s.length), y3', y4, y5, y6, y7], s ++ [.lst (cs'.map W.int), .lst sl]) ∧ 0 < cs'.length ∧ cs'.length ≤ 100 ∧ ∀ c ∈ cs', 0 ≤ c
  | [], cs, y3, h, hc => ⟨cs, y3, fun h0 => ⟨by rw [List.map_nil, fo, if_pos (by simp [okc])], h0, by simpa using h, hc⟩⟩
  | n :: ns, cs, y3, h, hc => by
    obtain ⟨cs', y3', e⟩ := cells_go (y0 := y0) (y1 := y1) (y4 := y4) (y5 := y5) (y6 := y6) (y7 := y7) hs ns (cs ++ [if n < 0 then -n else n]) (some (.int n)) (by simp at h ⊢; omega) (fun c hc' => by
      rcases List.mem_append.mp hc' with hc' | hc'
      · exact hc c hc'
      · rw [List.mem_singleton.mp hc']; split <;> omega)
    refine ⟨cs', y3', fun h0 => ?_⟩
    obtain ⟨e, r⟩ := e (by simp)
    refine ⟨?_, r⟩
    have hl : cs.length ≤ 100000 := by simp at h; omega
    rw [List.map_cons, fo, if_pos (by simp [okc])]
    simp [mkF, bd_some, bd_none, bd_ite, sCons, sNil, sSet, sAsg, sPar, sDo, sRet, sRetN, sIf, sPut, setAt, sAug, sBrk, sCnt, eVar, eC, eOp, eUn, eFn, eMt, aNil, aCons, eTup, eLst, eAnd, eOr, eNot, eIf, bTest, bTruth, bAnd, bOr, bNot, bYes, truW, eIsi, tyW, isiT, eChain, gII, gIIc, gIx, seqOf, lstOf, gLen, lenW, gEq, gNe, eqW, sEq, tgM_name, tgM_tup, tgMs_nil, tgMs_name, tgMs_tup, gAdd, gMul, gNeg, gIs, gIsNot, Mir.isNon, gInt1, g1I, g2I, gTuple, gList, isL, gLm, fAppend, fPop, fExtend, gIAdd, eSl, pNo, pAt, gSlA, atI, ixN, ofString_inj, HT.sIx, gAbs, hl]
    simpa using e
noncomputable abbrev bTape : FS := (sIf (bTest (eOp gGt (eVar 4) (eC (.int 0)))) (sCons (sDo (eMt isL gAppend (eVar 6) (aCons (eOp gMod (eFn gInt1 (aCons (eVar 4) aNil)) (eC (.int 1009))) aNil)))
    (sSet 4 (eOp gDiv (eVar 4) (eC (.int 1009))))) (sCons (sSet 5 (eOp gMod (eFn gInt1 (aCons (eOp gAdd (eOp gAdd (eOp gMul (eVar 5) (eC (.int 48271))) (eOp gMul (eOp gIx (eVar 2) (eOp gMod (eFn gInt1 (aCons (eVar 7) aNil)) (eFn gLen (aCons (eVar 2) aNil)))) (eC (.int 69621)))) (eVar 7)) aNil)) (eC (.int 2147483647))))
    (sDo (eMt isL gAppend (eVar 6) (aCons (eOp gMod (eFn gInt1 (aCons (eOp gAdd (eOp gMul (eVar 5) (eC (.int 16807))) (eOp gMul (eVar 7) (eC (.int 7919)))) aNil)) (eC (.int 1000003))) aNil)))))
theorem mulR {i j : Int} {s : Sto} (h1 : -(2 ^ 64) < j) (h2 : j < 2 ^ 64) : gMul (.int i) (.int j) s = some (.int (i * j), s) := by
  simp only [gMul]
  rw [if_pos (.inr ⟨h1, h2⟩)]
theorem modR {i j : Int} {s : Sto} (h1 : 0 < j) : gMod (.int i) (.int j) s = some (.int (i % j), s) := by
  simp only [gIIc, decide_eq_true h1, if_true]
theorem divR {i j : Int} {s : Sto} (h1 : 0 < j) (h2 : j < 1073741824) : gDiv (.int i) (.int j) s = some (.int (i / j), s) := by
  have h : decide (0 < j ∧ j < 1073741824) = true := decide_eq_true ⟨h1, h2⟩
  simp only [gIIc, h, if_true]
theorem addI {i j : Int} {s : Sto} : gAdd (.int i) (.int j) s = some (.int (i + j), s) := rfl
theorem int1 {i : Int} {s : Sto} : gInt1 [.int i] s = some (.int i, s) := rfl
theorem appL {n : Nat} {s : Sto} {ws : List W} {w : W} (h : s[n]? = some (.lst ws)) (hl : ws.length ≤ 100000) : gAppend (.ref n) [w] s = some (.non, s.set n (.lst (ws ++ [w]))) := by
  simp only [gLm, h, fAppend, hl, if_true]
theorem isLR {n : Nat} {s : Sto} {ws : List W} (h : s[n]? = some (.lst ws)) : isL (.ref n) s = true := by simp only [isL, h]
theorem tape_turn {s : Sto} {cs : List Int} {o1 : O} {y0 y1 y3 : Option W} {big value lo : Int} {ts : List Int} (hc : 0 < cs.length) (h0 : 0 ≤ lo) (hl : ts.length ≤ 1000) :
    ∃ big' value' t : Int, (0 ≤ big → 0 ≤ big') ∧ bTape [y0, y1, some (.ref s.length), y3, some (.int big), some (.int value), some (.ref (s.length + 2)), some (.int lo)] (s ++ [.lst (cs.map W.int), o1, .lst (ts.map W.int)])
      = some (.nx [y0, y1, some (.ref s.length), y3, some (.int big'), some (.int value'), some (.ref (s.length + 2)), some (.int lo)], s ++ [.lst (cs.map W.int), o1, .lst ((ts ++ [t]).map W.int)]) := by
  have hs : (s ++ [.lst (cs.map W.int), o1, .lst (ts.map W.int)])[s.length + 2]? = some (.lst (ts.map W.int)) := by simp
  have hs0 : (s ++ [.lst (cs.map W.int), o1, .lst (ts.map W.int)])[s.length]? = some (.lst (cs.map W.int)) := by simp
  have hz : (ts.map W.int).length ≤ 100000 := by rw [List.length_map]; omega
  have st : ∀ t : Int, (s ++ [.lst (cs.map W.int), o1, .lst (ts.map W.int)]).set (s.length + 2) (.lst (ts.map W.int ++ [.int t])) = s ++ [.lst (cs.map W.int), o1, .lst ((ts ++ [t]).map W.int)] := fun t => by
    simp
  have l0 : (0 : Int) < (cs.length : Int) := by omega
  have gl : gLen [.ref s.length] (s ++ [.lst (cs.map W.int), o1, .lst (ts.map W.int)]) = some (.int (cs.length : Int), s ++ [.lst (cs.map W.int), o1, .lst (ts.map W.int)]) := by
    simp only [gLen, lenW, hs0, List.length_map]
  by_cases hp : 0 < big
  · refine ⟨big / 1009, value, big % 1009, fun h => Int.ediv_nonneg h (by decide), ?_⟩
    have g : gGt (.int big) (.int 0) (s ++ [.lst (cs.map W.int), o1, .lst (ts.map W.int)]) = some (.bl true, s ++ [.lst (cs.map W.int), o1, .lst (ts.map W.int)]) := by simp only [gII, decide_eq_true hp]
    simp only [bTape, sIf, sCons, sDo, sSet, bTest, eOp, eFn, eMt, aCons, aNil, eVar, eC, bd_some, g, int1, modR (show (0 : Int) < 1009 by decide), divR (show (0 : Int) < 1009 by decide) (show (1009 : Int) < 1073741824 by decide), appL hs hz, isLR hs, if_true, List.getElem?_cons_succ, List.getElem?_cons_zero, List.set_cons_succ, List.set_cons_zero, st]
  · have e0 : gIx (.ref s.length) (.int (lo % (cs.length : Int))) (s ++ [.lst (cs.map W.int), o1, .lst (ts.map W.int)]) = some (.int (cs.getD (lo % (cs.length : Int)).toNat 0), s ++ [.lst (cs.map W.int), o1, .lst (ts.map W.int)]) := by
      simp only [gIx, seqOf, hs0, ints_at (Int.emod_nonneg lo (by omega : (cs.length : Int) ≠ 0)) (Int.emod_lt_of_pos lo l0)]
    refine ⟨big, (value * 48271 + cs.getD (lo % (cs.length : Int)).toNat 0 * 69621 + lo) % 2147483647, ((value * 48271 + cs.getD (lo % (cs.length : Int)).toNat 0 * 69621 + lo) % 2147483647 * 16807 + lo * 7919) % 1000003, fun h => h, ?_⟩
    have g : gGt (.int big) (.int 0) (s ++ [.lst (cs.map W.int), o1, .lst (ts.map W.int)]) = some (.bl false, s ++ [.lst (cs.map W.int), o1, .lst (ts.map W.int)]) := by simp only [gII, decide_eq_false hp]
    simp only [bTape, sIf, sCons, sDo, sSet, bTest, eOp, eFn, eMt, aCons, aNil, eVar, eC, bd_some, g, gl, int1, e0, addI, modR l0, modR (show (0 : Int) < 2147483647 by decide), modR (show (0 : Int) < 1000003 by decide), mulR (show -(2 ^ 64) < (48271 : Int) by decide) (show (48271 : Int) < 2 ^ 64 by decide), mulR (show -(2 ^ 64) < (69621 : Int) by decide) (show (69621 : Int) < 2 ^ 64 by decide),
      mulR (show -(2 ^ 64) < (16807 : Int) by decide) (show (16807 : Int) < 2 ^ 64 by decide), mulR (show -(2 ^ 64) < (7919 : Int) by decide) (show (7919 : Int) < 2 ^ 64 by decide), appL hs hz, isLR hs, if_true, List.getElem?_cons_succ, List.getElem?_cons_zero, List.set_cons_succ, List.set_cons_zero, st, Bool.false_eq_true, if_false]
theorem tape_go {s : Sto} {cs : List Int} {o1 : O} {y0 y1 y3 : Option W} (hc : 0 < cs.length) : ∀ (m : Nat) (lo : Nat) (big value : Int) (ts : List Int) (y7 : Option W), ts.length + m ≤ 1000 →
    ∃ (big' value' : Int) (ts' : List Int) (y7' : Option W), fo (.name 7) bTape none ((List.range' lo m).map fun (i : Nat) => W.int (0 + (i : Int))) [y0, y1, some (.ref s.length), y3, some (.int big), some (.int value), some (.ref (s.length + 2)), y7] (s ++ [.lst (cs.map W.int), o1, .lst (ts.map W.int)])
      = some (.nx [y0, y1, some (.ref s.length), y3, some (.int big'), some (.int value'), some (.ref (s.length + 2)), y7'], s ++ [.lst (cs.map W.int), o1, .lst (ts'.map W.int)]) ∧ ts'.length = ts.length + m := by
  intro m
  induction m with
  | zero =>
    intro lo big value ts y7 _
    exact ⟨big, value, ts, y7, by rw [List.range'_zero, List.map_nil, fo, if_pos (show okc none _ from trivial)], rfl⟩
  | succ m ih =>
    intro lo big value ts y7 hl
    obtain ⟨b1, v1, t, _, e1⟩ := tape_turn (s := s) (o1 := o1) (y0 := y0) (y1 := y1) (y3 := y3) (big := big) (value := value) (lo := 0 + (lo : Int)) (ts := ts) hc (by omega) (by omega)
    obtain ⟨b2, v2, ts2, y2, e2, e3⟩ := ih (lo + 1) b1 v1 (ts ++ [t]) (some (.int (0 + (lo : Int)))) (by simp; omega)
    refine ⟨b2, v2, ts2, y2, ?_, by rw [e3]; simp; omega⟩
    rw [List.range'_succ, List.map_cons, fo, if_pos (show okc none _ from trivial), tgM_name]
    show bd (bTape [y0, y1, some (.ref s.length), y3, some (.int big), some (.int value), some (.ref (s.length + 2)), some (.int (0 + (lo : Int)))] _) _ = _
    rw [e1]
    exact e2
theorem tape_ok {s : Sto} {ns : List Int} : ∃ (c1 c2 : O) (ts : List Int), FLawTape [.lro (ns.map W.int), .int 120] s = some (.ref (s.length + 2), s ++ [c1, c2, O.lst (ts.map W.int)]) ∧ ts.length = 120 := by
  have esl : ∃ ms : List Int, ((ns.map W.int).drop (HT.sIx (ns.map W.int).length 0 none)).take (HT.sIx (ns.map W.int).length (ns.map W.int).length (some 63) - HT.sIx (ns.map W.int).length 0 none) = ms.map W.int ∧ ms.length ≤ 63 := by
    refine ⟨ns.take (min 63 ns.length), ?_, ?_⟩
    · rw [HT.sIx_none, List.drop_zero, Nat.sub_zero, List.map_take, List.length_map]
      exact congrArg (fun z => List.take z (ns.map W.int)) (HT.sIx_nat ns.length ns.length 63)
    · rw [List.length_take]
      omega
  obtain ⟨ms, e1, hms⟩ := esl
  obtain ⟨cs, y3, e2⟩ := cells_go (s := s) (sl := ms.map W.int) (y0 := some (.lro (ns.map W.int))) (y1 := some (.int 120)) (y4 := none) (y5 := none) (y6 := none) (y7 := none) (by simpa using hms) ms [0] none (by simp; omega) (by simp)
  obtain ⟨e2, h0, h1, h2⟩ := e2 (by decide)
  have hmax : 0 ≤ maxI cs := h2 _ (max_is h0).1
  have e2 : fo (.name 3) (sDo (eMt isL gAppend (eVar 2) (aCons (eFn gAbs (aCons (eVar 3) aNil)) aNil))) (some (s.length + 1, ms.map W.int)) (ms.map W.int) [some (.lro (ns.map W.int)), some (.int 120), some (.ref s.length), none, none, none, none, none] (s ++ [O.lst [.int 0], O.lst (ms.map W.int)]) = _ := e2
  have e3 : gSlA (.lro (ns.map W.int)) none (some 63) (s ++ [O.lst [.int 0]]) = some (.ref (s.length + 1), s ++ [O.lst [.int 0], O.lst (ms.map W.int)]) := by
    simp only [gSlA, lstOf, e1]
    simp
  obtain ⟨big, hb, e4⟩ : ∃ big : Int, 0 ≤ big ∧ (if maxI cs < 1000000000000000000 then (0 : Int) else maxI cs) = big := ⟨_, by split <;> omega, rfl⟩
  obtain ⟨b', v', ts, y7, e5, e6⟩ := tape_go (s := s) (cs := cs) (o1 := .lst (ms.map W.int)) (y0 := some (.lro (ns.map W.int))) (y1 := some (.int 120)) (y3 := y3) h0 120 0 big (12345 + (cs.length : Int)) [] none (by simp)
  refine ⟨.lst (cs.map W.int), O.lst (ms.map W.int), ts, ?_, by simpa using e6⟩
  have e7 : List.range 120 = List.range' 0 120 := by rw [List.range_eq_range']
  have e5 := e5
  rw [← e7] at e5
  simp only [List.map_nil] at e5
  have e8 : gMaxL [.ref s.length] (s ++ [O.lst (cs.map W.int), O.lst (ms.map W.int)]) = some (.int (maxI cs), s ++ [O.lst (cs.map W.int), O.lst (ms.map W.int)]) := by
    simp [gMaxL, lstOf, intsOf_map, h0]
  have e9 : okc (some (s.length + 1, ms.map W.int)) (s ++ [O.lst [.int 0], O.lst (ms.map W.int)]) := by simp [okc]
  have e10 : gLen [.ref s.length] (s ++ [O.lst (cs.map W.int), O.lst (ms.map W.int)]) = some (.int (cs.length : Int), s ++ [O.lst (cs.map W.int), O.lst (ms.map W.int)]) := by
    simp [gLen, lenW]
  have e11 : (s ++ [O.lst (cs.map W.int), O.lst (ms.map W.int)]).length = s.length + 2 := by simp
  have e12 : s ++ [O.lst (cs.map W.int), O.lst (ms.map W.int)] ++ [O.lst []] = s ++ [O.lst (cs.map W.int), O.lst (ms.map W.int), O.lst []] := by simp
  have e13 : gPow (.int 10) (.int 18) (s ++ [O.lst (cs.map W.int), O.lst (ms.map W.int)]) = some (.int 1000000000000000000, s ++ [O.lst (cs.map W.int), O.lst (ms.map W.int)]) := by
    have h : decide ((0 : Int) ≤ 18 ∧ (18 : Int) ≤ 1000000 ∧ (10 : Int).natAbs < 2 ^ 64) = true := by decide
    simp only [gIIc, h, if_true]
    rfl
  unfold FLawTape BLawTape
  by_cases hm : maxI cs < 1000000000000000000
  · rw [if_pos hm] at e4
    subst e4
    have g : gLt (.int (maxI cs)) (.int 1000000000000000000) (s ++ [O.lst (cs.map W.int), O.lst (ms.map W.int)]) = some (.bl true, s ++ [O.lst (cs.map W.int), O.lst (ms.map W.int)]) := by simp only [gII, decide_eq_true hm]
    have el : lstOf (.ref (s.length + 1)) (s ++ [O.lst [.int 0], O.lst (ms.map W.int)]) = some (ms.map W.int) := by simp [lstOf]
    simp only [mkF, bd_some, bd_none, sCons, sNil, sSet, sAsg, sPar, sDo, sRet, sRetN, sIf, sPut, sAug, sBrk, sCnt, sFor, iSeq, iEnu, Mir.iRev, Mir.iRng1, Mir.iRng2, eVar, eC, eOp, eUn, eFn, eMt, aNil, aCons, eTup, eLst, eAnd, eOr, eNot, eIf, bTest, bTruth, bAnd, bOr, bNot, bYes, eSl, pNo, pAt, tgM_name, tgM_tup, tgMs_nil, tgMs_name, tgMs_tup, List.getElem?_cons_succ, List.getElem?_cons_zero, List.set_cons_succ, List.set_cons_zero, List.map_cons, List.map_nil, List.length_cons, List.length_nil, List.replicate, List.nil_append, List.cons_append, if_true, if_false, Bool.false_eq_true, Nat.reduceAdd, Nat.reduceSub, Nat.reduceLeDiff, Nat.zero_add, Bool.not_true, Bool.not_false, e3, el, chkOf, e2, e8, e13, g, e10, addI, e11, e12]
    rw [if_pos (by decide)]
    simp only [bd_some, show Int.toNat 120 = 120 from rfl]
    have e5 : fo (.name 7) bTape none ((List.range 120).map fun (i : Nat) => W.int (0 + (i : Int))) [some (.lro (ns.map W.int)), some (.int 120), some (.ref s.length), y3, some (.int 0), some (.int (12345 + (cs.length : Int))), some (.ref (s.length + 2)), none] (s ++ [O.lst (cs.map W.int), O.lst (ms.map W.int), O.lst []]) = _ := e5
    rw [e5]
    rfl
  · rw [if_neg hm] at e4
    subst e4
    have g : gLt (.int (maxI cs)) (.int 1000000000000000000) (s ++ [O.lst (cs.map W.int), O.lst (ms.map W.int)]) = some (.bl false, s ++ [O.lst (cs.map W.int), O.lst (ms.map W.int)]) := by simp only [gII, decide_eq_false hm]
    have el : lstOf (.ref (s.length + 1)) (s ++ [O.lst [.int 0], O.lst (ms.map W.int)]) = some (ms.map W.int) := by simp [lstOf]
    simp only [mkF, bd_some, bd_none, sCons, sNil, sSet, sAsg, sPar, sDo, sRet, sRetN, sIf, sPut, sAug, sBrk, sCnt, sFor, iSeq, iEnu, Mir.iRev, Mir.iRng1, Mir.iRng2, eVar, eC, eOp, eUn, eFn, eMt, aNil, aCons, eTup, eLst, eAnd, eOr, eNot, eIf, bTest, bTruth, bAnd, bOr, bNot, bYes, eSl, pNo, pAt, tgM_name, tgM_tup, tgMs_nil, tgMs_name, tgMs_tup, List.getElem?_cons_succ, List.getElem?_cons_zero, List.set_cons_succ, List.set_cons_zero, List.map_cons, List.map_nil, List.length_cons, List.length_nil, List.replicate, List.nil_append, List.cons_append, if_true, if_false, Bool.false_eq_true, Nat.reduceAdd, Nat.reduceSub, Nat.reduceLeDiff, Nat.zero_add, Bool.not_true, Bool.not_false, e3, el, chkOf, e2, e8, e13, g, e10, addI, e11, e12]
    rw [if_pos (by decide)]
    simp only [bd_some, show Int.toNat 120 = 120 from rfl]
    have e5 : fo (.name 7) bTape none ((List.range 120).map fun (i : Nat) => W.int (0 + (i : Int))) [some (.lro (ns.map W.int)), some (.int 120), some (.ref s.length), y3, some (.int (maxI cs)), some (.int (12345 + (cs.length : Int))), some (.ref (s.length + 2)), none] (s ++ [O.lst (cs.map W.int), O.lst (ms.map W.int), O.lst []]) = _ := e5
    rw [e5]
    rfl
end K10

set_option Elab.async false
set_option linter.all false
set_option maxRecDepth 100000
namespace K10
open PySem PySem.Spec PyProof.Rows L2 Mir
theorem gapp {s t : Sto} {r : Nat} {o : O} (h : s[r]? = some o) : (s ++ t)[r]? = some o := by
  rw [List.getElem?_append_left (List.getElem?_eq_some_iff.mp h).1]
  exact h
theorem gmid {s t : Sto} {o : O} : (s ++ o :: t)[s.length]? = some o := by simp
theorem smid {s t : Sto} {o o' : O} : (s ++ o :: t).set s.length o' = s ++ o' :: t := by simp
def ar8 : List Int := [0, 0, 0, 1, 0, 1, 1, 0]
mutual
def D.nodes (ar : List Int) : D → Bool
  | .v n => (D.v n).node ar
  | .c s as => (D.c s as).node ar && D.nodesL ar as
  | .t as => (D.t as).node ar && D.nodesL ar as
  | .f a b => a.nodes ar && b.nodes ar
  | .bad _ => false
def D.nodesL (ar : List Int) : List D → Bool
  | [] => true
  | x :: r => x.nodes ar && D.nodesL ar r
end
mutual
def D.dep : D → Nat
  | .v _ => 1
  | .c _ as => 1 + D.depL as
  | .t as => 1 + D.depL as
  | .f a b => 1 + max a.dep (max b.dep 0)
  | .bad _ => 1
def D.depL : List D → Nat
  | [] => 0
  | x :: r => max x.dep (D.depL r)
end
theorem nodesL_all (ar : List Int) : ∀ {ds : List D}, (∀ d ∈ ds, d.nodes ar = true) → D.nodesL ar ds = true
  | [], _ => rfl
  | x :: r, h => by rw [D.nodesL, h x List.mem_cons_self, nodesL_all ar fun d hd => h d (List.mem_cons_of_mem _ hd)]; rfl
theorem depL_le {n : Nat} : ∀ {ds : List D}, (∀ d ∈ ds, d.dep ≤ n) → D.depL ds ≤ n
  | [], _ => Nat.zero_le _
  | x :: r, h => by
    have h1 := h x List.mem_cons_self
    have h2 := depL_le (n := n) (ds := r) fun d hd => h d (List.mem_cons_of_mem _ hd)
    rw [D.depL]
    omega
theorem sizeL_le {n : Nat} : ∀ {ds : List D}, (∀ d ∈ ds, d.size ≤ n) → D.sizeL ds ≤ ds.length * n
  | [], _ => Nat.zero_le _
  | x :: r, h => by
    have h1 := h x List.mem_cons_self
    have h2 := sizeL_le (n := n) (ds := r) fun d hd => h d (List.mem_cons_of_mem _ hd)
    rw [D.sizeL, List.length_cons, Nat.add_mul]
    omega
def szB : Nat → Nat
  | 0 => 1
  | n + 1 => 1 + 4 * szB n
theorem szB_pos : ∀ n, 1 ≤ szB n
  | 0 => Nat.le_refl _
  | n + 1 => by rw [szB]; omega
/-- a shape of the law -/
structure Sh (l : Nat) (d : D) : Prop where
  nodes : d.nodes ar8 = true
  dep : d.dep ≤ l + 1
  size : d.size ≤ szB l
theorem Sh.leaf {d : D} {l : Nat} (h : d.nodes ar8 = true) (h1 : d.dep = 1) (h2 : d.size = 1) : Sh l d := ⟨h, by omega, by rw [h2]; exact szB_pos l⟩
theorem wL_app (a b : List D) : D.wL (a ++ b) = D.wL a ++ D.wL b := by rw [wL_map, wL_map, wL_map, List.map_append]
section
variable {r rf : Nat} {ts fr : List Int}
structure Env (s : Sto) (r rf : Nat) (ts fr : List Int) : Prop where
  tape : s[r]? = some (.lst (ts.map W.int))
  free : s[rf]? = some (.lst (fr.map W.int))
  pos : 0 < ts.length
  nn : ∀ n ∈ fr, 0 ≤ n
theorem Env.app {s t : Sto} (E : Env s r rf ts fr) : Env (s ++ t) r rf ts fr := ⟨gapp E.tape, gapp E.free, E.pos, E.nn⟩
theorem leaf_ok {s : Sto} {at_ : Int} (E : Env s r rf ts fr) : ∃ d : D, FLawLeaf [.ref r, .int at_, .ref rf] s = some (d.w, s) ∧ d.nodes ar8 = true ∧ d.dep = 1 ∧ d.size = 1 := by
  have l4 : (0 : Int) < 4 + (fr.length : Int) := by omega
  have ep := pick_ok (a := at_) E.tape E.pos l4
  have e0 := pk_lo (ts := ts) (a := at_) l4
  have e1 := pk_hi (ts := ts) (a := at_) l4
  generalize pk ts at_ (4 + (fr.length : Int)) = p at ep e0 e1
  have gl : gLen [.ref rf] s = some (.int (fr.length : Int), s) := by simp [gLen, lenW, E.free]
  unfold FLawLeaf BLawLeaf
  by_cases h : 4 ≤ p
  · have ei := ints_at (ts := fr) (i := p - 4) (by omega) (by omega)
    have hn : 0 ≤ fr.getD (p - 4).toNat 0 := by
      have hl : (p - 4).toNat < fr.length := by omega
      rw [List.getD_eq_getElem?_getD, List.getElem?_eq_getElem hl]
      exact E.nn _ (List.getElem_mem hl)
    refine ⟨.v (fr.getD (p - 4).toNat 0), ?_, by simp only [D.nodes, D.node, decide_eq_true hn], rfl, rfl⟩
    have g1 : gGe (.int p) (.int 4) s = some (.bl true, s) := by simp only [gII, decide_eq_true h]
    have g2 : gSub (.int p) (.int 4) s = some (.int (p - 4), s) := rfl
    have g3 : gIx (.ref rf) (.int (p - 4)) s = some (.int (fr.getD (p - 4).toNat 0), s) := by simp only [gIx, seqOf, E.free, ei]
    simp only [mkF, bd_some, bd_none, sCons, sNil, sSet, sAsg, sPar, sDo, sRet, sRetN, sIf, sPut, sAug, sBrk, sCnt, sFor, iSeq, iEnu, Mir.iRev, Mir.iRng1, Mir.iRng2, eVar, eC, eOp, eUn, eFn, eMt, aNil, aCons, eTup, eLst, eAnd, eOr, eNot, eIf, bTest, bTruth, bAnd, bOr, bNot, bYes, eSl, pNo, pAt, tgM_name, tgM_tup, tgMs_nil, tgMs_name, tgMs_tup, List.getElem?_cons_succ, List.getElem?_cons_zero, List.set_cons_succ, List.set_cons_zero, List.map_cons, List.map_nil, List.length_cons, List.length_nil, List.replicate, List.nil_append, List.cons_append, if_true, if_false, Bool.false_eq_true, Nat.reduceAdd, Nat.reduceSub, Nat.reduceLeDiff, Nat.zero_add, Bool.not_true, Bool.not_false, gl, addI, ep, g1, g2, g3, D.w]
  · have g1 : gGe (.int p) (.int 4) s = some (.bl false, s) := by simp only [gII, decide_eq_false h]
    have c4 : p = 0 ∨ p = 1 ∨ p = 2 ∨ p = 3 := by omega
    have main : ∀ q : Int, gIx (.tup [.int 0, .int 1, .int 4, .int 0]) (.int p) s = some (.int q, s) → mkF 3 4 BLawLeaf [.ref r, .int at_, .ref rf] s = some ((D.c q []).w, s) := fun q g3 => by
      unfold BLawLeaf
      simp only [mkF, bd_some, bd_none, sCons, sNil, sSet, sAsg, sPar, sDo, sRet, sRetN, sIf, sPut, sAug, sBrk, sCnt, sFor, iSeq, iEnu, Mir.iRev, Mir.iRng1, Mir.iRng2, eVar, eC, eOp, eUn, eFn, eMt, aNil, aCons, eTup, eLst, eAnd, eOr, eNot, eIf, bTest, bTruth, bAnd, bOr, bNot, bYes, eSl, pNo, pAt, tgM_name, tgM_tup, tgMs_nil, tgMs_name, tgMs_tup, List.getElem?_cons_succ, List.getElem?_cons_zero, List.set_cons_succ, List.set_cons_zero, List.map_cons, List.map_nil, List.length_cons, List.length_nil, List.replicate, List.nil_append, List.cons_append, if_true, if_false, Bool.false_eq_true, Nat.reduceAdd, Nat.reduceSub, Nat.reduceLeDiff, Nat.zero_add, Bool.not_true, Bool.not_false, gl, addI, ep, g1, g3, D.w, D.wL]
    unfold BLawLeaf at main
    rcases c4 with rfl | rfl | rfl | rfl
    · exact ⟨.c 0 [], main 0 rfl, by decide, rfl, rfl⟩
    · exact ⟨.c 1 [], main 1 rfl, by decide, rfl, rfl⟩
    · exact ⟨.c 4 [], main 4 rfl, by decide, rfl, rfl⟩
    · exact ⟨.c 0 [], main 0 rfl, by decide, rfl, rfl⟩
/-- what the recursion gives, a level lower -/
def ShOk (F : List W → Sto → Rz W) (l : Nat) : Prop := ∀ (s : Sto) (r rf : Nat) (ts fr : List Int) (at_ : Int), Env s r rf ts fr → ∃ (d : D) (at' : Int) (t : Sto), F [.ref r, .int at_, .int (l : Int), .ref rf] s = some (.tup [d.w, .int at'], s ++ t) ∧ Sh l d
theorem parts_go {F : List W → Sto → Rz W} {l : Nat} (H : ShOk F l) {s : Sto} (E : Env s r rf ts fr) {y4 y5 y6 y7 y9 : Option W} : ∀ (xs : List W) (ds : List D) (at_ : Int) (t : Sto) (y10 y11 : Option W), ds.length + xs.length ≤ 100 → (∀ d ∈ ds, Sh l d) →
    ∃ (ds' : List D) (at' : Int) (t' : Sto) (y10' y11' : Option W), fo (.name 10) (sCons (sAsg (.tup [(.name 11), (.name 1)]) (eFn F (aCons (eVar 0) (aCons (eVar 1) (aCons (eOp gSub (eVar 2) (eC (.int 1))) (aCons (eVar 3) aNil))))))
    (sDo (eMt isL gAppend (eVar 8) (aCons (eVar 11) aNil)))) none xs [some (.ref r), some (.int at_), some (.int ((l : Int) + 1)), some (.ref rf), y4, y5, y6, y7, some (.ref s.length), y9, y10, y11] (s ++ .lst (D.wL ds) :: t)
      = some (.nx [some (.ref r), some (.int at'), some (.int ((l : Int) + 1)), some (.ref rf), y4, y5, y6, y7, some (.ref s.length), y9, y10', y11'], s ++ .lst (D.wL ds') :: t') ∧ ds'.length = ds.length + xs.length ∧ ∀ d ∈ ds', Sh l d
  | [], ds, at_, t, y10, y11, h, hd => ⟨ds, at_, t, y10, y11, by rw [fo, if_pos (show okc none _ from trivial)], rfl, hd⟩
  | x :: xs, ds, at_, t, y10, y11, h, hd => by
    obtain ⟨d, a1, t1, e1, h1⟩ := H (s ++ .lst (D.wL ds) :: t) r rf ts fr at_ E.app
    obtain ⟨ds', at', t', y10', y11', e2, h2, h3⟩ := parts_go H E (y4 := y4) (y5 := y5) (y6 := y6) (y7 := y7) (y9 := y9) xs (ds ++ [d]) a1 (t ++ t1) (some x) (some d.w) (by simp at h ⊢; omega) (fun d' hd' => by
      rcases List.mem_append.mp hd' with hd' | hd'
      · exact hd d' hd'
      · rw [List.mem_singleton.mp hd']; exact h1)
    refine ⟨ds', at', t', y10', y11', ?_, by rw [h2, List.length_append, List.length_cons, List.length_nil, List.length_cons, Nat.add_assoc, Nat.add_comm 1], h3⟩
    have es : s ++ O.lst (D.wL ds) :: t ++ t1 = s ++ O.lst (D.wL ds) :: (t ++ t1) := by simp
    have hl : (D.wL ds).length ≤ 100000 := by rw [wL_len]; simp at h; omega
    have ew : D.wL (ds ++ [d]) = D.wL ds ++ [d.w] := by rw [wL_app, D.wL, D.wL]
    rw [ew] at e2
    have g1 : gSub (.int ((l : Int) + 1)) (.int 1) (s ++ .lst (D.wL ds) :: t) = some (.int (l : Int), s ++ .lst (D.wL ds) :: t) := by
      show some (W.int ((l : Int) + 1 - 1), _) = _
      rw [Int.add_sub_cancel]
    rw [fo, if_pos (show okc none _ from trivial)]
    simp only [mkF, bd_some, bd_none, sCons, sNil, sSet, sAsg, sPar, sDo, sRet, sRetN, sIf, sPut, sAug, sBrk, sCnt, sFor, iSeq, iEnu, Mir.iRev, Mir.iRng1, Mir.iRng2, eVar, eC, eOp, eUn, eFn, eMt, aNil, aCons, eTup, eLst, eAnd, eOr, eNot, eIf, bTest, bTruth, bAnd, bOr, bNot, bYes, eSl, pNo, pAt, tgM_name, tgM_tup, tgMs_nil, tgMs_name, tgMs_tup, List.getElem?_cons_succ, List.getElem?_cons_zero, List.set_cons_succ, List.set_cons_zero, List.map_cons, List.map_nil, List.length_cons, List.length_nil, List.replicate, List.nil_append, List.cons_append, if_true, if_false, Bool.false_eq_true, Nat.reduceAdd, Nat.reduceSub, Nat.reduceLeDiff, Nat.zero_add, Bool.not_true, Bool.not_false, g1, e1, es, isLR (gmid (s := s) (t := t ++ t1) (o := O.lst (D.wL ds))), appL (gmid (s := s) (t := t ++ t1) (o := O.lst (D.wL ds))) hl, smid]
    exact e2
theorem ix2 {a b : W} {s : Sto} : gIx (.tup [a, b]) (.int 0) s = some (a, s) := rfl
theorem shape_ok : ∀ (n l : Nat), l < n → ShOk (FLawShape n) l := by
  intro n
  induction n with
  | zero => intro l h; omega
  | succ n ih =>
    intro l hl s r rf ts fr at_ E
    have ep := pick_ok (a := at_) E.tape E.pos (show (0 : Int) < 7 by decide)
    have p0 := pk_lo (ts := ts) (a := at_) (show (0 : Int) < 7 by decide)
    have p1 := pk_hi (ts := ts) (a := at_) (show (0 : Int) < 7 by decide)
    generalize pk ts at_ 7 = p at ep p0 p1
    show ∃ d at' t, mkF 4 12 (BLawShape (FLawShape n)) _ s = _ ∧ _
    unfold BLawShape
    have gle : gLe (.int (l : Int)) (.int 0) s = some (.bl (decide (l = 0)), s) := by
      have : decide ((l : Int) ≤ 0) = decide (l = 0) := by rw [Bool.eq_iff_iff]; simp <;> omega
      show some (W.bl (decide ((l : Int) ≤ 0)), s) = _
      rw [this]
    have glt : gLt (.int p) (.int 2) s = some (.bl (decide (p < 2)), s) := rfl
    by_cases hleaf : l = 0 ∨ p < 2
    · obtain ⟨d, e, h1, h2, h3⟩ := leaf_ok (at_ := at_ + 1) E
      refine ⟨d, at_ + 2, [], ?_, Sh.leaf h1 h2 h3⟩
      rw [List.append_nil]
      by_cases h0 : l = 0
      · have gle' : gLe (.int (l : Int)) (.int 0) s = some (.bl true, s) := by rw [gle, decide_eq_true h0]
        simp only [mkF, bd_some, bd_none, sCons, sNil, sSet, sAsg, sPar, sDo, sRet, sRetN, sIf, sPut, sAug, sBrk, sCnt, sFor, iSeq, iEnu, Mir.iRev, Mir.iRng1, Mir.iRng2, eVar, eC, eOp, eUn, eFn, eMt, aNil, aCons, eTup, eLst, eAnd, eOr, eNot, eIf, bTest, bTruth, bAnd, bOr, bNot, bYes, eSl, pNo, pAt, tgM_name, tgM_tup, tgMs_nil, tgMs_name, tgMs_tup, List.getElem?_cons_succ, List.getElem?_cons_zero, List.set_cons_succ, List.set_cons_zero, List.map_cons, List.map_nil, List.length_cons, List.length_nil, List.replicate, List.nil_append, List.cons_append, if_true, if_false, Bool.false_eq_true, Nat.reduceAdd, Nat.reduceSub, Nat.reduceLeDiff, Nat.zero_add, Bool.not_true, Bool.not_false, ep, gle', addI, e]
      · have h2 : p < 2 := hleaf.resolve_left h0
        rw [decide_eq_false h0] at gle
        rw [decide_eq_true h2] at glt
        simp only [mkF, bd_some, bd_none, sCons, sNil, sSet, sAsg, sPar, sDo, sRet, sRetN, sIf, sPut, sAug, sBrk, sCnt, sFor, iSeq, iEnu, Mir.iRev, Mir.iRng1, Mir.iRng2, eVar, eC, eOp, eUn, eFn, eMt, aNil, aCons, eTup, eLst, eAnd, eOr, eNot, eIf, bTest, bTruth, bAnd, bOr, bNot, bYes, eSl, pNo, pAt, tgM_name, tgM_tup, tgMs_nil, tgMs_name, tgMs_tup, List.getElem?_cons_succ, List.getElem?_cons_zero, List.set_cons_succ, List.set_cons_zero, List.map_cons, List.map_nil, List.length_cons, List.length_nil, List.replicate, List.nil_append, List.cons_append, if_true, if_false, Bool.false_eq_true, Nat.reduceAdd, Nat.reduceSub, Nat.reduceLeDiff, Nat.zero_add, Bool.not_true, Bool.not_false, ep, gle, glt, addI, e]
    · have h0 : l ≠ 0 := fun h => hleaf (.inl h)
      have h2 : ¬ p < 2 := fun h => hleaf (.inr h)
      obtain ⟨k, rfl⟩ : ∃ k, l = k + 1 := ⟨l - 1, by omega⟩
      rw [decide_eq_false h0] at gle
      rw [decide_eq_false h2] at glt
      have H := ih k (by omega)
      have gs : ∀ s : Sto, gSub (.int (((k + 1 : Nat) : Int))) (.int 1) s = some (.int (k : Int), s) := fun s => by
        show some (W.int (((k + 1 : Nat) : Int) - 1), s) = _
        have : ((k + 1 : Nat) : Int) - 1 = (k : Int) := by omega
        rw [this]
      by_cases h4 : p < 4
      · have g4 : gLt (.int p) (.int 4) s = some (.bl true, s) := by simp only [gII, decide_eq_true h4]
        obtain ⟨d1, a1, t1, e1, s1⟩ := H s r rf ts fr (at_ + 1) E
        obtain ⟨d2, a2, t2, e2, s2⟩ := H (s ++ t1) r rf ts fr a1 E.app
        refine ⟨.f d1 d2, a2, t1 ++ t2, ?_, ⟨by rw [D.nodes, s1.nodes, s2.nodes]; rfl, ?_, ?_⟩⟩
        · rw [← List.append_assoc]
          simp only [mkF, bd_some, bd_none, sCons, sNil, sSet, sAsg, sPar, sDo, sRet, sRetN, sIf, sPut, sAug, sBrk, sCnt, sFor, iSeq, iEnu, Mir.iRev, Mir.iRng1, Mir.iRng2, eVar, eC, eOp, eUn, eFn, eMt, aNil, aCons, eTup, eLst, eAnd, eOr, eNot, eIf, bTest, bTruth, bAnd, bOr, bNot, bYes, eSl, pNo, pAt, tgM_name, tgM_tup, tgMs_nil, tgMs_name, tgMs_tup, List.getElem?_cons_succ, List.getElem?_cons_zero, List.set_cons_succ, List.set_cons_zero, List.map_cons, List.map_nil, List.length_cons, List.length_nil, List.replicate, List.nil_append, List.cons_append, if_true, if_false, Bool.false_eq_true, Nat.reduceAdd, Nat.reduceSub, Nat.reduceLeDiff, Nat.zero_add, Bool.not_true, Bool.not_false, ep, gle, glt, g4, addI, gs, e1, e2, D.w]
        · have := s1.dep
          have := s2.dep
          rw [D.dep]
          omega
        · have := s1.size
          have := s2.size
          rw [D.size, szB]
          omega
      · have g4 : gLt (.int p) (.int 4) s = some (.bl false, s) := by simp only [gII, decide_eq_false h4]
        by_cases h5 : p = 4
        · subst h5
          have g5 : gEq (.int 4) (.int 4) s = some (.bl true, s) := rfl
          obtain ⟨d1, a1, t1, e1, s1⟩ := H s r rf ts fr (at_ + 1) E
          have eq := pick_ok (a := a1) (E.app (t := t1)).tape E.pos (show (0 : Int) < 3 by decide)
          have q0 := pk_lo (ts := ts) (a := a1) (show (0 : Int) < 3 by decide)
          have q1 := pk_hi (ts := ts) (a := a1) (show (0 : Int) < 3 by decide)
          generalize pk ts a1 3 = q at eq q0 q1
          have main : ∀ z : Int, (∀ s : Sto, gIx (.tup [.int 3, .int 5, .int 6]) (.int q) s = some (.int z, s)) → (D.c z [d1]).node ar8 = true → ∃ d at' t, mkF 4 12 (BLawShape (FLawShape n)) [.ref r, .int at_, .int (((k + 1 : Nat) : Int)), .ref rf] s = some (.tup [d.w, .int at'], s ++ t) ∧ Sh (k + 1) d := fun z gz hz => by
            refine ⟨.c z [d1], a1 + 1, t1, ?_, ⟨by rw [D.nodes, hz, D.nodesL, D.nodesL, s1.nodes]; rfl, ?_, ?_⟩⟩
            · unfold BLawShape
              simp only [mkF, bd_some, bd_none, sCons, sNil, sSet, sAsg, sPar, sDo, sRet, sRetN, sIf, sPut, sAug, sBrk, sCnt, sFor, iSeq, iEnu, Mir.iRev, Mir.iRng1, Mir.iRng2, eVar, eC, eOp, eUn, eFn, eMt, aNil, aCons, eTup, eLst, eAnd, eOr, eNot, eIf, bTest, bTruth, bAnd, bOr, bNot, bYes, eSl, pNo, pAt, tgM_name, tgM_tup, tgMs_nil, tgMs_name, tgMs_tup, List.getElem?_cons_succ, List.getElem?_cons_zero, List.set_cons_succ, List.set_cons_zero, List.map_cons, List.map_nil, List.length_cons, List.length_nil, List.replicate, List.nil_append, List.cons_append, if_true, if_false, Bool.false_eq_true, Nat.reduceAdd, Nat.reduceSub, Nat.reduceLeDiff, Nat.zero_add, Bool.not_true, Bool.not_false, ep, gle, glt, g4, g5, addI, gs, e1, eq, gz, D.w, D.wL]
            · have := s1.dep
              simp only [D.dep, D.depL]
              omega
            · have := s1.size
              simp only [D.size, D.sizeL, szB]
              omega
          unfold BLawShape at main
          have c3 : q = 0 ∨ q = 1 ∨ q = 2 := by omega
          rcases c3 with rfl | rfl | rfl
          · exact main 3 (fun _ => rfl) (by rw [D.node]; exact rfl)
          · exact main 5 (fun _ => rfl) (by rw [D.node]; exact rfl)
          · exact main 6 (fun _ => rfl) (by rw [D.node]; exact rfl)
        · have g5 : gEq (.int p) (.int 4) s = some (.bl false, s) := by simp only [gEq, eqW, sEq, decide_eq_false h5]
          have eq := pick_ok (a := at_ + 1) (s := s ++ [O.lst []]) (gapp E.tape) E.pos (show (0 : Int) < 5 by decide)
          have q0 := pk_lo (ts := ts) (a := at_ + 1) (show (0 : Int) < 5 by decide)
          have q1 := pk_hi (ts := ts) (a := at_ + 1) (show (0 : Int) < 5 by decide)
          generalize pk ts (at_ + 1) 5 = q at eq q0 q1
          have m0 : 0 ≤ 2 + q / 2 := by have := Int.ediv_nonneg q0 (show (0 : Int) ≤ 2 by decide); omega
          obtain ⟨ds, a2, t2, y10, y11, e2, hl2, hs2⟩ := parts_go H E (y4 := some (.int p)) (y5 := none) (y6 := none) (y7 := none) (y9 := some (.int (2 + q / 2))) ((List.range (2 + q / 2).toNat).map fun (i : Nat) => W.int (0 + (i : Int))) [] (at_ + 2) [] none none (by simp; omega) (fun d hd => by cases hd)
          have hlen : ds.length = (2 + q / 2).toNat := by rw [hl2]; simp
          refine ⟨.t ds, a2, .lst (D.wL ds) :: t2, ?_, ⟨?_, ?_, ?_⟩⟩
          · have gr : (-(2 ^ 62) ≤ 2 + q / 2 ∧ 2 + q / 2 < 2 ^ 62) := by omega
            have gd : gDiv (.int q) (.int 2) (s ++ [O.lst []]) = some (.int (q / 2), s ++ [O.lst []]) := divR (by decide) (by decide)
            have gt : gTuple [.ref s.length] (s ++ .lst (D.wL ds) :: t2) = some (.tup (D.wL ds), s ++ .lst (D.wL ds) :: t2) := by simp only [gTuple, seqOf, gmid]
            have ec : ((k + 1 : Nat) : Int) = (k : Int) + 1 := by omega
            rw [ec] at gle
            simp only [mkF, bd_some, bd_none, sCons, sNil, sSet, sAsg, sPar, sDo, sRet, sRetN, sIf, sPut, sAug, sBrk, sCnt, sFor, iSeq, iEnu, Mir.iRev, Mir.iRng1, Mir.iRng2, eVar, eC, eOp, eUn, eFn, eMt, aNil, aCons, eTup, eLst, eAnd, eOr, eNot, eIf, bTest, bTruth, bAnd, bOr, bNot, bYes, eSl, pNo, pAt, tgM_name, tgM_tup, tgMs_nil, tgMs_name, tgMs_tup, List.getElem?_cons_succ, List.getElem?_cons_zero, List.set_cons_succ, List.set_cons_zero, List.map_cons, List.map_nil, List.length_cons, List.length_nil, List.replicate, List.nil_append, List.cons_append, if_true, if_false, Bool.false_eq_true, Nat.reduceAdd, Nat.reduceSub, Nat.reduceLeDiff, Nat.zero_add, Bool.not_true, Bool.not_false, ep, gle, glt, g4, g5, addI, eq, gd, gr, and_self, ec, D.w]
            have e2 := e2
            simp only [D.wL] at e2
            simp only [mkF, bd_some, bd_none, sCons, sNil, sSet, sAsg, sPar, sDo, sRet, sRetN, sIf, sPut, sAug, sBrk, sCnt, sFor, iSeq, iEnu, Mir.iRev, Mir.iRng1, Mir.iRng2, eVar, eC, eOp, eUn, eFn, eMt, aNil, aCons, eTup, eLst, eAnd, eOr, eNot, eIf, bTest, bTruth, bAnd, bOr, bNot, bYes, eSl, pNo, pAt, tgM_name, tgM_tup, tgMs_nil, tgMs_name, tgMs_tup, List.getElem?_cons_succ, List.getElem?_cons_zero, List.set_cons_succ, List.set_cons_zero, List.map_cons, List.map_nil, List.length_cons, List.length_nil, List.replicate, List.nil_append, List.cons_append, if_true, if_false, Bool.false_eq_true, Nat.reduceAdd, Nat.reduceSub, Nat.reduceLeDiff, Nat.zero_add, Bool.not_true, Bool.not_false, e2, gt]
          · rw [D.nodes, nodesL_all ar8 fun d hd => (hs2 d hd).nodes]
            simp only [D.node, hlen, Bool.and_true]
            rw [decide_eq_true (by omega), decide_eq_true (by omega)]
            rfl
          · have := depL_le fun d hd => (hs2 d hd).dep
            rw [D.dep]
            omega
          · have h3 := sizeL_le fun d hd => (hs2 d hd).size
            have h4 : ds.length ≤ 4 := by omega
            have h5 : ds.length * szB k ≤ 4 * szB k := Nat.mul_le_mul_right _ h4
            rw [D.size, szB]
            omega
end
end K10

set_option Elab.async false
set_option linter.all false
set_option maxRecDepth 100000
namespace K10
open PySem PySem.Spec PyProof.Rows L2 Mir
theorem dep_kids (d : D) : d.dep = 1 + D.depL d.kids := by
  cases d <;> simp only [D.dep, D.kids, D.depL]
theorem nodes_node {ar : List Int} {d : D} (h : d.nodes ar = true) : d.node ar = true := by
  cases d <;> rw [D.nodes] at h <;> first | exact h | exact ((Bool.and_eq_true _ _).mp h).1 | rfl | cases h
theorem nodes_kids {ar : List Int} {d : D} (h : d.nodes ar = true) : D.nodesL ar d.kids = true := by
  cases d with
  | v n => rfl
  | c s as => rw [D.nodes] at h; exact ((Bool.and_eq_true _ _).mp h).2
  | t as => rw [D.nodes] at h; exact ((Bool.and_eq_true _ _).mp h).2
  | f a b =>
    rw [D.nodes] at h
    rw [D.kids, D.nodesL, D.nodesL, D.nodesL, Bool.and_true]
    exact h
  | bad w => rw [D.nodes] at h; cases h
theorem nodes_isX {ar : List Int} {d : D} (h : d.nodes ar = true) : d.isX = false := by
  cases d <;> first | rfl | (rw [D.nodes] at h; cases h)
theorem nodesL_mem {ar : List Int} : ∀ {ds : List D}, D.nodesL ar ds = true → ∀ d ∈ ds, d.nodes ar = true
  | [], _, d, h => by cases h
  | x :: r, h, d, hd => by
    rw [D.nodesL, Bool.and_eq_true] at h
    rcases List.mem_cons.mp hd with rfl | hd
    · exact h.1
    · exact nodesL_mem h.2 d hd
theorem depL_mem {d : D} : ∀ {ds : List D}, d ∈ ds → d.dep ≤ D.depL ds
  | [], h => by cases h
  | x :: r, h => by
    rw [D.depL]
    rcases List.mem_cons.mp h with rfl | h
    · omega
    · have := depL_mem h; omega
theorem size_pos (d : D) : 1 ≤ d.size := by rw [size_kids]; omega
theorem dep_pos (d : D) : 1 ≤ d.dep := by rw [dep_kids]; omega
theorem lenL_size : ∀ ds : List D, ds.length ≤ D.sizeL ds
  | [] => Nat.le_refl _
  | x :: r => by have := lenL_size r; have := size_pos x; rw [D.sizeL, List.length_cons]; omega
/-! ### the law's own counts -/
theorem count_go {F : List W → Sto → Rz W} {w0 : W} {s : Sto} : ∀ (ds : List D) (t : Int) (y : Option W), (∀ d ∈ ds, F [d.w] s = some (.int d.size, s)) →
    ∃ y', fo (.name 2) (sSet 1 (eOp gAdd (eVar 1) (eFn F (aCons (eVar 2) aNil)))) none (D.wL ds) [some w0, some (.int t), y] s = some (.nx [some w0, some (.int (t + D.sizeL ds)), y'], s)
  | [], t, y, _ => ⟨y, by rw [D.wL, fo, if_pos (show okc none _ from trivial), D.sizeL]; simp⟩
  | d :: ds, t, y, h => by
    obtain ⟨y', e⟩ := count_go (F := F) (w0 := w0) (s := s) ds (t + d.size) (some d.w) fun x hx => h x (List.mem_cons_of_mem _ hx)
    refine ⟨y', ?_⟩
    rw [D.wL, fo, if_pos (show okc none _ from trivial)]
    have e1 := h d List.mem_cons_self
    simp only [mkF, bd_some, bd_none, sCons, sNil, sSet, sAsg, sPar, sDo, sRet, sRetN, sIf, sPut, sAug, sBrk, sCnt, sFor, iSeq, iEnu, Mir.iRev, Mir.iRng1, Mir.iRng2, eVar, eC, eOp, eUn, eFn, eMt, aNil, aCons, eTup, eLst, eAnd, eOr, eNot, eIf, bTest, bTruth, bAnd, bOr, bNot, bYes, eSl, pNo, pAt, tgM_name, tgM_tup, tgMs_nil, tgMs_name, tgMs_tup, List.getElem?_cons_succ, List.getElem?_cons_zero, List.set_cons_succ, List.set_cons_zero, List.map_cons, List.map_nil, List.length_cons, List.length_nil, List.replicate, List.nil_append, List.cons_append, if_true, if_false, Bool.false_eq_true, Nat.reduceAdd, Nat.reduceSub, Nat.reduceLeDiff, Nat.zero_add, Bool.not_true, Bool.not_false, e1, addI]
    rw [e, D.sizeL, Int.natCast_add, Int.add_assoc]
theorem count_ok {ar : List Int} : ∀ (n : Nat) (d : D) (s : Sto), d.nodes ar = true → d.dep ≤ n → FLawCount n [d.w] s = some (.int d.size, s) := by
  intro n
  induction n with
  | zero => intro d s _ h; have := dep_pos d; omega
  | succ n ih =>
    intro d s hn hd
    have hk := nodesL_mem (nodes_kids hn)
    obtain ⟨y', e⟩ := count_go (F := FLawCount n) (w0 := d.w) (s := s) d.kids 1 none fun x hx => ih x s (hk x hx) (by
      have := depL_mem hx
      rw [dep_kids] at hd
      omega)
    show mkF 1 3 (BLawCount (FLawCount n)) _ s = _
    unfold BLawCount
    have ep := lparts_ok (s := s) (nodes_isX hn)
    have es : seqOf (.tup (D.wL d.kids)) s = some (D.wL d.kids) := rfl
    simp only [mkF, bd_some, bd_none, sCons, sNil, sSet, sAsg, sPar, sDo, sRet, sRetN, sIf, sPut, sAug, sBrk, sCnt, sFor, iSeq, iEnu, Mir.iRev, Mir.iRng1, Mir.iRng2, eVar, eC, eOp, eUn, eFn, eMt, aNil, aCons, eTup, eLst, eAnd, eOr, eNot, eIf, bTest, bTruth, bAnd, bOr, bNot, bYes, eSl, pNo, pAt, tgM_name, tgM_tup, tgMs_nil, tgMs_name, tgMs_tup, List.getElem?_cons_succ, List.getElem?_cons_zero, List.set_cons_succ, List.set_cons_zero, List.map_cons, List.map_nil, List.length_cons, List.length_nil, List.replicate, List.nil_append, List.cons_append, if_true, if_false, Bool.false_eq_true, Nat.reduceAdd, Nat.reduceSub, Nat.reduceLeDiff, Nat.zero_add, Bool.not_true, Bool.not_false, ep, es, e, chkOf, lstOf, size_kids d]
    simp
theorem deep_go {F : List W → Sto → Rz W} {w0 : W} {s : Sto} : ∀ (ds : List D) (t : Nat) (y : Option W), (∀ d ∈ ds, F [d.w] s = some (.int d.dep, s)) →
    ∃ y', fo (.name 2) (sSet 1 (eFn gMax2 (aCons (eVar 1) (aCons (eFn F (aCons (eVar 2) aNil)) aNil)))) none (D.wL ds) [some w0, some (.int t), y] s = some (.nx [some w0, some (.int (max t (D.depL ds) : Nat)), y'], s)
  | [], t, y, _ => ⟨y, by rw [D.wL, fo, if_pos (show okc none _ from trivial), D.depL]; simp⟩
  | d :: ds, t, y, h => by
    obtain ⟨y', e⟩ := deep_go (F := F) (w0 := w0) (s := s) ds (max t d.dep) (some d.w) fun x hx => h x (List.mem_cons_of_mem _ hx)
    refine ⟨y', ?_⟩
    rw [D.wL, fo, if_pos (show okc none _ from trivial)]
    have e1 := h d List.mem_cons_self
    have e2 : gMax2 [.int (t : Int), .int (d.dep : Int)] s = some (.int (max t d.dep : Nat), s) := by
      show some (W.int (if (d.dep : Int) > t then (d.dep : Int) else t), s) = _
      congr 2
      congr 1
      split <;> omega
    simp only [mkF, bd_some, bd_none, sCons, sNil, sSet, sAsg, sPar, sDo, sRet, sRetN, sIf, sPut, sAug, sBrk, sCnt, sFor, iSeq, iEnu, Mir.iRev, Mir.iRng1, Mir.iRng2, eVar, eC, eOp, eUn, eFn, eMt, aNil, aCons, eTup, eLst, eAnd, eOr, eNot, eIf, bTest, bTruth, bAnd, bOr, bNot, bYes, eSl, pNo, pAt, tgM_name, tgM_tup, tgMs_nil, tgMs_name, tgMs_tup, List.getElem?_cons_succ, List.getElem?_cons_zero, List.set_cons_succ, List.set_cons_zero, List.map_cons, List.map_nil, List.length_cons, List.length_nil, List.replicate, List.nil_append, List.cons_append, if_true, if_false, Bool.false_eq_true, Nat.reduceAdd, Nat.reduceSub, Nat.reduceLeDiff, Nat.zero_add, Bool.not_true, Bool.not_false, e1, e2]
    rw [e, D.depL, Nat.max_assoc]
theorem deep_ok {ar : List Int} : ∀ (n : Nat) (d : D) (s : Sto), d.nodes ar = true → d.dep ≤ n → FLawDeep n [d.w] s = some (.int d.dep, s) := by
  intro n
  induction n with
  | zero => intro d s _ h; have := dep_pos d; omega
  | succ n ih =>
    intro d s hn hd
    have hk := nodesL_mem (nodes_kids hn)
    obtain ⟨y', e⟩ := deep_go (F := FLawDeep n) (w0 := d.w) (s := s) d.kids 0 none fun x hx => ih x s (hk x hx) (by
      have := depL_mem hx
      rw [dep_kids] at hd
      omega)
    show mkF 1 3 (BLawDeep (FLawDeep n)) _ s = _
    unfold BLawDeep
    have ep := lparts_ok (s := s) (nodes_isX hn)
    have es : seqOf (.tup (D.wL d.kids)) s = some (D.wL d.kids) := rfl
    have e := e
    simp only [Int.ofNat_zero, Int.natCast_zero] at e
    simp only [mkF, bd_some, bd_none, sCons, sNil, sSet, sAsg, sPar, sDo, sRet, sRetN, sIf, sPut, sAug, sBrk, sCnt, sFor, iSeq, iEnu, Mir.iRev, Mir.iRng1, Mir.iRng2, eVar, eC, eOp, eUn, eFn, eMt, aNil, aCons, eTup, eLst, eAnd, eOr, eNot, eIf, bTest, bTruth, bAnd, bOr, bNot, bYes, eSl, pNo, pAt, tgM_name, tgM_tup, tgMs_nil, tgMs_name, tgMs_tup, List.getElem?_cons_succ, List.getElem?_cons_zero, List.set_cons_succ, List.set_cons_zero, List.map_cons, List.map_nil, List.length_cons, List.length_nil, List.replicate, List.nil_append, List.cons_append, if_true, if_false, Bool.false_eq_true, Nat.reduceAdd, Nat.reduceSub, Nat.reduceLeDiff, Nat.zero_add, Bool.not_true, Bool.not_false, ep, es, e, chkOf, lstOf, addI, dep_kids d]
    congr 3
    simp
    omega
/-! ### the program's counts -/
noncomputable abbrev bMeas : FS := (sCons (sAsg (.tup [(.name 4), (.name 5)]) (eMt isL gPop (eVar 3) aNil))
    (sCons (sAug 1 gIAdd (eC (.int 1)))
    (sCons (sSet 2 (eFn gMax2 (aCons (eVar 2) (aCons (eVar 5) aNil))))
    (sFor (iSeq (eFn FPartsOfShape (aCons (eVar 4) aNil))) (.name 6) (sDo (eMt isL gAppend (eVar 3) (aCons (eTup (aCons (eVar 6) (aCons (eOp gAdd (eVar 5) (eC (.int 1))) aNil))) aNil)))))))
def deS : Stk → Nat
  | [] => 0
  | p :: r => max (p.2 + p.1.dep - 1) (deS r)
theorem deS_app : ∀ a b : Stk, deS (a ++ b) = max (deS a) (deS b)
  | [], b => by simp [deS]
  | p :: a, b => by rw [List.cons_append, deS, deS, deS_app a b, Nat.max_assoc]
theorem deS_push (l : Nat) : ∀ ds : List D, max l (deS (push (l + 1) ds)) = l + D.depL ds
  | [] => by simp [push, deS, D.depL]
  | x :: r => by
    have := deS_push l r
    have hx := dep_pos x
    simp only [push, List.map_cons, deS, D.depL] at this ⊢
    omega
theorem lenS_size : ∀ k : Stk, k.length ≤ szS k
  | [] => Nat.zero_le _
  | p :: r => by
    have := lenS_size r
    have := size_pos p.1
    simp only [szS, List.map_cons, List.sum_cons, List.length_cons] at *
    omega
theorem walkM {ar : List Int} (ha : ∀ a ∈ ar, a ≤ 10) {s : Sto} {w0 : W} : ∀ (n : Nat) (k : Stk) (c dp : Nat) (x4 x5 x6 : Option W), (∀ p ∈ k, p.1.nodes ar = true) → szS k < n → szS k ≤ 90000 →
    ∃ x4' x5' x6', wh (bTruth (eVar 3)) bMeas n [some w0, some (.int c), some (.int dp), some (.ref s.length), x4, x5, x6] (s ++ [.lst (stW k)]) = some (.nx [some w0, some (.int (c + szS k : Nat)), some (.int (max dp (deS k) : Nat)), some (.ref s.length), x4', x5', x6'], s ++ [.lst []]) := by
  intro n
  induction n with
  | zero => intro k c dp x4 x5 x6 _ h; omega
  | succ n ih =>
    intro k c dp x4 x5 x6 hw h1 h2
    rcases List.eq_nil_or_concat k with rfl | ⟨r, ⟨d, l⟩, rfl⟩
    · refine ⟨x4, x5, x6, ?_⟩
      rw [wh]
      simp [mkF, bd_some, bd_none, bd_ite, sCons, sNil, sSet, sAsg, sPar, sDo, sRet, sRetN, sIf, sPut, setAt, sAug, sBrk, sCnt, eVar, eC, eOp, eUn, eFn, eMt, aNil, aCons, eTup, eLst, eAnd, eOr, eNot, eIf, bTest, bTruth, bAnd, bOr, bNot, bYes, truW, eIsi, tyW, isiT, eChain, gII, gIIc, gIx, seqOf, lstOf, gLen, lenW, gEq, gNe, eqW, sEq, tgM_name, tgM_tup, tgMs_nil, tgMs_name, tgMs_tup, gAdd, gMul, gNeg, gIs, gIsNot, Mir.isNon, gInt1, g1I, g2I, gTuple, gList, isL, gLm, fAppend, fPop, fExtend, gIAdd, eSl, pNo, pAt, gSlA, atI, ixN, ofString_inj, HT.sIx, stW, szS, deS]
    · have hd : d.nodes ar = true := hw (d, l) (by simp)
      have hx := nodes_isX hd
      have e1 : stW (r.concat (d, l)) = stW r ++ [.tup [d.w, .int l]] := by simp [stW, item]
      have e2 : szS (r.concat (d, l)) = szS r + (1 + D.sizeL d.kids) := by rw [List.concat_eq_append, szS_app, ← size_kids]; simp [szS]
      have e3 : deS (r.concat (d, l)) = max (deS r) (l + d.dep - 1) := by rw [List.concat_eq_append, deS_app]; simp [deS]
      rw [e2] at h1 h2
      rw [e1, e2, e3]
      have lr := lenS_size r
      have lk := lenL_size d.kids
      obtain ⟨y', e4⟩ := fo_push (s := s) (l := l) (w0 := w0) (ar := .int ((c : Int) + 1)) (p := d.w) (c := (max dp l : Nat)) d.kids r x6 (by
        simp only [stW, List.length_map]
        omega)
      obtain ⟨z4, z5, z6, e5⟩ := ih (r ++ push (l + 1) d.kids) (c + 1) (max dp l) (some d.w) (some (.int l)) y' (fun p hp => by
          rcases List.mem_append.mp hp with hp | hp
          · exact hw p (by simp [hp])
          · obtain ⟨q, hq, rfl⟩ := List.mem_map.mp hp
            exact nodesL_mem (nodes_kids hd) q hq) (by rw [szS_app, szS_push]; omega) (by
          rw [szS_app, szS_push]
          omega)
      refine ⟨z4, z5, z6, ?_⟩
      rw [szS_app, szS_push, deS_app] at e5
      have e7 : c + 1 + (szS r + D.sizeL d.kids) = c + (szS r + (1 + D.sizeL d.kids)) := by omega
      have e8 : max (max dp l) (max (deS r) (deS (push (l + 1) d.kids))) = max dp (max (deS r) (l + d.dep - 1)) := by
        have := deS_push l d.kids
        rw [dep_kids]
        omega
      rw [e7, e8] at e5
      rw [wh, ← e5]
      have g2 : gMax2 [.int (dp : Int), .int (l : Int)] (s ++ [.lst (stW r)]) = some (.int (max dp l : Nat), s ++ [.lst (stW r)]) := by
        show some (W.int (if (l : Int) > dp then (l : Int) else dp), _) = _
        congr 2
        congr 1
        split <;> omega
      have e6 : ((c + 1 : Nat) : Int) = (c : Int) + 1 := by omega
      rw [e6]
      have p1 : gPop (.ref s.length) [] (s ++ [.lst (stW r ++ [.tup [d.w, .int l]])]) = some (.tup [d.w, .int l], s ++ [.lst (stW r)]) := by
        simp [mkF, bd_some, bd_none, bd_ite, sCons, sNil, sSet, sAsg, sPar, sDo, sRet, sRetN, sIf, sPut, setAt, sAug, sBrk, sCnt, eVar, eC, eOp, eUn, eFn, eMt, aNil, aCons, eTup, eLst, eAnd, eOr, eNot, eIf, bTest, bTruth, bAnd, bOr, bNot, bYes, truW, eIsi, tyW, isiT, eChain, gII, gIIc, gIx, seqOf, lstOf, gLen, lenW, gEq, gNe, eqW, sEq, tgM_name, tgM_tup, tgMs_nil, tgMs_name, tgMs_tup, gAdd, gMul, gNeg, gIs, gIsNot, Mir.isNon, gInt1, g1I, g2I, gTuple, gList, isL, gLm, fAppend, fPop, fExtend, gIAdd, eSl, pNo, pAt, gSlA, atI, ixN, ofString_inj, HT.sIx]
      have p2 : isL (.ref s.length) (s ++ [.lst (stW r ++ [.tup [d.w, .int l]])]) = true := isLR (ws := stW r ++ [.tup [d.w, .int l]]) (by simp)
      have p3 : truW (.ref s.length) (s ++ [.lst (stW r ++ [.tup [d.w, .int l]])]) = some true := by
        simp [truW]
      have p4 : gIAdd (.int (c : Int)) (.int 1) (s ++ [.lst (stW r)]) = some (.int ((c : Int) + 1), s ++ [.lst (stW r)]) := rfl
      have es : ∀ s, seqOf (.tup (D.wL d.kids)) s = some (D.wL d.kids) := fun _ => rfl
      simp only [mkF, bd_some, bd_none, sCons, sNil, sSet, sAsg, sPar, sDo, sRet, sRetN, sIf, sPut, sAug, sBrk, sCnt, sFor, iSeq, iEnu, Mir.iRev, Mir.iRng1, Mir.iRng2, eVar, eC, eOp, eUn, eFn, eMt, aNil, aCons, eTup, eLst, eAnd, eOr, eNot, eIf, bTest, bTruth, bAnd, bOr, bNot, bYes, eSl, pNo, pAt, tgM_name, tgM_tup, tgMs_nil, tgMs_name, tgMs_tup, List.getElem?_cons_succ, List.getElem?_cons_zero, List.set_cons_succ, List.set_cons_zero, List.map_cons, List.map_nil, List.length_cons, List.length_nil, List.replicate, List.nil_append, List.cons_append, if_true, if_false, Bool.false_eq_true, Nat.reduceAdd, Nat.reduceSub, Nat.reduceLeDiff, Nat.zero_add, Bool.not_true, Bool.not_false, p1, p2, p3, p4, g2, parts_ok hx, es, e4, chkOf, lstOf]
theorem measures_ok {ar : List Int} (ha : ∀ a ∈ ar, a ≤ 10) {s : Sto} {d : D} (hd : d.nodes ar = true) (hs : d.size ≤ 90000) :
    ∃ t, FMeasures [d.w] s = some (.tup [.int d.size, .int d.dep], s ++ t) := by
  have hz : szS [(d, 1)] = d.size := by simp [szS]
  have hq : deS [(d, 1)] = d.dep := by simp [deS]
  obtain ⟨x4, x5, x6, e1⟩ := walkM ha (s := s) (w0 := d.w) 100000 [(d, 1)] 0 0 none none none (fun p hp => by
    rw [List.mem_singleton.mp hp]; exact hd) (by rw [hz]; omega) (by rw [hz]; exact hs)
  rw [hz, hq, Nat.zero_add, Nat.zero_max] at e1
  refine ⟨[.lst []], ?_⟩
  have e6 : wh (bTruth (eVar 3)) bMeas 100000 [some d.w, some (W.int 0), some (W.int 0), some (W.ref s.length), none, none, none] (s ++ [O.lst [W.tup [d.w, W.int 1]]]) = _ := e1
  unfold FMeasures BMeasures
  simp only [mkF, bd_some, bd_none, sCons, sNil, sSet, sAsg, sPar, sDo, sRet, sRetN, sIf, sPut, sAug, sBrk, sCnt, sFor, iSeq, iEnu, Mir.iRev, Mir.iRng1, Mir.iRng2, eVar, eC, eOp, eUn, eFn, eMt, aNil, aCons, eTup, eLst, eAnd, eOr, eNot, eIf, bTest, bTruth, bAnd, bOr, bNot, bYes, eSl, pNo, pAt, tgM_name, tgM_tup, tgMs_nil, tgMs_name, tgMs_tup, List.getElem?_cons_succ, List.getElem?_cons_zero, List.set_cons_succ, List.set_cons_zero, List.map_cons, List.map_nil, List.length_cons, List.length_nil, List.replicate, List.nil_append, List.cons_append, if_true, if_false, Bool.false_eq_true, Nat.reduceAdd, Nat.reduceSub, Nat.reduceLeDiff, Nat.zero_add, Bool.not_true, Bool.not_false, sWh, e6]
theorem size_ok {ar : List Int} (ha : ∀ a ∈ ar, a ≤ 10) {s : Sto} {d : D} (hd : d.nodes ar = true) (hs : d.size ≤ 90000) :
    ∃ t, FSize [d.w] s = some (.int d.size, s ++ t) := by
  obtain ⟨t, e⟩ := measures_ok ha (s := s) hd hs
  refine ⟨t, ?_⟩
  unfold FSize BSize
  simp only [mkF, bd_some, bd_none, sCons, sNil, sSet, sAsg, sPar, sDo, sRet, sRetN, sIf, sPut, sAug, sBrk, sCnt, sFor, iSeq, iEnu, Mir.iRev, Mir.iRng1, Mir.iRng2, eVar, eC, eOp, eUn, eFn, eMt, aNil, aCons, eTup, eLst, eAnd, eOr, eNot, eIf, bTest, bTruth, bAnd, bOr, bNot, bYes, eSl, pNo, pAt, tgM_name, tgM_tup, tgMs_nil, tgMs_name, tgMs_tup, List.getElem?_cons_succ, List.getElem?_cons_zero, List.set_cons_succ, List.set_cons_zero, List.map_cons, List.map_nil, List.length_cons, List.length_nil, List.replicate, List.nil_append, List.cons_append, if_true, if_false, Bool.false_eq_true, Nat.reduceAdd, Nat.reduceSub, Nat.reduceLeDiff, Nat.zero_add, Bool.not_true, Bool.not_false, e, ix2]
theorem depth_ok {ar : List Int} (ha : ∀ a ∈ ar, a ≤ 10) {s : Sto} {d : D} (hd : d.nodes ar = true) (hs : d.size ≤ 90000) :
    ∃ t, FDepth [d.w] s = some (.int d.dep, s ++ t) := by
  obtain ⟨t, e⟩ := measures_ok ha (s := s) hd hs
  refine ⟨t, ?_⟩
  have ix1 : ∀ {a b : W} {s : Sto}, gIx (.tup [a, b]) (.int 1) s = some (b, s) := rfl
  unfold FDepth BDepth
  simp only [mkF, bd_some, bd_none, sCons, sNil, sSet, sAsg, sPar, sDo, sRet, sRetN, sIf, sPut, sAug, sBrk, sCnt, sFor, iSeq, iEnu, Mir.iRev, Mir.iRng1, Mir.iRng2, eVar, eC, eOp, eUn, eFn, eMt, aNil, aCons, eTup, eLst, eAnd, eOr, eNot, eIf, bTest, bTruth, bAnd, bOr, bNot, bYes, eSl, pNo, pAt, tgM_name, tgM_tup, tgMs_nil, tgMs_name, tgMs_tup, List.getElem?_cons_succ, List.getElem?_cons_zero, List.set_cons_succ, List.set_cons_zero, List.map_cons, List.map_nil, List.length_cons, List.length_nil, List.replicate, List.nil_append, List.cons_append, if_true, if_false, Bool.false_eq_true, Nat.reduceAdd, Nat.reduceSub, Nat.reduceLeDiff, Nat.zero_add, Bool.not_true, Bool.not_false, e, ix1]
end K10

set_option Elab.async false
set_option linter.all false
set_option maxRecDepth 100000
namespace K10
open PySem PySem.Spec PyProof.Rows L2 Mir
def adj (acc : List Int) (n : Int) : List Int := if n ∈ acc then acc else acc ++ [n]
def adds (acc ns : List Int) : List Int := ns.foldl adj acc
mutual
def D.vars : D → List Int
  | .v n => [n]
  | .c _ as => D.varsL as
  | .t as => D.varsL as
  | .f a b => a.vars ++ (b.vars ++ [])
  | .bad _ => []
def D.varsL : List D → List Int
  | [] => []
  | x :: r => x.vars ++ D.varsL r
end
def D.one : D → List Int
  | .v n => [n]
  | _ => []
theorem vars_kids (d : D) : d.vars = d.one ++ D.varsL d.kids := by
  cases d <;> simp only [D.vars, D.one, D.kids, D.varsL, List.nil_append, List.append_nil]
theorem varsL_app : ∀ a b : List D, D.varsL (a ++ b) = D.varsL a ++ D.varsL b
  | [], b => rfl
  | x :: a, b => by rw [List.cons_append, D.varsL, D.varsL, varsL_app a b, List.append_assoc]
theorem sizeL_app : ∀ a b : List D, D.sizeL (a ++ b) = D.sizeL a + D.sizeL b
  | [], b => by rw [List.nil_append, D.sizeL, Nat.zero_add]
  | x :: a, b => by rw [List.cons_append, D.sizeL, D.sizeL, sizeL_app a b, Nat.add_assoc]
theorem adds_app (acc a b : List Int) : adds acc (a ++ b) = adds (adds acc a) b := List.foldl_append
theorem adj_len (acc : List Int) (n : Int) : (adj acc n).length ≤ acc.length + 1 := by
  unfold adj
  split
  · omega
  · simp
theorem adds_len : ∀ (ns acc : List Int), (adds acc ns).length ≤ acc.length + ns.length
  | [], acc => Nat.le_refl _
  | n :: ns, acc => by
    have := adds_len ns (adj acc n)
    have h := adj_len acc n
    show (adds (adj acc n) ns).length ≤ _
    simp only [List.length_cons]
    omega
theorem one_le (d : D) : d.one.length ≤ 1 := by cases d <;> simp [D.one]
/-! ### the law's own list -/
theorem inW_ints {n : Int} {acc : List Int} : inW (.int n) (acc.map W.int) = decide (n ∈ acc) := by
  rw [Bool.eq_iff_iff]
  simp only [inW, List.any_map, List.any_eq_true, Function.comp_apply, decide_eq_true_eq]
  constructor
  · rintro ⟨x, hx, e⟩
    have : x = n := by simpa [eqF] using e
    exact this ▸ hx
  · intro h
    exact ⟨n, h, by simp [eqF]⟩
theorem flat_ints (acc : List Int) : (acc.map W.int).all flatW = true := by simp [flatW]
theorem lvars_go {F : List W → Sto → Rz W} {w0 : W} {s : Sto} : ∀ (ds : List D) (acc : List Int) (y : Option W), (∀ d ∈ ds, ∀ acc : List Int, acc.length + d.vars.length ≤ 100000 → F [d.w, .ref s.length] (s ++ [.lst (acc.map W.int)]) = some (.ref s.length, s ++ [.lst ((adds acc d.vars).map W.int)])) → acc.length + (D.varsL ds).length ≤ 100000 →
    ∃ y', fo (.name 2) (sDo (eFn F (aCons (eVar 2) (aCons (eVar 1) aNil)))) none (D.wL ds) [some w0, some (.ref s.length), y] (s ++ [.lst (acc.map W.int)]) = some (.nx [some w0, some (.ref s.length), y'], s ++ [.lst ((adds acc (D.varsL ds)).map W.int)])
  | [], acc, y, _, _ => ⟨y, by rw [D.wL, fo, if_pos (show okc none _ from trivial), D.varsL]; rfl⟩
  | d :: ds, acc, y, h, hl => by
    rw [D.varsL, List.length_append] at hl
    have e1 := h d List.mem_cons_self acc (by omega)
    have hm := adds_len d.vars acc
    obtain ⟨y', e⟩ := lvars_go (F := F) (w0 := w0) (s := s) ds (adds acc d.vars) (some d.w) (fun x hx => h x (List.mem_cons_of_mem _ hx)) (by omega)
    refine ⟨y', ?_⟩
    rw [D.wL, fo, if_pos (show okc none _ from trivial)]
    simp only [mkF, bd_some, bd_none, sCons, sNil, sSet, sAsg, sPar, sDo, sRet, sRetN, sIf, sPut, sAug, sBrk, sCnt, sFor, iSeq, iEnu, Mir.iRev, Mir.iRng1, Mir.iRng2, eVar, eC, eOp, eUn, eFn, eMt, aNil, aCons, eTup, eLst, eAnd, eOr, eNot, eIf, bTest, bTruth, bAnd, bOr, bNot, bYes, eSl, pNo, pAt, tgM_name, tgM_tup, tgMs_nil, tgMs_name, tgMs_tup, List.getElem?_cons_succ, List.getElem?_cons_zero, List.set_cons_succ, List.set_cons_zero, List.map_cons, List.map_nil, List.length_cons, List.length_nil, List.replicate, List.nil_append, List.cons_append, if_true, if_false, Bool.false_eq_true, Nat.reduceAdd, Nat.reduceSub, Nat.reduceLeDiff, Nat.zero_add, Bool.not_true, Bool.not_false, e1]
    rw [e, D.varsL, adds_app]
theorem lvars_ok {ar : List Int} : ∀ (n : Nat) (d : D) (s : Sto) (acc : List Int), d.nodes ar = true → d.dep ≤ n → acc.length + d.vars.length ≤ 100000 → FLawVariables n [d.w, .ref s.length] (s ++ [.lst (acc.map W.int)]) = some (.ref s.length, s ++ [.lst ((adds acc d.vars).map W.int)]) := by
  intro n
  induction n with
  | zero => intro d s acc _ h; have := dep_pos d; omega
  | succ n ih =>
    intro d s acc hn hd hl
    have hk := nodesL_mem (nodes_kids hn)
    show mkF 2 3 (BLawVariables (FLawVariables n)) _ _ = _
    have lv : acc.length + (D.varsL d.kids).length ≤ 100000 := by
      rw [vars_kids, List.length_append] at hl
      omega
    obtain ⟨y', e⟩ := lvars_go (F := FLawVariables n) (w0 := d.w) (s := s) d.kids acc none (fun x hx acc' hl' => ih x s acc' (hk x hx) (by
      have := depL_mem hx
      rw [dep_kids] at hd
      omega) hl') lv
    unfold BLawVariables
    cases d with
    | bad w => rw [D.nodes] at hn; cases hn
    | v k =>
      have g1 : gIx (.tup [.str "v", .int k]) (.int 0) (s ++ [.lst (acc.map W.int)]) = some (.str "v", s ++ [.lst (acc.map W.int)]) := rfl
      have g2 : gIx (.tup [.str "v", .int k]) (.int 1) (s ++ [.lst (acc.map W.int)]) = some (.int k, s ++ [.lst (acc.map W.int)]) := rfl
      have g3 : gEq (.str "v") (.str "v") (s ++ [.lst (acc.map W.int)]) = some (.bl true, s ++ [.lst (acc.map W.int)]) := rfl
      have g4 : gNotIn (.int k) (.ref s.length) (s ++ [.lst (acc.map W.int)]) = some (.bl (!decide (k ∈ acc)), s ++ [.lst (acc.map W.int)]) := by
        have f1 : seqOf (.ref s.length) (s ++ [.lst (acc.map W.int)]) = some (acc.map W.int) := by simp only [seqOf, gmid]
        simp only [gNotIn, insW, f1, flat_ints, flatW, and_self, if_true, inW_ints]
      have hl' : (acc.map W.int).length ≤ 100000 := by rw [List.length_map]; omega
      by_cases hm : k ∈ acc
      · rw [decide_eq_true hm] at g4
        simp only [mkF, bd_some, bd_none, sCons, sNil, sSet, sAsg, sPar, sDo, sRet, sRetN, sIf, sPut, sAug, sBrk, sCnt, sFor, iSeq, iEnu, Mir.iRev, Mir.iRng1, Mir.iRng2, eVar, eC, eOp, eUn, eFn, eMt, aNil, aCons, eTup, eLst, eAnd, eOr, eNot, eIf, bTest, bTruth, bAnd, bOr, bNot, bYes, eSl, pNo, pAt, tgM_name, tgM_tup, tgMs_nil, tgMs_name, tgMs_tup, List.getElem?_cons_succ, List.getElem?_cons_zero, List.set_cons_succ, List.set_cons_zero, List.map_cons, List.map_nil, List.length_cons, List.length_nil, List.replicate, List.nil_append, List.cons_append, if_true, if_false, Bool.false_eq_true, Nat.reduceAdd, Nat.reduceSub, Nat.reduceLeDiff, Nat.zero_add, Bool.not_true, Bool.not_false, D.w, g1, g2, g3, g4, D.vars, adds, List.foldl_cons, List.foldl_nil, adj, hm]
      · rw [decide_eq_false hm] at g4
        simp only [mkF, bd_some, bd_none, sCons, sNil, sSet, sAsg, sPar, sDo, sRet, sRetN, sIf, sPut, sAug, sBrk, sCnt, sFor, iSeq, iEnu, Mir.iRev, Mir.iRng1, Mir.iRng2, eVar, eC, eOp, eUn, eFn, eMt, aNil, aCons, eTup, eLst, eAnd, eOr, eNot, eIf, bTest, bTruth, bAnd, bOr, bNot, bYes, eSl, pNo, pAt, tgM_name, tgM_tup, tgMs_nil, tgMs_name, tgMs_tup, List.getElem?_cons_succ, List.getElem?_cons_zero, List.set_cons_succ, List.set_cons_zero, List.map_cons, List.map_nil, List.length_cons, List.length_nil, List.replicate, List.nil_append, List.cons_append, if_true, if_false, Bool.false_eq_true, Nat.reduceAdd, Nat.reduceSub, Nat.reduceLeDiff, Nat.zero_add, Bool.not_true, Bool.not_false, D.w, g1, g2, g3, g4, D.vars, adds, List.foldl_cons, List.foldl_nil, adj, hm, isLR (gmid (s := s) (t := []) (o := .lst (acc.map W.int))), appL (gmid (s := s) (t := []) (o := .lst (acc.map W.int))) hl', smid, List.map_append]
    | c k as =>
      have g1 : gIx (D.c k as).w (.int 0) (s ++ [.lst (acc.map W.int)]) = some (.str "c", s ++ [.lst (acc.map W.int)]) := by rw [D.w]; rfl
      have g3 : gEq (.str "c") (.str "v") (s ++ [.lst (acc.map W.int)]) = some (.bl false, s ++ [.lst (acc.map W.int)]) := rfl
      have ep := lparts_ok (s := s ++ [.lst (acc.map W.int)]) (nodes_isX hn)
      have es : ∀ ws s, seqOf (.tup ws) s = some ws := fun _ _ => rfl
      rw [vars_kids]
      simp only [mkF, bd_some, bd_none, sCons, sNil, sSet, sAsg, sPar, sDo, sRet, sRetN, sIf, sPut, sAug, sBrk, sCnt, sFor, iSeq, iEnu, Mir.iRev, Mir.iRng1, Mir.iRng2, eVar, eC, eOp, eUn, eFn, eMt, aNil, aCons, eTup, eLst, eAnd, eOr, eNot, eIf, bTest, bTruth, bAnd, bOr, bNot, bYes, eSl, pNo, pAt, tgM_name, tgM_tup, tgMs_nil, tgMs_name, tgMs_tup, List.getElem?_cons_succ, List.getElem?_cons_zero, List.set_cons_succ, List.set_cons_zero, List.map_cons, List.map_nil, List.length_cons, List.length_nil, List.replicate, List.nil_append, List.cons_append, if_true, if_false, Bool.false_eq_true, Nat.reduceAdd, Nat.reduceSub, Nat.reduceLeDiff, Nat.zero_add, Bool.not_true, Bool.not_false, g1, g3, ep, es, chkOf, lstOf, e, D.one]
    | t as =>
      have g1 : gIx (D.t as).w (.int 0) (s ++ [.lst (acc.map W.int)]) = some (.str "t", s ++ [.lst (acc.map W.int)]) := by rw [D.w]; rfl
      have g3 : gEq (.str "t") (.str "v") (s ++ [.lst (acc.map W.int)]) = some (.bl false, s ++ [.lst (acc.map W.int)]) := rfl
      have ep := lparts_ok (s := s ++ [.lst (acc.map W.int)]) (nodes_isX hn)
      have es : ∀ ws s, seqOf (.tup ws) s = some ws := fun _ _ => rfl
      rw [vars_kids]
      simp only [mkF, bd_some, bd_none, sCons, sNil, sSet, sAsg, sPar, sDo, sRet, sRetN, sIf, sPut, sAug, sBrk, sCnt, sFor, iSeq, iEnu, Mir.iRev, Mir.iRng1, Mir.iRng2, eVar, eC, eOp, eUn, eFn, eMt, aNil, aCons, eTup, eLst, eAnd, eOr, eNot, eIf, bTest, bTruth, bAnd, bOr, bNot, bYes, eSl, pNo, pAt, tgM_name, tgM_tup, tgMs_nil, tgMs_name, tgMs_tup, List.getElem?_cons_succ, List.getElem?_cons_zero, List.set_cons_succ, List.set_cons_zero, List.map_cons, List.map_nil, List.length_cons, List.length_nil, List.replicate, List.nil_append, List.cons_append, if_true, if_false, Bool.false_eq_true, Nat.reduceAdd, Nat.reduceSub, Nat.reduceLeDiff, Nat.zero_add, Bool.not_true, Bool.not_false, g1, g3, ep, es, chkOf, lstOf, e, D.one]
    | f a b =>
      have g1 : gIx (D.f a b).w (.int 0) (s ++ [.lst (acc.map W.int)]) = some (.str "f", s ++ [.lst (acc.map W.int)]) := by rw [D.w]; rfl
      have g3 : gEq (.str "f") (.str "v") (s ++ [.lst (acc.map W.int)]) = some (.bl false, s ++ [.lst (acc.map W.int)]) := rfl
      have ep := lparts_ok (s := s ++ [.lst (acc.map W.int)]) (nodes_isX hn)
      have es : ∀ ws s, seqOf (.tup ws) s = some ws := fun _ _ => rfl
      rw [vars_kids]
      simp only [mkF, bd_some, bd_none, sCons, sNil, sSet, sAsg, sPar, sDo, sRet, sRetN, sIf, sPut, sAug, sBrk, sCnt, sFor, iSeq, iEnu, Mir.iRev, Mir.iRng1, Mir.iRng2, eVar, eC, eOp, eUn, eFn, eMt, aNil, aCons, eTup, eLst, eAnd, eOr, eNot, eIf, bTest, bTruth, bAnd, bOr, bNot, bYes, eSl, pNo, pAt, tgM_name, tgM_tup, tgMs_nil, tgMs_name, tgMs_tup, List.getElem?_cons_succ, List.getElem?_cons_zero, List.set_cons_succ, List.set_cons_zero, List.map_cons, List.map_nil, List.length_cons, List.length_nil, List.replicate, List.nil_append, List.cons_append, if_true, if_false, Bool.false_eq_true, Nat.reduceAdd, Nat.reduceSub, Nat.reduceLeDiff, Nat.zero_add, Bool.not_true, Bool.not_false, g1, g3, ep, es, chkOf, lstOf, e, D.one]
/-! ### the program's dict -/
def kv (acc : List Int) : List (Key × W) := acc.map fun n => (Sum.inl n, W.bl true)
theorem put_kv (acc : List Int) (n : Int) : put (kv acc) (.inl n) (.bl true) = kv (adj acc n) := by
  unfold put adj
  by_cases h : n ∈ acc
  · rw [if_pos h, if_pos (by simp [kv, h])]
    unfold kv
    rw [List.map_map]
    apply List.map_congr_left
    intro x _
    simp only [Function.comp_apply]
    split
    · rename_i e; simp_all
    · rfl
  · rw [if_neg h, if_neg (by simp [kv, h])]
    simp [kv]
noncomputable abbrev bVars : FS := (sCons (sSet 3 (eMt isL gPop (eVar 2) aNil))
    (sCons (sIf (bTest (eOp gEq (eOp gIx (eVar 3) (eC (.int 0))) (eC (.str "v")))) (sDput (eVar 1) (eOp gIx (eVar 3) (eC (.int 1))) (eC (.bl true))) sNil)
    (sDo (eMt isL gExtend (eVar 2) (aCons (eUn gRevT (eFn FPartsOfShape (aCons (eVar 3) aNil))) aNil)))))
def rv (k : List D) : List W := (D.wL k).reverse
theorem walkV {ar : List Int} {s : Sto} {w0 : W} : ∀ (n : Nat) (k : List D) (acc : List Int) (x3 : Option W), (∀ d ∈ k, d.nodes ar = true) → D.sizeL k < n → acc.length + D.sizeL k ≤ 90000 →
    ∃ x3', wh (bTruth (eVar 2)) bVars n [some w0, some (.ref s.length), some (.ref (s.length + 1)), x3] (s ++ [.dct (kv acc), .lst (rv k)]) = some (.nx [some w0, some (.ref s.length), some (.ref (s.length + 1)), x3'], s ++ [.dct (kv (adds acc (D.varsL k))), .lst []]) := by
  intro n
  induction n with
  | zero => intro k acc x3 _ h; omega
  | succ n ih =>
    intro k acc x3 hw h1 h2
    cases k with
    | nil =>
      refine ⟨x3, ?_⟩
      rw [wh]
      simp [mkF, bd_some, bd_none, bd_ite, sCons, sNil, sSet, sAsg, sPar, sDo, sRet, sRetN, sIf, sPut, setAt, sAug, sBrk, sCnt, eVar, eC, eOp, eUn, eFn, eMt, aNil, aCons, eTup, eLst, eAnd, eOr, eNot, eIf, bTest, bTruth, bAnd, bOr, bNot, bYes, truW, eIsi, tyW, isiT, eChain, gII, gIIc, gIx, seqOf, lstOf, gLen, lenW, gEq, gNe, eqW, sEq, tgM_name, tgM_tup, tgMs_nil, tgMs_name, tgMs_tup, gAdd, gMul, gNeg, gIs, gIsNot, Mir.isNon, gInt1, g1I, g2I, gTuple, gList, isL, gLm, fAppend, fPop, fExtend, gIAdd, eSl, pNo, pAt, gSlA, atI, ixN, ofString_inj, HT.sIx, rv, D.wL, D.varsL, adds]
    | cons d r =>
      have hd := hw d List.mem_cons_self
      have hx := nodes_isX hd
      rw [D.sizeL, size_kids] at h1 h2
      have ho := one_le d
      have ha := adds_len d.one acc
      obtain ⟨z3, e5⟩ := ih (d.kids ++ r) (adds acc d.one) (some d.w) (fun p hp => by
        rcases List.mem_append.mp hp with hp | hp
        · exact nodesL_mem (nodes_kids hd) p hp
        · exact hw p (List.mem_cons_of_mem _ hp)) (by rw [sizeL_app]; omega) (by rw [sizeL_app]; omega)
      refine ⟨z3, ?_⟩
      have e6 : D.varsL (d :: r) = d.one ++ D.varsL (d.kids ++ r) := by rw [D.varsL, vars_kids, varsL_app, List.append_assoc]
      rw [e6, adds_app, ← e5, wh]
      have e7 : rv (d :: r) = rv r ++ [d.w] := by simp only [rv, D.wL, List.reverse_cons]
      have e8 : rv (d.kids ++ r) = rv r ++ rv d.kids := by simp only [rv, wL_app, List.reverse_append]
      have hr : (rv r).length + (rv d.kids).length ≤ 100000 := by
        have l1 := lenL_size r
        have l2 := lenL_size d.kids
        simp only [rv, List.length_reverse, wL_len]
        omega
      rw [e7, e8]
      have s1 : ∀ (o : O) (ws : List W), (s ++ [o, .lst ws])[s.length + 1]? = some (.lst ws) := fun o ws => by simp
      have s2 : ∀ (o : O) (ws : List W) (o' : O), (s ++ [o, .lst ws]).set (s.length + 1) o' = s ++ [o, o'] := fun o ws o' => by simp
      have p1 : gPop (.ref (s.length + 1)) [] (s ++ [.dct (kv acc), .lst (rv r ++ [d.w])]) = some (d.w, s ++ [.dct (kv acc), .lst (rv r)]) := by
        simp only [gLm, s1, fPop]
        simp
      have p2 : isL (.ref (s.length + 1)) (s ++ [.dct (kv acc), .lst (rv r ++ [d.w])]) = true := isLR (s1 _ _)
      have p3 : truW (.ref (s.length + 1)) (s ++ [.dct (kv acc), .lst (rv r ++ [d.w])]) = some true := by
        simp [truW]
      have q2 : ∀ a, isL (.ref (s.length + 1)) (s ++ [.dct (kv a), .lst (rv r)]) = true := fun a => isLR (s1 _ _)
      have q3 : ∀ a, gExtend (.ref (s.length + 1)) [.tup (rv d.kids)] (s ++ [.dct (kv a), .lst (rv r)]) = some (.non, s ++ [.dct (kv a), .lst (rv r ++ rv d.kids)]) := fun a => by
        simp only [gLm, s1, fExtend, if_pos hr, s2]
      have q4 : ∀ s, gRevT (.tup (D.wL d.kids)) s = some (.tup (rv d.kids), s) := fun s => rfl
      have hk : (kv acc).length ≤ 100000 := by simp only [kv, List.length_map]; omega
      have d1 : dcOf (.ref s.length) (s ++ [.dct (kv acc), .lst (rv r)]) = some (s.length, kv acc) := by simp only [dcOf, gmid]
      have pp : ∀ a, FPartsOfShape [d.w] (s ++ [.dct (kv a), .lst (rv r)]) = some (.tup (D.wL d.kids), s ++ [.dct (kv a), .lst (rv r)]) := fun a => parts_ok hx
      cases d with
      | bad w => cases hx
      | v m =>
        have g1 : ∀ s, gIx (D.v m).w (.int 0) s = some (.str "v", s) := fun _ => by rw [D.w]; rfl
        have g2 : ∀ s, gIx (D.v m).w (.int 1) s = some (.int m, s) := fun _ => by rw [D.w]; rfl
        have g3 : ∀ s, gEq (.str "v") (.str "v") s = some (.bl true, s) := fun _ => rfl
        have k1 : keyW (.int m) = some (.inl m) := rfl
        simp only [mkF, bd_some, bd_none, sCons, sNil, sSet, sAsg, sPar, sDo, sRet, sRetN, sIf, sPut, sAug, sBrk, sCnt, sFor, iSeq, iEnu, Mir.iRev, Mir.iRng1, Mir.iRng2, eVar, eC, eOp, eUn, eFn, eMt, aNil, aCons, eTup, eLst, eAnd, eOr, eNot, eIf, bTest, bTruth, bAnd, bOr, bNot, bYes, eSl, pNo, pAt, tgM_name, tgM_tup, tgMs_nil, tgMs_name, tgMs_tup, List.getElem?_cons_succ, List.getElem?_cons_zero, List.set_cons_succ, List.set_cons_zero, List.map_cons, List.map_nil, List.length_cons, List.length_nil, List.replicate, List.nil_append, List.cons_append, if_true, if_false, Bool.false_eq_true, Nat.reduceAdd, Nat.reduceSub, Nat.reduceLeDiff, Nat.zero_add, Bool.not_true, Bool.not_false, p1, p2, p3, g1, g2, g3, sDput, d1, k1, hk, put_kv, smid, pp, q2, q3, q4, D.one, adds, List.foldl_cons, List.foldl_nil]
      | c m as =>
        have g1 : ∀ s, gIx (D.c m as).w (.int 0) s = some (.str "c", s) := fun _ => by rw [D.w]; rfl
        have g3 : ∀ s, gEq (.str "c") (.str "v") s = some (.bl false, s) := fun _ => rfl
        simp only [mkF, bd_some, bd_none, sCons, sNil, sSet, sAsg, sPar, sDo, sRet, sRetN, sIf, sPut, sAug, sBrk, sCnt, sFor, iSeq, iEnu, Mir.iRev, Mir.iRng1, Mir.iRng2, eVar, eC, eOp, eUn, eFn, eMt, aNil, aCons, eTup, eLst, eAnd, eOr, eNot, eIf, bTest, bTruth, bAnd, bOr, bNot, bYes, eSl, pNo, pAt, tgM_name, tgM_tup, tgMs_nil, tgMs_name, tgMs_tup, List.getElem?_cons_succ, List.getElem?_cons_zero, List.set_cons_succ, List.set_cons_zero, List.map_cons, List.map_nil, List.length_cons, List.length_nil, List.replicate, List.nil_append, List.cons_append, if_true, if_false, Bool.false_eq_true, Nat.reduceAdd, Nat.reduceSub, Nat.reduceLeDiff, Nat.zero_add, Bool.not_true, Bool.not_false, p1, p2, p3, g1, g3, pp, q2, q3, q4, D.one, adds, List.foldl_nil]
      | t as =>
        have g1 : ∀ s, gIx (D.t as).w (.int 0) s = some (.str "t", s) := fun _ => by rw [D.w]; rfl
        have g3 : ∀ s, gEq (.str "t") (.str "v") s = some (.bl false, s) := fun _ => rfl
        simp only [mkF, bd_some, bd_none, sCons, sNil, sSet, sAsg, sPar, sDo, sRet, sRetN, sIf, sPut, sAug, sBrk, sCnt, sFor, iSeq, iEnu, Mir.iRev, Mir.iRng1, Mir.iRng2, eVar, eC, eOp, eUn, eFn, eMt, aNil, aCons, eTup, eLst, eAnd, eOr, eNot, eIf, bTest, bTruth, bAnd, bOr, bNot, bYes, eSl, pNo, pAt, tgM_name, tgM_tup, tgMs_nil, tgMs_name, tgMs_tup, List.getElem?_cons_succ, List.getElem?_cons_zero, List.set_cons_succ, List.set_cons_zero, List.map_cons, List.map_nil, List.length_cons, List.length_nil, List.replicate, List.nil_append, List.cons_append, if_true, if_false, Bool.false_eq_true, Nat.reduceAdd, Nat.reduceSub, Nat.reduceLeDiff, Nat.zero_add, Bool.not_true, Bool.not_false, p1, p2, p3, g1, g3, pp, q2, q3, q4, D.one, adds, List.foldl_nil]
      | f a b =>
        have g1 : ∀ s, gIx (D.f a b).w (.int 0) s = some (.str "f", s) := fun _ => by rw [D.w]; rfl
        have g3 : ∀ s, gEq (.str "f") (.str "v") s = some (.bl false, s) := fun _ => rfl
        simp only [mkF, bd_some, bd_none, sCons, sNil, sSet, sAsg, sPar, sDo, sRet, sRetN, sIf, sPut, sAug, sBrk, sCnt, sFor, iSeq, iEnu, Mir.iRev, Mir.iRng1, Mir.iRng2, eVar, eC, eOp, eUn, eFn, eMt, aNil, aCons, eTup, eLst, eAnd, eOr, eNot, eIf, bTest, bTruth, bAnd, bOr, bNot, bYes, eSl, pNo, pAt, tgM_name, tgM_tup, tgMs_nil, tgMs_name, tgMs_tup, List.getElem?_cons_succ, List.getElem?_cons_zero, List.set_cons_succ, List.set_cons_zero, List.map_cons, List.map_nil, List.length_cons, List.length_nil, List.replicate, List.nil_append, List.cons_append, if_true, if_false, Bool.false_eq_true, Nat.reduceAdd, Nat.reduceSub, Nat.reduceLeDiff, Nat.zero_add, Bool.not_true, Bool.not_false, p1, p2, p3, g1, g3, pp, q2, q3, q4, D.one, adds, List.foldl_nil]
theorem variables_ok {ar : List Int} {s : Sto} {d : D} (hd : d.nodes ar = true) (hs : d.size ≤ 90000) :
    ∃ t, FVariables [d.w] s = some (.tup ((adds [] d.vars).map W.int), s ++ t) := by
  have hz : D.sizeL [d] = d.size := by rw [D.sizeL, D.sizeL, Nat.add_zero]
  have hq : D.varsL [d] = d.vars := by rw [D.varsL, D.varsL, List.append_nil]
  obtain ⟨x3, e1⟩ := walkV (s := s) (w0 := d.w) 100000 [d] [] none (fun p hp => by
    rw [List.mem_singleton.mp hp]; exact hd) (by rw [hz]; omega) (by rw [hz]; simpa using hs)
  rw [hq] at e1
  refine ⟨[.dct (kv (adds [] d.vars)), .lst []], ?_⟩
  have e6 : wh (bTruth (eVar 2)) bVars 100000 [some d.w, some (.ref s.length), some (.ref (s.length + 1)), none] (s ++ [.dct [], .lst [d.w]]) = _ := e1
  have e7 : (s ++ [O.dct []]).length = s.length + 1 := by simp
  have e8 : s ++ [O.dct []] ++ [O.lst [d.w]] = s ++ [.dct [], .lst [d.w]] := by simp
  have e9 : gTupleD [.ref s.length] (s ++ [.dct (kv (adds [] d.vars)), .lst []]) = some (.tup ((adds [] d.vars).map W.int), s ++ [.dct (kv (adds [] d.vars)), .lst []]) := by
    simp only [gTupleD, dcOf, gmid, kv, List.map_map]
    rfl
  unfold FVariables BVariables
  simp only [mkF, bd_some, bd_none, sCons, sNil, sSet, sAsg, sPar, sDo, sRet, sRetN, sIf, sPut, sAug, sBrk, sCnt, sFor, iSeq, iEnu, Mir.iRev, Mir.iRng1, Mir.iRng2, eVar, eC, eOp, eUn, eFn, eMt, aNil, aCons, eTup, eLst, eAnd, eOr, eNot, eIf, bTest, bTruth, bAnd, bOr, bNot, bYes, eSl, pNo, pAt, tgM_name, tgM_tup, tgMs_nil, tgMs_name, tgMs_tup, List.getElem?_cons_succ, List.getElem?_cons_zero, List.set_cons_succ, List.set_cons_zero, List.map_cons, List.map_nil, List.length_cons, List.length_nil, List.replicate, List.nil_append, List.cons_append, if_true, if_false, Bool.false_eq_true, Nat.reduceAdd, Nat.reduceSub, Nat.reduceLeDiff, Nat.zero_add, Bool.not_true, Bool.not_false, eDnew, sWh, e6, e7, e8, e9]
end K10

set_option Elab.async false
set_option linter.all false
set_option maxRecDepth 100000
namespace K10
open PySem PySem.Spec PyProof.Rows L2 Mir
/-! ### no shapes -/
def c0 : D := .c 0 []
def v1 : W := .tup [.str "v", .int 1000000]
def wrongs : List W := [.tup [.str "c", .str "a", .tup []], .tup [.str "c", .int 8, .tup []], .tup [.str "c", .int 3, .tup []], .tup [.str "c", .int 0, .tup [.tup [.str "c", .int 0, .tup []]]],
  .tup [.str "t", .tup [.tup [.str "c", .int 0, .tup []]]], .tup [.str "t", .tup [v1, v1, v1, v1, v1, v1, v1]], .tup [.str "v", .int (-1)], .tup [.str "v", .str "a"], .str "v", .tup [.str "f", .tup [.str "c", .int 0, .tup []]], .tup [.str "v"], .tup [], .tup [.str "c", .int (-1), .tup []],
  .tup [.str "x", .tup [.str "c", .int 0, .tup []], .tup [.str "c", .int 0, .tup []]], .int 5]
theorem num_chk {x : W} {s : Sto} (h : noRef x = true) : FIsNumber [x] s = some (.bl (isNum x), s) := isNumber_ok h
theorem bad0 : Bad ar8 (.tup [.str "c", .str "a", .tup []]) := ⟨rfl, fun s => by unfold FIsNode BIsNode; simp [mkF, bd_some, bd_none, bd_ite, sCons, sNil, sSet, sAsg, sPar, sDo, sRet, sRetN, sIf, sPut, setAt, sAug, sBrk, sCnt, eVar, eC, eOp, eUn, eFn, eMt, aNil, aCons, eTup, eLst, eAnd, eOr, eNot, eIf, bTest, bTruth, bAnd, bOr, bNot, bYes, truW, eIsi, tyW, isiT, eChain, gII, gIIc, gIx, seqOf, lstOf, gLen, lenW, gEq, gNe, eqW, sEq, tgM_name, tgM_tup, tgMs_nil, tgMs_name, tgMs_tup, gAdd, gMul, gNeg, gIs, gIsNot, Mir.isNon, gInt1, g1I, g2I, gTuple, gList, isL, gLm, fAppend, fPop, fExtend, gIAdd, eSl, pNo, pAt, gSlA, atI, ixN, ofString_inj, HT.sIx, arW, ar8, num_int, num_str, lst_tup]⟩
theorem bad1 : Bad ar8 (.tup [.str "c", .int 8, .tup []]) := ⟨rfl, fun s => by unfold FIsNode BIsNode; simp [mkF, bd_some, bd_none, bd_ite, sCons, sNil, sSet, sAsg, sPar, sDo, sRet, sRetN, sIf, sPut, setAt, sAug, sBrk, sCnt, eVar, eC, eOp, eUn, eFn, eMt, aNil, aCons, eTup, eLst, eAnd, eOr, eNot, eIf, bTest, bTruth, bAnd, bOr, bNot, bYes, truW, eIsi, tyW, isiT, eChain, gII, gIIc, gIx, seqOf, lstOf, gLen, lenW, gEq, gNe, eqW, sEq, tgM_name, tgM_tup, tgMs_nil, tgMs_name, tgMs_tup, gAdd, gMul, gNeg, gIs, gIsNot, Mir.isNon, gInt1, g1I, g2I, gTuple, gList, isL, gLm, fAppend, fPop, fExtend, gIAdd, eSl, pNo, pAt, gSlA, atI, ixN, ofString_inj, HT.sIx, arW, ar8, num_int, num_str, lst_tup]⟩
theorem bad2 : Bad ar8 (.tup [.str "c", .int 3, .tup []]) := ⟨rfl, fun s => by unfold FIsNode BIsNode; simp [mkF, bd_some, bd_none, bd_ite, sCons, sNil, sSet, sAsg, sPar, sDo, sRet, sRetN, sIf, sPut, setAt, sAug, sBrk, sCnt, eVar, eC, eOp, eUn, eFn, eMt, aNil, aCons, eTup, eLst, eAnd, eOr, eNot, eIf, bTest, bTruth, bAnd, bOr, bNot, bYes, truW, eIsi, tyW, isiT, eChain, gII, gIIc, gIx, seqOf, lstOf, gLen, lenW, gEq, gNe, eqW, sEq, tgM_name, tgM_tup, tgMs_nil, tgMs_name, tgMs_tup, gAdd, gMul, gNeg, gIs, gIsNot, Mir.isNon, gInt1, g1I, g2I, gTuple, gList, isL, gLm, fAppend, fPop, fExtend, gIAdd, eSl, pNo, pAt, gSlA, atI, ixN, ofString_inj, HT.sIx, arW, ar8, num_int, num_str, lst_tup]⟩
theorem bad3 : Bad ar8 (.tup [.str "c", .int 0, .tup [.tup [.str "c", .int 0, .tup []]]]) := ⟨rfl, fun s => by unfold FIsNode BIsNode; simp [mkF, bd_some, bd_none, bd_ite, sCons, sNil, sSet, sAsg, sPar, sDo, sRet, sRetN, sIf, sPut, setAt, sAug, sBrk, sCnt, eVar, eC, eOp, eUn, eFn, eMt, aNil, aCons, eTup, eLst, eAnd, eOr, eNot, eIf, bTest, bTruth, bAnd, bOr, bNot, bYes, truW, eIsi, tyW, isiT, eChain, gII, gIIc, gIx, seqOf, lstOf, gLen, lenW, gEq, gNe, eqW, sEq, tgM_name, tgM_tup, tgMs_nil, tgMs_name, tgMs_tup, gAdd, gMul, gNeg, gIs, gIsNot, Mir.isNon, gInt1, g1I, g2I, gTuple, gList, isL, gLm, fAppend, fPop, fExtend, gIAdd, eSl, pNo, pAt, gSlA, atI, ixN, ofString_inj, HT.sIx, arW, ar8, num_int, num_str, lst_tup]⟩
theorem bad4 : Bad ar8 (.tup [.str "t", .tup [.tup [.str "c", .int 0, .tup []]]]) := ⟨rfl, fun s => by unfold FIsNode BIsNode; simp [mkF, bd_some, bd_none, bd_ite, sCons, sNil, sSet, sAsg, sPar, sDo, sRet, sRetN, sIf, sPut, setAt, sAug, sBrk, sCnt, eVar, eC, eOp, eUn, eFn, eMt, aNil, aCons, eTup, eLst, eAnd, eOr, eNot, eIf, bTest, bTruth, bAnd, bOr, bNot, bYes, truW, eIsi, tyW, isiT, eChain, gII, gIIc, gIx, seqOf, lstOf, gLen, lenW, gEq, gNe, eqW, sEq, tgM_name, tgM_tup, tgMs_nil, tgMs_name, tgMs_tup, gAdd, gMul, gNeg, gIs, gIsNot, Mir.isNon, gInt1, g1I, g2I, gTuple, gList, isL, gLm, fAppend, fPop, fExtend, gIAdd, eSl, pNo, pAt, gSlA, atI, ixN, ofString_inj, HT.sIx, arW, ar8, num_int, num_str, lst_tup]⟩
theorem bad5 : Bad ar8 (.tup [.str "t", .tup [v1, v1, v1, v1, v1, v1, v1]]) := ⟨rfl, fun s => by unfold FIsNode BIsNode; simp [mkF, bd_some, bd_none, bd_ite, sCons, sNil, sSet, sAsg, sPar, sDo, sRet, sRetN, sIf, sPut, setAt, sAug, sBrk, sCnt, eVar, eC, eOp, eUn, eFn, eMt, aNil, aCons, eTup, eLst, eAnd, eOr, eNot, eIf, bTest, bTruth, bAnd, bOr, bNot, bYes, truW, eIsi, tyW, isiT, eChain, gII, gIIc, gIx, seqOf, lstOf, gLen, lenW, gEq, gNe, eqW, sEq, tgM_name, tgM_tup, tgMs_nil, tgMs_name, tgMs_tup, gAdd, gMul, gNeg, gIs, gIsNot, Mir.isNon, gInt1, g1I, g2I, gTuple, gList, isL, gLm, fAppend, fPop, fExtend, gIAdd, eSl, pNo, pAt, gSlA, atI, ixN, ofString_inj, HT.sIx, arW, ar8, num_int, num_str, lst_tup]⟩
theorem bad6 : Bad ar8 (.tup [.str "v", .int (-1)]) := ⟨rfl, fun s => by unfold FIsNode BIsNode; simp [mkF, bd_some, bd_none, bd_ite, sCons, sNil, sSet, sAsg, sPar, sDo, sRet, sRetN, sIf, sPut, setAt, sAug, sBrk, sCnt, eVar, eC, eOp, eUn, eFn, eMt, aNil, aCons, eTup, eLst, eAnd, eOr, eNot, eIf, bTest, bTruth, bAnd, bOr, bNot, bYes, truW, eIsi, tyW, isiT, eChain, gII, gIIc, gIx, seqOf, lstOf, gLen, lenW, gEq, gNe, eqW, sEq, tgM_name, tgM_tup, tgMs_nil, tgMs_name, tgMs_tup, gAdd, gMul, gNeg, gIs, gIsNot, Mir.isNon, gInt1, g1I, g2I, gTuple, gList, isL, gLm, fAppend, fPop, fExtend, gIAdd, eSl, pNo, pAt, gSlA, atI, ixN, ofString_inj, HT.sIx, arW, ar8, num_int, num_str, lst_tup]⟩
theorem bad7 : Bad ar8 (.tup [.str "v", .str "a"]) := ⟨rfl, fun s => by unfold FIsNode BIsNode; simp [mkF, bd_some, bd_none, bd_ite, sCons, sNil, sSet, sAsg, sPar, sDo, sRet, sRetN, sIf, sPut, setAt, sAug, sBrk, sCnt, eVar, eC, eOp, eUn, eFn, eMt, aNil, aCons, eTup, eLst, eAnd, eOr, eNot, eIf, bTest, bTruth, bAnd, bOr, bNot, bYes, truW, eIsi, tyW, isiT, eChain, gII, gIIc, gIx, seqOf, lstOf, gLen, lenW, gEq, gNe, eqW, sEq, tgM_name, tgM_tup, tgMs_nil, tgMs_name, tgMs_tup, gAdd, gMul, gNeg, gIs, gIsNot, Mir.isNon, gInt1, g1I, g2I, gTuple, gList, isL, gLm, fAppend, fPop, fExtend, gIAdd, eSl, pNo, pAt, gSlA, atI, ixN, ofString_inj, HT.sIx, arW, ar8, num_int, num_str, lst_tup]⟩
theorem bad8 : Bad ar8 (.str "v") := ⟨rfl, fun s => by unfold FIsNode BIsNode; simp [mkF, bd_some, bd_none, bd_ite, sCons, sNil, sSet, sAsg, sPar, sDo, sRet, sRetN, sIf, sPut, setAt, sAug, sBrk, sCnt, eVar, eC, eOp, eUn, eFn, eMt, aNil, aCons, eTup, eLst, eAnd, eOr, eNot, eIf, bTest, bTruth, bAnd, bOr, bNot, bYes, truW, eIsi, tyW, isiT, eChain, gII, gIIc, gIx, seqOf, lstOf, gLen, lenW, gEq, gNe, eqW, sEq, tgM_name, tgM_tup, tgMs_nil, tgMs_name, tgMs_tup, gAdd, gMul, gNeg, gIs, gIsNot, Mir.isNon, gInt1, g1I, g2I, gTuple, gList, isL, gLm, fAppend, fPop, fExtend, gIAdd, eSl, pNo, pAt, gSlA, atI, ixN, ofString_inj, HT.sIx, arW, ar8, num_int, num_str, lst_tup]⟩
theorem bad9 : Bad ar8 (.tup [.str "f", .tup [.str "c", .int 0, .tup []]]) := ⟨rfl, fun s => by unfold FIsNode BIsNode; simp [mkF, bd_some, bd_none, bd_ite, sCons, sNil, sSet, sAsg, sPar, sDo, sRet, sRetN, sIf, sPut, setAt, sAug, sBrk, sCnt, eVar, eC, eOp, eUn, eFn, eMt, aNil, aCons, eTup, eLst, eAnd, eOr, eNot, eIf, bTest, bTruth, bAnd, bOr, bNot, bYes, truW, eIsi, tyW, isiT, eChain, gII, gIIc, gIx, seqOf, lstOf, gLen, lenW, gEq, gNe, eqW, sEq, tgM_name, tgM_tup, tgMs_nil, tgMs_name, tgMs_tup, gAdd, gMul, gNeg, gIs, gIsNot, Mir.isNon, gInt1, g1I, g2I, gTuple, gList, isL, gLm, fAppend, fPop, fExtend, gIAdd, eSl, pNo, pAt, gSlA, atI, ixN, ofString_inj, HT.sIx, arW, ar8, num_int, num_str, lst_tup]⟩
theorem bad10 : Bad ar8 (.tup [.str "v"]) := ⟨rfl, fun s => by unfold FIsNode BIsNode; simp [mkF, bd_some, bd_none, bd_ite, sCons, sNil, sSet, sAsg, sPar, sDo, sRet, sRetN, sIf, sPut, setAt, sAug, sBrk, sCnt, eVar, eC, eOp, eUn, eFn, eMt, aNil, aCons, eTup, eLst, eAnd, eOr, eNot, eIf, bTest, bTruth, bAnd, bOr, bNot, bYes, truW, eIsi, tyW, isiT, eChain, gII, gIIc, gIx, seqOf, lstOf, gLen, lenW, gEq, gNe, eqW, sEq, tgM_name, tgM_tup, tgMs_nil, tgMs_name, tgMs_tup, gAdd, gMul, gNeg, gIs, gIsNot, Mir.isNon, gInt1, g1I, g2I, gTuple, gList, isL, gLm, fAppend, fPop, fExtend, gIAdd, eSl, pNo, pAt, gSlA, atI, ixN, ofString_inj, HT.sIx, arW, ar8, num_int, num_str, lst_tup]⟩
theorem bad11 : Bad ar8 (.tup []) := ⟨rfl, fun s => by unfold FIsNode BIsNode; simp [mkF, bd_some, bd_none, bd_ite, sCons, sNil, sSet, sAsg, sPar, sDo, sRet, sRetN, sIf, sPut, setAt, sAug, sBrk, sCnt, eVar, eC, eOp, eUn, eFn, eMt, aNil, aCons, eTup, eLst, eAnd, eOr, eNot, eIf, bTest, bTruth, bAnd, bOr, bNot, bYes, truW, eIsi, tyW, isiT, eChain, gII, gIIc, gIx, seqOf, lstOf, gLen, lenW, gEq, gNe, eqW, sEq, tgM_name, tgM_tup, tgMs_nil, tgMs_name, tgMs_tup, gAdd, gMul, gNeg, gIs, gIsNot, Mir.isNon, gInt1, g1I, g2I, gTuple, gList, isL, gLm, fAppend, fPop, fExtend, gIAdd, eSl, pNo, pAt, gSlA, atI, ixN, ofString_inj, HT.sIx, arW, ar8, num_int, num_str, lst_tup]⟩
theorem bad12 : Bad ar8 (.tup [.str "c", .int (-1), .tup []]) := ⟨rfl, fun s => by unfold FIsNode BIsNode; simp [mkF, bd_some, bd_none, bd_ite, sCons, sNil, sSet, sAsg, sPar, sDo, sRet, sRetN, sIf, sPut, setAt, sAug, sBrk, sCnt, eVar, eC, eOp, eUn, eFn, eMt, aNil, aCons, eTup, eLst, eAnd, eOr, eNot, eIf, bTest, bTruth, bAnd, bOr, bNot, bYes, truW, eIsi, tyW, isiT, eChain, gII, gIIc, gIx, seqOf, lstOf, gLen, lenW, gEq, gNe, eqW, sEq, tgM_name, tgM_tup, tgMs_nil, tgMs_name, tgMs_tup, gAdd, gMul, gNeg, gIs, gIsNot, Mir.isNon, gInt1, g1I, g2I, gTuple, gList, isL, gLm, fAppend, fPop, fExtend, gIAdd, eSl, pNo, pAt, gSlA, atI, ixN, ofString_inj, HT.sIx, arW, ar8, num_int, num_str, lst_tup]⟩
theorem bad13 : Bad ar8 (.tup [.str "x", .tup [.str "c", .int 0, .tup []], .tup [.str "c", .int 0, .tup []]]) := ⟨rfl, fun s => by unfold FIsNode BIsNode; simp [mkF, bd_some, bd_none, bd_ite, sCons, sNil, sSet, sAsg, sPar, sDo, sRet, sRetN, sIf, sPut, setAt, sAug, sBrk, sCnt, eVar, eC, eOp, eUn, eFn, eMt, aNil, aCons, eTup, eLst, eAnd, eOr, eNot, eIf, bTest, bTruth, bAnd, bOr, bNot, bYes, truW, eIsi, tyW, isiT, eChain, gII, gIIc, gIx, seqOf, lstOf, gLen, lenW, gEq, gNe, eqW, sEq, tgM_name, tgM_tup, tgMs_nil, tgMs_name, tgMs_tup, gAdd, gMul, gNeg, gIs, gIsNot, Mir.isNon, gInt1, g1I, g2I, gTuple, gList, isL, gLm, fAppend, fPop, fExtend, gIAdd, eSl, pNo, pAt, gSlA, atI, ixN, ofString_inj, HT.sIx, arW, ar8, num_int, num_str, lst_tup]⟩
theorem bad14 : Bad ar8 (.int 5) := ⟨rfl, fun s => by unfold FIsNode BIsNode; simp [mkF, bd_some, bd_none, bd_ite, sCons, sNil, sSet, sAsg, sPar, sDo, sRet, sRetN, sIf, sPut, setAt, sAug, sBrk, sCnt, eVar, eC, eOp, eUn, eFn, eMt, aNil, aCons, eTup, eLst, eAnd, eOr, eNot, eIf, bTest, bTruth, bAnd, bOr, bNot, bYes, truW, eIsi, tyW, isiT, eChain, gII, gIIc, gIx, seqOf, lstOf, gLen, lenW, gEq, gNe, eqW, sEq, tgM_name, tgM_tup, tgMs_nil, tgMs_name, tgMs_tup, gAdd, gMul, gNeg, gIs, gIsNot, Mir.isNon, gInt1, g1I, g2I, gTuple, gList, isL, gLm, fAppend, fPop, fExtend, gIAdd, eSl, pNo, pAt, gSlA, atI, ixN, ofString_inj, HT.sIx, arW, ar8, num_int, num_str, lst_tup]⟩
theorem wrongs_bad : ∀ w ∈ wrongs, Bad ar8 w := by
  intro w h
  simp only [wrongs, List.mem_cons, List.not_mem_nil, or_false] at h
  rcases h with rfl | rfl | rfl | rfl | rfl | rfl | rfl | rfl | rfl | rfl | rfl | rfl | rfl | rfl | rfl
  all_goals first | exact bad0 | exact bad1 | exact bad2 | exact bad3 | exact bad4 | exact bad5 | exact bad6 | exact bad7 | exact bad8 | exact bad9 | exact bad10 | exact bad11 | exact bad12 | exact bad13 | exact bad14
theorem wrong_ok {p : Int} {s : Sto} (h0 : 0 ≤ p) (h1 : p < 15) : ∃ w, FLawWrong [.int p] s = some (w, s) ∧ Bad ar8 w := by
  obtain ⟨j, rfl⟩ : ∃ j : Nat, p = (j : Int) := ⟨p.toNat, (Int.toNat_of_nonneg h0).symm⟩
  have hl : j < wrongs.length := by have : wrongs.length = 15 := rfl; omega
  refine ⟨wrongs[j], ?_, wrongs_bad _ (List.getElem_mem hl)⟩
  have e1 : gIx (.tup wrongs) (.int (j : Int)) s = some (wrongs[j], s) := by
    simp only [gIx, seqOf, atI_nat (List.getElem?_eq_getElem hl)]
  have e2 : Mir.gMul (.tup [v1]) (.int 7) s = some (.tup [v1, v1, v1, v1, v1, v1, v1], s) := rfl
  have e3 : gNeg (.int 1) s = some (.int (-1), s) := rfl
  unfold FLawWrong BLawWrong
  simp only [wrongs, v1] at e1 e2
  simp only [mkF, bd_some, bd_none, sCons, sNil, sSet, sAsg, sPar, sDo, sRet, sRetN, sIf, sPut, sAug, sBrk, sCnt, sFor, iSeq, iEnu, Mir.iRev, Mir.iRng1, Mir.iRng2, eVar, eC, eOp, eUn, eFn, eMt, aNil, aCons, eTup, eLst, eAnd, eOr, eNot, eIf, bTest, bTruth, bAnd, bOr, bNot, bYes, eSl, pNo, pAt, tgM_name, tgM_tup, tgMs_nil, tgMs_name, tgMs_tup, List.getElem?_cons_succ, List.getElem?_cons_zero, List.set_cons_succ, List.set_cons_zero, List.map_cons, List.map_nil, List.length_cons, List.length_nil, List.replicate, List.nil_append, List.cons_append, if_true, if_false, Bool.false_eq_true, Nat.reduceAdd, Nat.reduceSub, Nat.reduceLeDiff, Nat.zero_add, Bool.not_true, Bool.not_false, e2, e3]
  rw [e1]
  rfl
/-! ### a shape with a spoilt leaf -/
theorem nodes_wf {ar ar' : List Int} : ∀ (n : Nat) (d : D), d.dep ≤ n → d.nodes ar = true → d.wf ar' := by
  intro n
  induction n with
  | zero => intro d h; have := dep_pos d; omega
  | succ n ih =>
    intro d h hn
    have hk := nodesL_mem (nodes_kids hn)
    have hl : ∀ ds : List D, (∀ x ∈ ds, x.wf ar') → D.wfL ar' ds := by
      intro ds
      induction ds with
      | nil => intro _; rw [D.wfL]; trivial
      | cons x r ihr => intro hx; rw [D.wfL]; exact ⟨hx x List.mem_cons_self, ihr fun y hy => hx y (List.mem_cons_of_mem _ hy)⟩
    have hkw : ∀ x ∈ d.kids, x.wf ar' := fun x hx => ih x (by
      have := depL_mem hx
      rw [dep_kids] at h
      omega) (hk x hx)
    cases d with
    | v _ => rw [D.wf]; trivial
    | c _ as => rw [D.wf]; exact hl as hkw
    | t as => rw [D.wf]; exact hl as hkw
    | f a b => rw [D.wf]; exact ⟨hkw a (by simp [D.kids]), hkw b (by simp [D.kids])⟩
    | bad w => rw [D.nodes] at hn; cases hn
theorem good_nodes {ar : List Int} : ∀ (n : Nat) (d : D) (l : Nat), d.dep ≤ n → d.nodes ar = true → l + d.dep ≤ 101 → d.good ar l = true := by
  intro n
  induction n with
  | zero => intro d l h; have := dep_pos d; omega
  | succ n ih =>
    intro d l h hn h1
    have hk := nodesL_mem (nodes_kids hn)
    have hd := dep_pos d
    rw [good_kids ar l d (nodes_isX hn), nodes_node hn, decide_eq_true (by omega)]
    have hl : ∀ ds : List D, (∀ x ∈ ds, x.good ar (l + 1) = true) → D.goodL ar (l + 1) ds = true := by
      intro ds
      induction ds with
      | nil => intro _; rw [D.goodL]
      | cons x r ihr => intro hx; rw [D.goodL, hx x List.mem_cons_self, ihr fun y hy => hx y (List.mem_cons_of_mem _ hy)]; rfl
    rw [hl d.kids fun x hx => ih x (l + 1) (by
      have := depL_mem hx
      rw [dep_kids] at h
      omega) (hk x hx) (by
      have := depL_mem hx
      rw [dep_kids] at h1
      omega)]
    rfl
theorem goodL_bad {ar : List Int} {l : Nat} {d : D} (h : d.good ar l = false) : ∀ {ds : List D}, d ∈ ds → D.goodL ar l ds = false
  | [], hd => by cases hd
  | x :: r, hd => by
    rw [D.goodL]
    rcases List.mem_cons.mp hd with rfl | hd
    · rw [h]; rfl
    · rw [goodL_bad h hd, Bool.and_false]
theorem wfL_all {ar : List Int} : ∀ {ds : List D}, (∀ x ∈ ds, x.wf ar) → D.wfL ar ds
  | [], _ => by rw [D.wfL]; trivial
  | x :: r, hx => by rw [D.wfL]; exact ⟨hx x List.mem_cons_self, wfL_all fun y hy => hx y (List.mem_cons_of_mem _ hy)⟩
theorem good_bad {ar : List Int} {l : Nat} {d x : D} (hx : x ∈ d.kids) (hd : d.isX = false) (h : x.good ar (l + 1) = false) : d.good ar l = false := by
  rw [good_kids ar l d hd, goodL_bad h hx, Bool.and_false]
theorem lcf_id {s : Sto} {a0 a1 a2 a3 a4 a5 : Option W} : ∀ (ws : List W) (y : Option W), lcf (.name 6) bYes (eVar 6) none [a0, a1, a2, a3, a4, a5, y] ws s = some (ws, s)
  | [], y => by rw [lcf, if_pos (show okc none _ from trivial)]
  | w :: ws, y => by
    rw [lcf, if_pos (show okc none _ from trivial)]
    have e := lcf_id (s := s) (a0 := a0) (a1 := a1) (a2 := a2) (a3 := a3) (a4 := a4) (a5 := a5) ws y
    simp only [mkF, bd_some, bd_none, sCons, sNil, sSet, sAsg, sPar, sDo, sRet, sRetN, sIf, sPut, sAug, sBrk, sCnt, sFor, iSeq, iEnu, Mir.iRev, Mir.iRng1, Mir.iRng2, eVar, eC, eOp, eUn, eFn, eMt, aNil, aCons, eTup, eLst, eAnd, eOr, eNot, eIf, bTest, bTruth, bAnd, bOr, bNot, bYes, eSl, pNo, pAt, tgM_name, tgM_tup, tgMs_nil, tgMs_name, tgMs_tup, List.getElem?_cons_succ, List.getElem?_cons_zero, List.set_cons_succ, List.set_cons_zero, List.map_cons, List.map_nil, List.length_cons, List.length_nil, List.replicate, List.nil_append, List.cons_append, if_true, if_false, Bool.false_eq_true, Nat.reduceAdd, Nat.reduceSub, Nat.reduceLeDiff, Nat.zero_add, Bool.not_true, Bool.not_false, e]
def D.re (d : D) (ks : List D) : D := match d, ks with
  | .c n _, ks => .c n ks
  | .t _, ks => .t ks
  | .f _ _, [a, b] => .f a b
  | d, _ => d
theorem rebuilt_ok {d : D} {ks : List D} {s : Sto} {r : Nat} (hd : d.isX = false) (h0 : d.kids ≠ []) (hl : ks.length = d.kids.length) (hr : s[r]? = some (.lst (D.wL ks))) :
    FLawRebuilt [d.w, .ref r] s = some ((d.re ks).w, s) ∧ (d.re ks).kids = ks ∧ (d.re ks).isX = false ∧ ∀ ar, (∀ x ∈ ks, x.wf ar) → (d.re ks).wf ar := by
  have et : gTuple [.ref r] s = some (.tup (D.wL ks), s) := by simp only [gTuple, seqOf, hr]
  cases d with
  | bad w => cases hd
  | v n => exact absurd rfl h0
  | c n as =>
    refine ⟨?_, rfl, rfl, fun ar h => by rw [D.re, D.wf]; exact wfL_all h⟩
    unfold FLawRebuilt BLawRebuilt
    have g1 : gIx (.tup [.str "c", .int n, .tup (D.wL as)]) (.int 0) s = some (.str "c", s) := rfl
    have g2 : gIx (.tup [.str "c", .int n, .tup (D.wL as)]) (.int 1) s = some (.int n, s) := rfl
    have g3 : gEq (.str "c") (.str "c") s = some (.bl true, s) := rfl
    simp only [mkF, bd_some, bd_none, sCons, sNil, sSet, sAsg, sPar, sDo, sRet, sRetN, sIf, sPut, sAug, sBrk, sCnt, sFor, iSeq, iEnu, Mir.iRev, Mir.iRng1, Mir.iRng2, eVar, eC, eOp, eUn, eFn, eMt, aNil, aCons, eTup, eLst, eAnd, eOr, eNot, eIf, bTest, bTruth, bAnd, bOr, bNot, bYes, eSl, pNo, pAt, tgM_name, tgM_tup, tgMs_nil, tgMs_name, tgMs_tup, List.getElem?_cons_succ, List.getElem?_cons_zero, List.set_cons_succ, List.set_cons_zero, List.map_cons, List.map_nil, List.length_cons, List.length_nil, List.replicate, List.nil_append, List.cons_append, if_true, if_false, Bool.false_eq_true, Nat.reduceAdd, Nat.reduceSub, Nat.reduceLeDiff, Nat.zero_add, Bool.not_true, Bool.not_false, D.w, g1, g2, g3, et, D.re]
  | t as =>
    refine ⟨?_, rfl, rfl, fun ar h => by rw [D.re, D.wf]; exact wfL_all h⟩
    unfold FLawRebuilt BLawRebuilt
    have g1 : gIx (.tup [.str "t", .tup (D.wL as)]) (.int 0) s = some (.str "t", s) := rfl
    have g3 : gEq (.str "t") (.str "c") s = some (.bl false, s) := rfl
    have g4 : gEq (.str "t") (.str "t") s = some (.bl true, s) := rfl
    simp only [mkF, bd_some, bd_none, sCons, sNil, sSet, sAsg, sPar, sDo, sRet, sRetN, sIf, sPut, sAug, sBrk, sCnt, sFor, iSeq, iEnu, Mir.iRev, Mir.iRng1, Mir.iRng2, eVar, eC, eOp, eUn, eFn, eMt, aNil, aCons, eTup, eLst, eAnd, eOr, eNot, eIf, bTest, bTruth, bAnd, bOr, bNot, bYes, eSl, pNo, pAt, tgM_name, tgM_tup, tgMs_nil, tgMs_name, tgMs_tup, List.getElem?_cons_succ, List.getElem?_cons_zero, List.set_cons_succ, List.set_cons_zero, List.map_cons, List.map_nil, List.length_cons, List.length_nil, List.replicate, List.nil_append, List.cons_append, if_true, if_false, Bool.false_eq_true, Nat.reduceAdd, Nat.reduceSub, Nat.reduceLeDiff, Nat.zero_add, Bool.not_true, Bool.not_false, D.w, g1, g3, g4, et, D.re]
  | f a b =>
    obtain ⟨x, y, rfl⟩ : ∃ x y, ks = [x, y] := by
      match ks, hl with
      | [x, y], _ => exact ⟨x, y, rfl⟩
    refine ⟨?_, rfl, rfl, fun ar h => by rw [D.re, D.wf]; exact ⟨h x (by simp), h y (by simp)⟩⟩
    unfold FLawRebuilt BLawRebuilt
    have g1 : gIx (.tup [.str "f", a.w, b.w]) (.int 0) s = some (.str "f", s) := rfl
    have g3 : gEq (.str "f") (.str "c") s = some (.bl false, s) := rfl
    have g4 : gEq (.str "f") (.str "t") s = some (.bl false, s) := rfl
    have g5 : gIx (.ref r) (.int 0) s = some (x.w, s) := by simp only [gIx, seqOf, hr, D.wL]; rfl
    have g6 : gIx (.ref r) (.int 1) s = some (y.w, s) := by simp only [gIx, seqOf, hr, D.wL]; rfl
    simp only [mkF, bd_some, bd_none, sCons, sNil, sSet, sAsg, sPar, sDo, sRet, sRetN, sIf, sPut, sAug, sBrk, sCnt, sFor, iSeq, iEnu, Mir.iRev, Mir.iRng1, Mir.iRng2, eVar, eC, eOp, eUn, eFn, eMt, aNil, aCons, eTup, eLst, eAnd, eOr, eNot, eIf, bTest, bTruth, bAnd, bOr, bNot, bYes, eSl, pNo, pAt, tgM_name, tgM_tup, tgMs_nil, tgMs_name, tgMs_tup, List.getElem?_cons_succ, List.getElem?_cons_zero, List.set_cons_succ, List.set_cons_zero, List.map_cons, List.map_nil, List.length_cons, List.length_nil, List.replicate, List.nil_append, List.cons_append, if_true, if_false, Bool.false_eq_true, Nat.reduceAdd, Nat.reduceSub, Nat.reduceLeDiff, Nat.zero_add, Bool.not_true, Bool.not_false, D.w, g1, g3, g4, g5, g6, D.re]
theorem wL_set (d : D) : ∀ (ks : List D) (j : Nat), D.wL (ks.set j d) = (D.wL ks).set j d.w := by
  intro ks j
  rw [wL_map, wL_map, List.map_set]
theorem spoilt_ok {r : Nat} {ts : List Int} (hp : 0 < ts.length) : ∀ (n : Nat) (d : D) (s : Sto) (at_ : Int), d.nodes ar8 = true → d.dep ≤ n → d.size ≤ 90000 → s[r]? = some (.lst (ts.map W.int)) →
    ∃ (d' : D) (t : Sto), FLawSpoilt n [d.w, .ref r, .int at_] s = some (d'.w, s ++ t) ∧ d'.wf ar8 ∧ ∀ l, d'.good ar8 l = false := by
  intro n
  induction n with
  | zero => intro d s at_ _ h; have := dep_pos d; omega
  | succ n ih =>
    intro d s at_ hn hd hz ht
    have hx := nodes_isX hn
    have hk := nodesL_mem (nodes_kids hn)
    have ep := lparts_ok (s := s) hx
    have el : gLen [.tup (D.wL d.kids)] s = some (.int (d.kids.length : Int), s) := by simp [gLen, lenW, seqOf, wL_len]
    show ∃ d' t, mkF 3 7 (BLawSpoilt (FLawSpoilt n)) _ _ = _ ∧ _
    unfold BLawSpoilt
    have e3 := pick_ok (a := at_) ht hp (show (0 : Int) < 3 by decide)
    have wrong : ∃ w, FLawWrong [.int (pk ts (at_ + 1) 15)] s = some (w, s) ∧ Bad ar8 w := wrong_ok (pk_lo (by decide)) (pk_hi (by decide))
    obtain ⟨w, ew, hw⟩ := wrong
    have e15 := pick_ok (a := at_ + 1) ht hp (show (0 : Int) < 15 by decide)
    by_cases h0 : d.kids.length = 0
    · have g0 : gEq (.int (d.kids.length : Int)) (.int 0) s = some (.bl true, s) := by
        rw [h0]; rfl
      refine ⟨.bad w, [], ?_, by rw [D.wf]; exact hw, fun l => by rw [D.good]⟩
      rw [List.append_nil]
      simp only [mkF, bd_some, bd_none, sCons, sNil, sSet, sAsg, sPar, sDo, sRet, sRetN, sIf, sPut, sAug, sBrk, sCnt, sFor, iSeq, iEnu, Mir.iRev, Mir.iRng1, Mir.iRng2, eVar, eC, eOp, eUn, eFn, eMt, aNil, aCons, eTup, eLst, eAnd, eOr, eNot, eIf, bTest, bTruth, bAnd, bOr, bNot, bYes, eSl, pNo, pAt, tgM_name, tgM_tup, tgMs_nil, tgMs_name, tgMs_tup, List.getElem?_cons_succ, List.getElem?_cons_zero, List.set_cons_succ, List.set_cons_zero, List.map_cons, List.map_nil, List.length_cons, List.length_nil, List.replicate, List.nil_append, List.cons_append, if_true, if_false, Bool.false_eq_true, Nat.reduceAdd, Nat.reduceSub, Nat.reduceLeDiff, Nat.zero_add, Bool.not_true, Bool.not_false, ep, el, g0, addI, e15, ew, D.w]
    · have g0 : gEq (.int (d.kids.length : Int)) (.int 0) s = some (.bl false, s) := by
        simp only [gEq, eqW, sEq, decide_eq_false (show ¬ (d.kids.length : Int) = 0 by omega)]
      by_cases h3 : pk ts at_ 3 = 0
      · have g3 : gEq (.int (pk ts at_ 3)) (.int 0) s = some (.bl true, s) := by rw [h3]; rfl
        refine ⟨.bad w, [], ?_, by rw [D.wf]; exact hw, fun l => by rw [D.good]⟩
        rw [List.append_nil]
        simp only [mkF, bd_some, bd_none, sCons, sNil, sSet, sAsg, sPar, sDo, sRet, sRetN, sIf, sPut, sAug, sBrk, sCnt, sFor, iSeq, iEnu, Mir.iRev, Mir.iRng1, Mir.iRng2, eVar, eC, eOp, eUn, eFn, eMt, aNil, aCons, eTup, eLst, eAnd, eOr, eNot, eIf, bTest, bTruth, bAnd, bOr, bNot, bYes, eSl, pNo, pAt, tgM_name, tgM_tup, tgMs_nil, tgMs_name, tgMs_tup, List.getElem?_cons_succ, List.getElem?_cons_zero, List.set_cons_succ, List.set_cons_zero, List.map_cons, List.map_nil, List.length_cons, List.length_nil, List.replicate, List.nil_append, List.cons_append, if_true, if_false, Bool.false_eq_true, Nat.reduceAdd, Nat.reduceSub, Nat.reduceLeDiff, Nat.zero_add, Bool.not_true, Bool.not_false, ep, el, g0, g3, e3, addI, e15, ew, D.w]
      · have g3 : gEq (.int (pk ts at_ 3)) (.int 0) s = some (.bl false, s) := by
          simp only [gEq, eqW, sEq, decide_eq_false h3]
        have l0 : (0 : Int) < (d.kids.length : Int) := by omega
        have ec := pick_ok (a := at_ + 2) ht hp l0
        have c0 := pk_lo (ts := ts) (a := at_ + 2) l0
        have c1 := pk_hi (ts := ts) (a := at_ + 2) l0
        generalize pk ts (at_ + 2) (d.kids.length : Int) = ch at ec c0 c1
        obtain ⟨j, rfl⟩ : ∃ j : Nat, ch = (j : Int) := ⟨ch.toNat, (Int.toNat_of_nonneg c0).symm⟩
        have hj : j < d.kids.length := by omega
        have hm : d.kids[j] ∈ d.kids := List.getElem_mem hj
        have hjd := depL_mem hm
        have hjs : d.kids[j].size ≤ D.sizeL d.kids := by
          have : ∀ (ds : List D) (x : D), x ∈ ds → x.size ≤ D.sizeL ds := by
            intro ds
            induction ds with
            | nil => intro x h; cases h
            | cons y r ihr =>
              intro x h
              rw [D.sizeL]
              rcases List.mem_cons.mp h with rfl | h
              · omega
              · have := ihr x h; omega
          exact this _ _ hm
        have hlz := lenL_size d.kids
        rw [dep_kids] at hd
        rw [size_kids] at hz
        obtain ⟨d', t, e1, h1, h2⟩ := ih d.kids[j] (s ++ [.lst (D.wL d.kids)]) (at_ + 3) (hk _ hm) (by omega) (by omega) (gapp ht)
        have hkl : (d.kids.set j d').length = d.kids.length := List.length_set
        have es : s ++ [O.lst (D.wL d.kids)] ++ t = s ++ O.lst (D.wL d.kids) :: t := by simp
        obtain ⟨e2, k1, k2, k3⟩ := rebuilt_ok (s := s ++ O.lst (D.wL (d.kids.set j d')) :: t) (r := s.length) (ks := d.kids.set j d') hx (fun h => h0 (by rw [h]; rfl)) hkl gmid
        refine ⟨d.re (d.kids.set j d'), .lst (D.wL (d.kids.set j d')) :: t, ?_, k3 ar8 fun x hx' => ?_, fun l => good_bad (x := d') (by
          rw [k1]
          exact List.mem_iff_getElem?.mpr ⟨j, by simp [hj]⟩) k2 (h2 _)⟩
        · have gi : ∀ s, gIx (.tup (D.wL d.kids)) (.int (j : Int)) s = some (d.kids[j].w, s) := fun s => by
            have : (D.wL d.kids)[j]? = some d.kids[j].w := by rw [wL_map]; simp [hj]
            simp only [gIx, seqOf, atI_nat this]
          have gs : setAt (.ref s.length) (.int (j : Int)) d'.w (s ++ O.lst (D.wL d.kids) :: t) = some (s ++ O.lst (D.wL (d.kids.set j d')) :: t) := by
            have hix : ixN (D.wL d.kids).length (j : Int) = some j := by
              simp only [ixN, wL_len]
              rw [if_pos (by omega)]
              simp [hj]
            simp only [setAt, gmid, hix, smid, wL_set]
          have hw1 : (D.wL d.kids).length ≤ 100000 := by rw [wL_len]; omega
          simp only [mkF, bd_some, bd_none, sCons, sNil, sSet, sAsg, sPar, sDo, sRet, sRetN, sIf, sPut, sAug, sBrk, sCnt, sFor, iSeq, iEnu, Mir.iRev, Mir.iRng1, Mir.iRng2, eVar, eC, eOp, eUn, eFn, eMt, aNil, aCons, eTup, eLst, eAnd, eOr, eNot, eIf, bTest, bTruth, bAnd, bOr, bNot, bYes, eSl, pNo, pAt, tgM_name, tgM_tup, tgMs_nil, tgMs_name, tgMs_tup, List.getElem?_cons_succ, List.getElem?_cons_zero, List.set_cons_succ, List.set_cons_zero, List.map_cons, List.map_nil, List.length_cons, List.length_nil, List.replicate, List.nil_append, List.cons_append, if_true, if_false, Bool.false_eq_true, Nat.reduceAdd, Nat.reduceSub, Nat.reduceLeDiff, Nat.zero_add, Bool.not_true, Bool.not_false, ep, el, g0, g3, e3, addI, ec, eLc, chkOf, lstOf, hw1]
          have lc := lcf_id (s := s) (a0 := some d.w) (a1 := some (.ref r)) (a2 := some (.int at_)) (a3 := some (.tup (D.wL d.kids))) (a4 := some (.int (j : Int))) (a5 := none) (D.wL d.kids) none
          have wp : wipeM [some d.w, some (.ref r), some (.int at_), some (.tup (D.wL d.kids)), some (.int (j : Int)), none, none] [6] = [some d.w, some (.ref r), some (.int at_), some (.tup (D.wL d.kids)), some (.int (j : Int)), none, none] := rfl
          simp only [mkF, bd_some, bd_none, sCons, sNil, sSet, sAsg, sPar, sDo, sRet, sRetN, sIf, sPut, sAug, sBrk, sCnt, sFor, iSeq, iEnu, Mir.iRev, Mir.iRng1, Mir.iRng2, eVar, eC, eOp, eUn, eFn, eMt, aNil, aCons, eTup, eLst, eAnd, eOr, eNot, eIf, bTest, bTruth, bAnd, bOr, bNot, bYes, eSl, pNo, pAt, tgM_name, tgM_tup, tgMs_nil, tgMs_name, tgMs_tup, List.getElem?_cons_succ, List.getElem?_cons_zero, List.set_cons_succ, List.set_cons_zero, List.map_cons, List.map_nil, List.length_cons, List.length_nil, List.replicate, List.nil_append, List.cons_append, if_true, if_false, Bool.false_eq_true, Nat.reduceAdd, Nat.reduceSub, Nat.reduceLeDiff, Nat.zero_add, Bool.not_true, Bool.not_false, wp, lc, gi, addI, e1, es, gs, e2]
        · rcases List.mem_or_eq_of_mem_set hx' with h | rfl
          · exact nodes_wf _ x (Nat.le_refl _) (hk x h)
          · exact h1
/-! ### many nodes -/
theorem lnodes_ok {s : Sto} : ∀ (n m : Nat), 1 ≤ m → m < 2 ^ n → ∃ d : D, FLawNodes n [.int (m : Int)] s = some (d.w, s) ∧ d.nodes ar8 = true ∧ d.size = m ∧ d.dep ≤ n + 1 := by
  intro n
  induction n with
  | zero => intro m h1 h2; have : (2 : Nat) ^ 0 = 1 := rfl; omega
  | succ n ih =>
    intro m h1 h2
    show ∃ d : D, mkF 1 2 (BLawNodes (FLawNodes n)) _ _ = _ ∧ _
    unfold BLawNodes
    by_cases m1 : m = 1
    · subst m1
      refine ⟨.c 2 [], ?_, rfl, rfl, by simp [D.dep, D.depL]⟩
      have g1 : gEq (.int ((1 : Nat) : Int)) (.int 1) s = some (.bl true, s) := rfl
      simp only [mkF, bd_some, bd_none, sCons, sNil, sSet, sAsg, sPar, sDo, sRet, sRetN, sIf, sPut, sAug, sBrk, sCnt, sFor, iSeq, iEnu, Mir.iRev, Mir.iRng1, Mir.iRng2, eVar, eC, eOp, eUn, eFn, eMt, aNil, aCons, eTup, eLst, eAnd, eOr, eNot, eIf, bTest, bTruth, bAnd, bOr, bNot, bYes, eSl, pNo, pAt, tgM_name, tgM_tup, tgMs_nil, tgMs_name, tgMs_tup, List.getElem?_cons_succ, List.getElem?_cons_zero, List.set_cons_succ, List.set_cons_zero, List.map_cons, List.map_nil, List.length_cons, List.length_nil, List.replicate, List.nil_append, List.cons_append, if_true, if_false, Bool.false_eq_true, Nat.reduceAdd, Nat.reduceSub, Nat.reduceLeDiff, Nat.zero_add, Bool.not_true, Bool.not_false, g1, D.w, D.wL]
    · have g1 : gEq (.int (m : Int)) (.int 1) s = some (.bl false, s) := by
        simp only [gEq, eqW, sEq, decide_eq_false (show ¬ (m : Int) = 1 by omega)]
      by_cases m2 : m = 2
      · subst m2
        have hn : n ≠ 0 := fun h => by subst h; revert h2; decide
        refine ⟨.c 5 [.c 7 []], ?_, by decide, rfl, by simp only [D.dep, D.depL]; omega⟩
        have g2 : gEq (.int ((2 : Nat) : Int)) (.int 2) s = some (.bl true, s) := rfl
        simp only [mkF, bd_some, bd_none, sCons, sNil, sSet, sAsg, sPar, sDo, sRet, sRetN, sIf, sPut, sAug, sBrk, sCnt, sFor, iSeq, iEnu, Mir.iRev, Mir.iRng1, Mir.iRng2, eVar, eC, eOp, eUn, eFn, eMt, aNil, aCons, eTup, eLst, eAnd, eOr, eNot, eIf, bTest, bTruth, bAnd, bOr, bNot, bYes, eSl, pNo, pAt, tgM_name, tgM_tup, tgMs_nil, tgMs_name, tgMs_tup, List.getElem?_cons_succ, List.getElem?_cons_zero, List.set_cons_succ, List.set_cons_zero, List.map_cons, List.map_nil, List.length_cons, List.length_nil, List.replicate, List.nil_append, List.cons_append, if_true, if_false, Bool.false_eq_true, Nat.reduceAdd, Nat.reduceSub, Nat.reduceLeDiff, Nat.zero_add, Bool.not_true, Bool.not_false, g1, g2, D.w, D.wL]
      · have g2 : gEq (.int (m : Int)) (.int 2) s = some (.bl false, s) := by
          simp only [gEq, eqW, sEq, decide_eq_false (show ¬ (m : Int) = 2 by omega)]
        have hp : 2 ^ (n + 1) = 2 * 2 ^ n := by rw [Nat.pow_succ, Nat.mul_comm]
        obtain ⟨d1, e1, n1, s1, p1⟩ := ih ((m - 1) / 2) (by omega) (by omega)
        obtain ⟨d2, e2, n2, s2, p2⟩ := ih (m - 1 - (m - 1) / 2) (by omega) (by omega)
        refine ⟨.f d1 d2, ?_, by rw [D.nodes, n1, n2]; rfl, by rw [D.size, s1, s2]; omega, by rw [D.dep]; omega⟩
        have g3 : gSub (.int (m : Int)) (.int 1) s = some (.int ((m - 1 : Nat) : Int), s) := by
          show some (W.int ((m : Int) - 1), s) = _
          have : (m : Int) - 1 = ((m - 1 : Nat) : Int) := by omega
          rw [this]
        have g4 : gDiv (.int ((m - 1 : Nat) : Int)) (.int 2) s = some (.int (((m - 1) / 2 : Nat) : Int), s) := by
          rw [divR (by decide) (by decide)]
          rfl
        have g5 : gSub (.int ((m - 1 : Nat) : Int)) (.int (((m - 1) / 2 : Nat) : Int)) s = some (.int ((m - 1 - (m - 1) / 2 : Nat) : Int), s) := by
          show some (W.int (((m - 1 : Nat) : Int) - (((m - 1) / 2 : Nat) : Int)), s) = _
          have : ((m - 1 : Nat) : Int) - (((m - 1) / 2 : Nat) : Int) = ((m - 1 - (m - 1) / 2 : Nat) : Int) := by omega
          rw [this]
        simp only [mkF, bd_some, bd_none, sCons, sNil, sSet, sAsg, sPar, sDo, sRet, sRetN, sIf, sPut, sAug, sBrk, sCnt, sFor, iSeq, iEnu, Mir.iRev, Mir.iRng1, Mir.iRng2, eVar, eC, eOp, eUn, eFn, eMt, aNil, aCons, eTup, eLst, eAnd, eOr, eNot, eIf, bTest, bTruth, bAnd, bOr, bNot, bYes, eSl, pNo, pAt, tgM_name, tgM_tup, tgMs_nil, tgMs_name, tgMs_tup, List.getElem?_cons_succ, List.getElem?_cons_zero, List.set_cons_succ, List.set_cons_zero, List.map_cons, List.map_nil, List.length_cons, List.length_nil, List.replicate, List.nil_append, List.cons_append, if_true, if_false, Bool.false_eq_true, Nat.reduceAdd, Nat.reduceSub, Nat.reduceLeDiff, Nat.zero_add, Bool.not_true, Bool.not_false, g1, g2, g3, g4, g5, e1, e2, D.w]
end K10

set_option Elab.async false
set_option linter.all false
set_option maxRecDepth 100000
namespace K10
open PySem PySem.Spec PyProof.Rows L2 Mir
/-! ### the law's other helpers -/
def ar11 : List Int := ar8 ++ [2, 0, 4]
theorem few8 : ∀ a ∈ ar8, a ≤ 10 := by decide
theorem few11 : ∀ a ∈ ar11, a ≤ 10 := by decide
theorem node_more {ar e : List Int} {d : D} (h : d.node ar = true) : d.node (ar ++ e) = true := by
  cases d with
  | v n => exact h
  | t as => exact h
  | f a b => rfl
  | bad w => exact h
  | c s as =>
    simp only [D.node, Bool.and_eq_true, decide_eq_true_eq] at h ⊢
    obtain ⟨⟨h0, h1⟩, h2⟩ := h
    refine ⟨⟨h0, by rw [List.length_append]; omega⟩, ?_⟩
    rw [List.getElem?_append_left (by omega)]
    exact h2
theorem nodes_more {ar e : List Int} : ∀ (n : Nat) (d : D), d.dep ≤ n → d.nodes ar = true → d.nodes (ar ++ e) = true := by
  intro n
  induction n with
  | zero => intro d h; have := dep_pos d; omega
  | succ n ih =>
    intro d h hn
    have hk := nodesL_mem (nodes_kids hn)
    have h1 := node_more (e := e) (nodes_node hn)
    have h2 : ∀ x ∈ d.kids, x.nodes (ar ++ e) = true := fun x hx => ih x (by
      have := depL_mem hx
      rw [dep_kids] at h
      omega) (hk x hx)
    cases d with
    | v n => rw [D.nodes]; exact h1
    | c s as => rw [D.nodes, h1, nodesL_all _ (ds := as) h2]; rfl
    | t as => rw [D.nodes, h1, nodesL_all _ (ds := as) h2]; rfl
    | f a b => rw [D.nodes, h2 a (by simp [D.kids]), h2 b (by simp [D.kids])]; rfl
    | bad w => rw [D.nodes] at hn; cases hn
def items (d : D) : List D := [d, .c 8 [d, .v 1000002], .c 10 [d, d, d, d], .c 7 [], .c 9 [], .c 2 []]
theorem items_ok {d : D} (h : Sh 2 d) : ∀ x ∈ items d, x.nodes ar11 = true ∧ x.dep ≤ 4 ∧ x.size ≤ 100 := by
  have h1 := nodes_more (e := [2, 0, 4]) _ d (Nat.le_refl _) h.nodes
  have h2 := h.dep
  have h3 : d.size ≤ 21 := h.size
  have h1 : d.nodes ar11 = true := h1
  intro x hx
  simp only [items, List.mem_cons, List.not_mem_nil, or_false] at hx
  rcases hx with rfl | rfl | rfl | rfl | rfl | rfl
  · exact ⟨h1, by omega, by omega⟩
  · refine ⟨?_, by simp only [D.dep, D.depL]; omega, by simp only [D.size, D.sizeL]; omega⟩
    have hn : (D.c 8 [d, D.v 1000002]).node ar11 = true := by rw [D.node]; exact rfl
    simp only [D.nodes, D.nodesL, h1, hn]
    rfl
  · refine ⟨?_, by simp only [D.dep, D.depL]; omega, by simp only [D.size, D.sizeL]; omega⟩
    have hn : (D.c 10 [d, d, d, d]).node ar11 = true := by rw [D.node]; exact rfl
    simp only [D.nodes, D.nodesL, h1, hn]
    rfl
  · exact ⟨by decide, by decide, by decide⟩
  · exact ⟨by decide, by decide, by decide⟩
  · exact ⟨by decide, by decide, by decide⟩
theorem wide_ok {d : D} {s : Sto} {r : Nat} {ts : List Int} {at_ : Int} (ht : s[r]? = some (.lst (ts.map W.int))) (hp : 0 < ts.length) (h : Sh 2 d) :
    ∃ (dw : D) (t : Sto), FLawWide [d.w, .ref r, .int at_] s = some (dw.w, s ++ t) ∧ dw.nodes ar11 = true ∧ dw.good ar8 1 = false ∧ dw.dep ≤ 5 ∧ dw.size ≤ 700 := by
  have l5 : (0 : Int) < 5 := by decide
  have ep := pick_ok (a := at_) (gapp (t := [.lst (D.wL (items d))]) ht) hp l5
  have p0 := pk_lo (ts := ts) (a := at_) l5
  have p1 := pk_hi (ts := ts) (a := at_) l5
  generalize pk ts at_ 5 = p at ep p0 p1
  obtain ⟨m, hm⟩ : ∃ m : Nat, 2 + p = (m : Int) := ⟨(2 + p).toNat, by omega⟩
  have hi := items_ok h
  have hl : (items d).length = 6 := rfl
  have htl : ((items d).take m).length = m := by rw [List.length_take, hl]; omega
  have hmem : ∀ x ∈ (items d).take m, x ∈ items d := fun x hx => List.mem_of_mem_take hx
  refine ⟨.t ((items d).take m), [.lst (D.wL (items d)), .lst (D.wL ((items d).take m))], ?_, ?_, ?_, ?_, ?_⟩
  · have e1 : gSlA (.ref s.length) none (some (m : Int)) (s ++ [.lst (D.wL (items d))]) = some (.ref (s.length + 1), s ++ [.lst (D.wL (items d)), .lst (D.wL ((items d).take m))]) := by
      have el : lstOf (.ref s.length) (s ++ [.lst (D.wL (items d))]) = some (D.wL (items d)) := by simp [lstOf]
      have ew : D.wL ((items d).take m) = (D.wL (items d)).take m := by rw [wL_map, wL_map, List.map_take]
      have hw : (D.wL (items d)).length = 6 := by rw [wL_len]; rfl
      simp only [gSlA, el, HT.sIx_none, HT.sIx_nat, hw, List.drop_zero, Nat.sub_zero]
      rw [show min m 6 = m by omega, ew]
      simp
    have e2 : gTuple [.ref (s.length + 1)] (s ++ [.lst (D.wL (items d)), .lst (D.wL ((items d).take m))]) = some (.tup (D.wL ((items d).take m)), s ++ [.lst (D.wL (items d)), .lst (D.wL ((items d).take m))]) := by
      simp [gTuple, seqOf]
    have e3 : Mir.gMul (.tup [d.w]) (.int 4) s = some (.tup [d.w, d.w, d.w, d.w], s) := rfl
    have e4 : D.wL (items d) = [d.w, W.tup [.str "c", .int 8, .tup [d.w, .tup [.str "v", .int 1000002]]], W.tup [.str "c", .int 10, .tup [d.w, d.w, d.w, d.w]], W.tup [.str "c", .int 7, .tup []], W.tup [.str "c", .int 9, .tup []], W.tup [.str "c", .int 2, .tup []]] := by
      simp only [items, D.wL, D.w]
    rw [e4] at e1 e2 ep
    rw [e4]
    unfold FLawWide BLawWide
    simp only [mkF, bd_some, bd_none, sCons, sNil, sSet, sAsg, sPar, sDo, sRet, sRetN, sIf, sPut, sAug, sBrk, sCnt, sFor, iSeq, iEnu, Mir.iRev, Mir.iRng1, Mir.iRng2, eVar, eC, eOp, eUn, eFn, eMt, aNil, aCons, eTup, eLst, eAnd, eOr, eNot, eIf, bTest, bTruth, bAnd, bOr, bNot, bYes, eSl, pNo, pAt, tgM_name, tgM_tup, tgMs_nil, tgMs_name, tgMs_tup, List.getElem?_cons_succ, List.getElem?_cons_zero, List.set_cons_succ, List.set_cons_zero, List.map_cons, List.map_nil, List.length_cons, List.length_nil, List.replicate, List.nil_append, List.cons_append, if_true, if_false, Bool.false_eq_true, Nat.reduceAdd, Nat.reduceSub, Nat.reduceLeDiff, Nat.zero_add, Bool.not_true, Bool.not_false, e3, ep, addI, hm, e1, e2]
    rw [D.w]
  · have hn : (D.t ((items d).take m)).node ar11 = true := by
      simp only [D.node, htl]
      rw [decide_eq_true (by omega), decide_eq_true (by omega)]
      rfl
    rw [D.nodes, hn, nodesL_all _ fun x hx => (hi x (hmem x hx)).1]
    rfl
  · refine good_bad (x := .c 8 [d, .v 1000002]) ?_ rfl ?_
    · show _ ∈ (items d).take m
      rw [List.mem_iff_getElem?]
      exact ⟨1, by rw [List.getElem?_take_of_lt (by omega)]; rfl⟩
    · rw [D.good]
      have hn : (D.c 8 [d, D.v 1000002]).node ar8 = false := by rw [D.node]; exact rfl
      rw [hn, Bool.and_false, Bool.false_and]
  · have := depL_le fun x hx => (hi x (hmem x hx)).2.1
    rw [D.dep]
    omega
  · have h3 := sizeL_le fun x hx => (hi x (hmem x hx)).2.2
    rw [htl] at h3
    rw [D.size]
    omega
theorem consts_ok {s : Sto} : FLawConstants [] s = some (.bl true, s) := by
  have g1 : gNe (.int 1000000) (.int 1000000) s = some (.bl false, s) := rfl
  have g2 : gNe (.int 2000) (.int 2000) s = some (.bl false, s) := rfl
  have g3 : gNe (.int 100) (.int 100) s = some (.bl false, s) := rfl
  have g4 : gNe (.tup [(.int 0), (.int 0), (.int 0), (.int 1), (.int 0), (.int 1), (.int 1), (.int 0)]) (.tup [(.int 0), (.int 0), (.int 0), (.int 1), (.int 0), (.int 1), (.int 1), (.int 0)]) s = some (.bl false, s) := by
    have : eqW s (.tup [(.int 0), (.int 0), (.int 0), (.int 1), (.int 0), (.int 1), (.int 1), (.int 0)]) (.tup [(.int 0), (.int 0), (.int 0), (.int 1), (.int 0), (.int 1), (.int 1), (.int 0)]) = some true := by
      simp only [eqW, sEq, datEq, pyS, pyW, pyWs, Option.map_some]
      rw [if_pos (by decide)]
      rfl
    simp only [gNe, this]
    rfl
  have g5 : gEq (.tup [.tup [.str "c", .int 0, .tup []], .tup [.str "c", .int 1, .tup []], .tup [.str "c", .int 2, .tup []], .tup [.str "c", .int 4, .tup []]]) (.tup [.tup [.str "c", .int 0, .tup []], .tup [.str "c", .int 1, .tup []], .tup [.str "c", .int 2, .tup []], .tup [.str "c", .int 4, .tup []]]) s = some (.bl true, s) := by
    have : eqW s (.tup [.tup [.str "c", .int 0, .tup []], .tup [.str "c", .int 1, .tup []], .tup [.str "c", .int 2, .tup []], .tup [.str "c", .int 4, .tup []]]) (.tup [.tup [.str "c", .int 0, .tup []], .tup [.str "c", .int 1, .tup []], .tup [.str "c", .int 2, .tup []], .tup [.str "c", .int 4, .tup []]]) = some true := by
      simp only [eqW, sEq, datEq, pyS, pyW, pyWs, Option.map_some]
      rw [if_pos (by decide +kernel)]
      rfl
    simp only [gEq, this]
  unfold FLawConstants BLawConstants
  simp only [mkF, bd_some, bd_none, sCons, sNil, sSet, sAsg, sPar, sDo, sRet, sRetN, sIf, sPut, sAug, sBrk, sCnt, sFor, iSeq, iEnu, Mir.iRev, Mir.iRng1, Mir.iRng2, eVar, eC, eOp, eUn, eFn, eMt, aNil, aCons, eTup, eLst, eAnd, eOr, eNot, eIf, bTest, bTruth, bAnd, bOr, bNot, bYes, eSl, pNo, pAt, tgM_name, tgM_tup, tgMs_nil, tgMs_name, tgMs_tup, List.getElem?_cons_succ, List.getElem?_cons_zero, List.set_cons_succ, List.set_cons_zero, List.map_cons, List.map_nil, List.length_cons, List.length_nil, List.replicate, List.nil_append, List.cons_append, if_true, if_false, Bool.false_eq_true, Nat.reduceAdd, Nat.reduceSub, Nat.reduceLeDiff, Nat.zero_add, Bool.not_true, Bool.not_false, g1, g2, g3, g4, g5]
theorem same_ok {n : Nat} {s : Sto} : FLawSame [.int (n : Int), .int (n : Int)] s = some (.bl true, s) := by
  have g : gEq (.int (n : Int)) (.int (n : Int)) s = some (.bl true, s) := by simp only [gEq, eqW, sEq, decide_true]
  have i1 : isiT "int" "int" = true := by decide
  have i2 : isiT "int" "bool" = false := by decide
  unfold FLawSame BLawSame
  simp only [mkF, bd_some, bd_none, sCons, sNil, sSet, sAsg, sPar, sDo, sRet, sRetN, sIf, sPut, sAug, sBrk, sCnt, sFor, iSeq, iEnu, Mir.iRev, Mir.iRng1, Mir.iRng2, eVar, eC, eOp, eUn, eFn, eMt, aNil, aCons, eTup, eLst, eAnd, eOr, eNot, eIf, bTest, bTruth, bAnd, bOr, bNot, bYes, eSl, pNo, pAt, tgM_name, tgM_tup, tgMs_nil, tgMs_name, tgMs_tup, List.getElem?_cons_succ, List.getElem?_cons_zero, List.set_cons_succ, List.set_cons_zero, List.map_cons, List.map_nil, List.length_cons, List.length_nil, List.replicate, List.nil_append, List.cons_append, if_true, if_false, Bool.false_eq_true, Nat.reduceAdd, Nat.reduceSub, Nat.reduceLeDiff, Nat.zero_add, Bool.not_true, Bool.not_false, eIsi, tyW, i1, i2, truW, g]
/-! ### the chain -/
def chain : Nat → D
  | 0 => .v 1000003
  | m + 1 => .f c0 (chain m)
theorem chain_size : ∀ m, (chain m).size = 1 + 2 * m
  | 0 => rfl
  | m + 1 => by rw [chain, D.size, chain_size m]; have : c0.size = 1 := rfl; omega
theorem chain_nodes : ∀ m, (chain m).nodes ar8 = true
  | 0 => rfl
  | m + 1 => by rw [chain, D.nodes, chain_nodes m]; rfl
theorem chain_good : ∀ (m l : Nat), (chain m).good ar8 l = decide (l + m ≤ 100)
  | 0, l => by
    have : (D.v 1000003).node ar8 = true := rfl
    rw [chain, D.good, this, Bool.and_true, Nat.add_zero]
  | m + 1, l => by
    have h : c0.good ar8 (l + 1) = decide (l + 1 ≤ 100) := by
      have : (D.c 0 []).node ar8 = true := by decide
      rw [c0, D.good, this, D.goodL, Bool.and_true, Bool.and_true]
    rw [chain, D.good, chain_good m (l + 1), h, Bool.eq_iff_iff]
    simp only [Bool.and_eq_true, decide_eq_true_eq, and_true]
    omega
theorem chain_go {s : Sto} {y0 y1 y2 y4 y5 y7 y8 y9 : Option W} : ∀ (xs : List W) (m : Nat) (y6 : Option W),
    ∃ y6', fo (.name 6) (sSet 3 (eTup (aCons (eC (.str "f")) (aCons (eTup (aCons (eC (.str "c")) (aCons (eC (.int 0)) (aCons (eTup aNil) aNil)))) (aCons (eVar 3) aNil))))) none xs [y0, y1, y2, some (chain m).w, y4, y5, y6, y7, y8, y9] s
      = some (.nx [y0, y1, y2, some (chain (m + xs.length)).w, y4, y5, y6', y7, y8, y9], s)
  | [], m, y6 => ⟨y6, by rw [fo, if_pos (show okc none _ from trivial)]; rfl⟩
  | x :: xs, m, y6 => by
    obtain ⟨y6', e⟩ := chain_go (s := s) (y0 := y0) (y1 := y1) (y2 := y2) (y4 := y4) (y5 := y5) (y7 := y7) (y8 := y8) (y9 := y9) xs (m + 1) (some x)
    refine ⟨y6', ?_⟩
    have e1 : m + 1 + xs.length = m + (x :: xs).length := by rw [List.length_cons]; omega
    have e2 : (chain (m + 1)).w = .tup [.str "f", .tup [.str "c", .int 0, .tup []], (chain m).w] := by
      rw [chain, D.w, c0, D.w, D.wL]
    rw [e1, e2] at e
    rw [fo, if_pos (show okc none _ from trivial)]
    simp only [mkF, bd_some, bd_none, sCons, sNil, sSet, sAsg, sPar, sDo, sRet, sRetN, sIf, sPut, sAug, sBrk, sCnt, sFor, iSeq, iEnu, Mir.iRev, Mir.iRng1, Mir.iRng2, eVar, eC, eOp, eUn, eFn, eMt, aNil, aCons, eTup, eLst, eAnd, eOr, eNot, eIf, bTest, bTruth, bAnd, bOr, bNot, bYes, eSl, pNo, pAt, tgM_name, tgM_tup, tgMs_nil, tgMs_name, tgMs_tup, List.getElem?_cons_succ, List.getElem?_cons_zero, List.set_cons_succ, List.set_cons_zero, List.map_cons, List.map_nil, List.length_cons, List.length_nil, List.replicate, List.nil_append, List.cons_append, if_true, if_false, Bool.false_eq_true, Nat.reduceAdd, Nat.reduceSub, Nat.reduceLeDiff, Nat.zero_add, Bool.not_true, Bool.not_false, ]
    exact e
/-! ### equal lists of numbers -/
theorem eqv_ints : ∀ ns : List Int, PyData.eqvAll (ns.map PyData.int) (ns.map PyData.int) = true
  | [] => rfl
  | n :: ns => by simp only [List.map_cons, PyData.eqvAll, PyData.eqv, eqv_ints ns, beq_self_eq_true, Bool.and_self]
theorem lay_ints : ∀ ns : List Int, PyData.canLayAll0 (ns.map PyData.int) = true
  | [] => rfl
  | n :: ns => by simp only [List.map_cons, PyData.canLayAll0, PyData.canLay0, lay_ints ns, Bool.and_self]
theorem dep_ints : ∀ ns : List Int, PyData.depthAll (ns.map PyData.int) ≤ 1
  | [] => by simp [PyData.depthAll]
  | n :: ns => by
    have := dep_ints ns
    simp only [List.map_cons, PyData.depthAll, PyData.depth]
    omega
theorem mapM_ints (s : Sto) : ∀ ns : List Int, (ns.map W.int).mapM (pyS s 2) = some (ns.map PyData.int)
  | [] => rfl
  | n :: ns => by
    rw [List.map_cons, List.mapM_cons, mapM_ints s ns]
    simp [pyS, pyW]
theorem ne_ints {s : Sto} {a b : Nat} {ns : List Int} (ha : s[a]? = some (.lst (ns.map W.int))) (hb : s[b]? = some (.lst (ns.map W.int))) : gNe (.ref a) (.ref b) s = some (.bl false, s) := by
  have h : eqW s (.ref a) (.ref b) = some true := by
    have hs : SeqAt.shaped (.list (ns.map PyData.int)) = true := by
      have := dep_ints ns
      have hd : (PyData.list (ns.map PyData.int)).depth ≤ 64 := by rw [PyData.depth]; omega
      simp only [SeqAt.shaped, PyData.canLay0, lay_ints, Bool.true_and, decide_eq_true hd]
    simp only [eqW, sEq, datEq, pyS, ha, hb, mapM_ints, Option.map_some, hs, and_self, if_true, PyData.eqv, eqv_ints]
  simp only [gNe, h]
  rfl
theorem vars_size : ∀ (n : Nat) (d : D), d.dep ≤ n → d.vars.length ≤ d.size := by
  intro n
  induction n with
  | zero => intro d h; have := dep_pos d; omega
  | succ n ih =>
    intro d h
    have hl : ∀ ds : List D, (∀ x ∈ ds, x.vars.length ≤ x.size) → (D.varsL ds).length ≤ D.sizeL ds := by
      intro ds
      induction ds with
      | nil => intro _; exact Nat.le_refl _
      | cons x r ihr =>
        intro hx
        have h1 := hx x List.mem_cons_self
        have h2 := ihr fun y hy => hx y (List.mem_cons_of_mem _ hy)
        rw [D.varsL, D.sizeL, List.length_append]
        omega
    have h1 := hl d.kids fun x hx => ih x (by
      have := depL_mem hx
      rw [dep_kids] at h
      omega)
    have h2 := one_le d
    rw [vars_kids, size_kids, List.length_append]
    omega
end K10

set_option Elab.async false
set_option linter.all false
set_option maxRecDepth 100000
namespace K10
open PySem PySem.Spec PyProof.Rows L2 Mir
theorem shape_chk {ar : List Int} (ha : ∀ a ∈ ar, a ≤ 10) {s : Sto} {d : D} (hd : d.wf ar) : ∃ t, FIsShape [d.w, arW ar] s = some (.bl (d.good ar 1 && decide (d.size ≤ 2000)), s ++ t) := isShape_ok ha hd
theorem rng0 {f : FE} {ρ : EnvM} {s s1 : Sto} {j : Int} (h : f ρ s = some (.int j, s1)) (h2 : -(2 ^ 62) ≤ j ∧ j < 2 ^ 62) : Mir.iRng1 f ρ s = some (((List.range j.toNat).map fun (i : Nat) => W.int (0 + (i : Int)), none), s1) := by
  unfold Mir.iRng1
  rw [h, bd_some]
  simp only [h2, and_self, if_true]
theorem rng1 {f : FE} {ρ : EnvM} {s s1 : Sto} {m : Nat} (h : f ρ s = some (.int (m : Int), s1)) (h1 : m < 1000) : Mir.iRng1 f ρ s = some (((List.range m).map fun (i : Nat) => W.int (0 + (i : Int)), none), s1) := by
  have e := rng0 h (by omega)
  rw [Int.toNat_natCast] at e
  exact e
noncomputable def chainB : FS := (sCons (sSet 5 (eOp gAdd (eC (.int 90)) (eFn FLawPick (aCons (eVar 2) (aCons (eOp gAdd (eVar 4) (eC (.int 1))) (aCons (eC (.int 21)) aNil))))))
    (sCons (sSet 3 (eTup (aCons (eC (.str "v")) (aCons (eC (.int 1000003)) aNil))))
    (sCons (sFor (Mir.iRng1 (eOp gSub (eVar 5) (eC (.int 1)))) (.name 6) (sSet 3 (eTup (aCons (eC (.str "f")) (aCons (eTup (aCons (eC (.str "c")) (aCons (eC (.int 0)) (aCons (eTup aNil) aNil)))) (aCons (eVar 3) aNil))))))
    (sRet (eOp gEq (eFn FIsShape (aCons (eVar 3) (aCons (eVar 1) aNil))) (eOp gLe (eVar 5) (eC (.int 100))))))))
theorem chain_part {ts : List Int} {s3 : Sto} {at1 : Int} {y0 x3 : Option W} (hp : 0 < ts.length) (ht3 : s3[2]? = some (.lst (ts.map W.int))) :
    ∃ s', chainB [y0, some (.tup [.int 0, .int 0, .int 0, .int 1, .int 0, .int 1, .int 1, .int 0]), some (.ref 2), x3, some (.int at1), none, none, none, none, none] s3 = some (.rt (.bl true), s') := by
  have e21 := pick_ok (a := at1 + 1) ht3 hp (show (0 : Int) < 21 by decide)
  have q0 := pk_lo (ts := ts) (a := at1 + 1) (show (0 : Int) < 21 by decide)
  have q1 := pk_hi (ts := ts) (a := at1 + 1) (show (0 : Int) < 21 by decide)
  generalize pk ts (at1 + 1) 21 = q at e21 q0 q1
  obtain ⟨m, hm⟩ : ∃ m : Nat, 90 + q = ((m + 1 : Nat) : Int) := ⟨(90 + q - 1).toNat, by omega⟩
  have gs : gSub (.int ((m + 1 : Nat) : Int)) (.int 1) s3 = some (.int (m : Int), s3) := by
    show some (W.int (((m + 1 : Nat) : Int) - 1), s3) = _
    have : ((m + 1 : Nat) : Int) - 1 = (m : Int) := by omega
    rw [this]
  obtain ⟨y6, ec⟩ := chain_go (s := s3) (y0 := y0) (y1 := some (.tup [.int 0, .int 0, .int 0, .int 1, .int 0, .int 1, .int 1, .int 0])) (y2 := some (.ref 2)) (y4 := some (.int at1)) (y5 := some (.int ((m + 1 : Nat) : Int))) (y7 := none) (y8 := none) (y9 := none) ((List.range ((m : Int)).toNat).map fun (i : Nat) => W.int (0 + (i : Int))) 0 none
  rw [List.length_map, List.length_range, Int.toNat_natCast, Nat.zero_add] at ec
  obtain ⟨t2, ei⟩ := shape_chk few8 (s := s3) (d := chain m) (nodes_wf (ar := ar8) _ _ (Nat.le_refl _) (chain_nodes m))
  have hz : (chain m).size ≤ 2000 := by rw [chain_size]; omega
  rw [chain_good, decide_eq_true hz, Bool.and_true] at ei
  have ei : FIsShape [(chain m).w, .tup [.int 0, .int 0, .int 0, .int 1, .int 0, .int 1, .int 1, .int 0]] s3 = some (.bl (decide (1 + m ≤ 100)), s3 ++ t2) := ei
  have gl : gLe (.int ((m + 1 : Nat) : Int)) (.int 100) (s3 ++ t2) = some (.bl (decide (1 + m ≤ 100)), s3 ++ t2) := by
    have : decide (((m + 1 : Nat) : Int) ≤ 100) = decide (1 + m ≤ 100) := by rw [Bool.eq_iff_iff]; simp <;> omega
    show some (W.bl (decide (((m + 1 : Nat) : Int) ≤ 100)), _) = _
    rw [this]
  have ge : ∀ b s, gEq (.bl b) (.bl b) s = some (.bl true, s) := fun b s => by simp only [gEq, eqW, sEq, decide_true]
  have ec : fo (.name 6) (sSet 3 (eTup (aCons (eC (.str "f")) (aCons (eTup (aCons (eC (.str "c")) (aCons (eC (.int 0)) (aCons (eTup aNil) aNil)))) (aCons (eVar 3) aNil))))) none ((List.range m).map fun (i : Nat) => W.int (0 + (i : Int))) [y0, some (.tup [.int 0, .int 0, .int 0, .int 1, .int 0, .int 1, .int 1, .int 0]), some (.ref 2), some (.tup [.str "v", .int 1000003]), some (.int at1), some (.int ((m + 1 : Nat) : Int)), none, none, none, none] s3 = _ := ec
  refine ⟨s3 ++ t2, ?_⟩
  have z1 : (sSet 5 (eOp gAdd (eC (.int 90)) (eFn FLawPick (aCons (eVar 2) (aCons (eOp gAdd (eVar 4) (eC (.int 1))) (aCons (eC (.int 21)) aNil)))))) [y0, some (.tup [.int 0, .int 0, .int 0, .int 1, .int 0, .int 1, .int 1, .int 0]), some (.ref 2), x3, some (.int at1), none, none, none, none, none] s3 = some (.nx [y0, some (.tup [.int 0, .int 0, .int 0, .int 1, .int 0, .int 1, .int 1, .int 0]), some (.ref 2), x3, some (.int at1), some (.int ((m+1:Nat):Int)), none, none, none, none], s3) := by
    simp only [mkF, bd_some, bd_none, sCons, sNil, sSet, sAsg, sPar, sDo, sRet, sRetN, sIf, sPut, sAug, sBrk, sCnt, sFor, iSeq, iEnu, Mir.iRev, Mir.iRng1, Mir.iRng2, eVar, eC, eOp, eUn, eFn, eMt, aNil, aCons, eTup, eLst, eAnd, eOr, eNot, eIf, bTest, bTruth, bAnd, bOr, bNot, bYes, eSl, pNo, pAt, tgM_name, tgM_tup, tgMs_nil, tgMs_name, tgMs_tup, List.getElem?_cons_succ, List.getElem?_cons_zero, List.set_cons_succ, List.set_cons_zero, List.map_cons, List.map_nil, List.length_cons, List.length_nil, List.replicate, List.nil_append, List.cons_append, if_true, if_false, Bool.false_eq_true, Nat.reduceAdd, Nat.reduceSub, Nat.reduceLeDiff, Nat.zero_add, Bool.not_true, Bool.not_false, addI, e21, hm]
  have z2 : (sSet 3 (eTup (aCons (eC (.str "v")) (aCons (eC (.int 1000003)) aNil)))) [y0, some (.tup [.int 0, .int 0, .int 0, .int 1, .int 0, .int 1, .int 1, .int 0]), some (.ref 2), x3, some (.int at1), some (.int ((m+1:Nat):Int)), none, none, none, none] s3 = some (.nx [y0, some (.tup [.int 0, .int 0, .int 0, .int 1, .int 0, .int 1, .int 1, .int 0]), some (.ref 2), some (.tup [.str "v", .int 1000003]), some (.int at1), some (.int ((m+1:Nat):Int)), none, none, none, none], s3) := by
    simp only [mkF, bd_some, bd_none, sCons, sNil, sSet, sAsg, sPar, sDo, sRet, sRetN, sIf, sPut, sAug, sBrk, sCnt, sFor, iSeq, iEnu, Mir.iRev, Mir.iRng1, Mir.iRng2, eVar, eC, eOp, eUn, eFn, eMt, aNil, aCons, eTup, eLst, eAnd, eOr, eNot, eIf, bTest, bTruth, bAnd, bOr, bNot, bYes, eSl, pNo, pAt, tgM_name, tgM_tup, tgMs_nil, tgMs_name, tgMs_tup, List.getElem?_cons_succ, List.getElem?_cons_zero, List.set_cons_succ, List.set_cons_zero, List.map_cons, List.map_nil, List.length_cons, List.length_nil, List.replicate, List.nil_append, List.cons_append, if_true, if_false, Bool.false_eq_true, Nat.reduceAdd, Nat.reduceSub, Nat.reduceLeDiff, Nat.zero_add, Bool.not_true, Bool.not_false, ]
  have z3 : (Mir.iRng1 (eOp gSub (eVar 5) (eC (.int 1)))) [y0, some (.tup [.int 0, .int 0, .int 0, .int 1, .int 0, .int 1, .int 1, .int 0]), some (.ref 2), some (.tup [.str "v", .int 1000003]), some (.int at1), some (.int ((m+1:Nat):Int)), none, none, none, none] s3 = some (((List.range m).map fun (i : Nat) => W.int (0 + (i : Int)), none), s3) := rng1 (by simp only [mkF, bd_some, bd_none, sCons, sNil, sSet, sAsg, sPar, sDo, sRet, sRetN, sIf, sPut, sAug, sBrk, sCnt, sFor, iSeq, iEnu, Mir.iRev, Mir.iRng1, Mir.iRng2, eVar, eC, eOp, eUn, eFn, eMt, aNil, aCons, eTup, eLst, eAnd, eOr, eNot, eIf, bTest, bTruth, bAnd, bOr, bNot, bYes, eSl, pNo, pAt, tgM_name, tgM_tup, tgMs_nil, tgMs_name, tgMs_tup, List.getElem?_cons_succ, List.getElem?_cons_zero, List.set_cons_succ, List.set_cons_zero, List.map_cons, List.map_nil, List.length_cons, List.length_nil, List.replicate, List.nil_append, List.cons_append, if_true, if_false, Bool.false_eq_true, Nat.reduceAdd, Nat.reduceSub, Nat.reduceLeDiff, Nat.zero_add, Bool.not_true, Bool.not_false, gs]) (by omega)
  have z4 : (sRet (eOp gEq (eFn FIsShape (aCons (eVar 3) (aCons (eVar 1) aNil))) (eOp gLe (eVar 5) (eC (.int 100))))) [y0, some (.tup [.int 0, .int 0, .int 0, .int 1, .int 0, .int 1, .int 1, .int 0]), some (.ref 2), some (chain m).w, some (.int at1), some (.int ((m+1:Nat):Int)), y6, none, none, none] s3 = some (.rt (.bl true), s3 ++ t2) := by
    simp only [mkF, bd_some, bd_none, sCons, sNil, sSet, sAsg, sPar, sDo, sRet, sRetN, sIf, sPut, sAug, sBrk, sCnt, sFor, iSeq, iEnu, Mir.iRev, Mir.iRng1, Mir.iRng2, eVar, eC, eOp, eUn, eFn, eMt, aNil, aCons, eTup, eLst, eAnd, eOr, eNot, eIf, bTest, bTruth, bAnd, bOr, bNot, bYes, eSl, pNo, pAt, tgM_name, tgM_tup, tgMs_nil, tgMs_name, tgMs_tup, List.getElem?_cons_succ, List.getElem?_cons_zero, List.set_cons_succ, List.set_cons_zero, List.map_cons, List.map_nil, List.length_cons, List.length_nil, List.replicate, List.nil_append, List.cons_append, if_true, if_false, Bool.false_eq_true, Nat.reduceAdd, Nat.reduceSub, Nat.reduceLeDiff, Nat.zero_add, Bool.not_true, Bool.not_false, ei, gl, ge]
  unfold chainB
  simp only [sCons, z1, z2, bd_some, sFor, z3, ec, z4]
theorem BLaw_eq : BLaw = (sCons (sSet 1 (eTup (aCons (eC (.int 0)) (aCons (eC (.int 0)) (aCons (eC (.int 0)) (aCons (eC (.int 1)) (aCons (eC (.int 0)) (aCons (eC (.int 1)) (aCons (eC (.int 1)) (aCons (eC (.int 0)) aNil)))))))))) (sCons (sSet 2 (eFn FLawTape (aCons (eVar 0) (aCons (eC (.int 120)) aNil)))) (sCons (sAsg (.tup [(.name 3), (.name 4)]) (eFn (FLawShape 8) (aCons (eVar 2) (aCons (eC (.int 1)) (aCons (eOp gAdd (eC (.int 1)) (eFn FLawPick (aCons (eVar 2) (aCons (eC (.int 0)) (aCons (eC (.int 4)) aNil))))) (aCons (eLst (aCons (eC (.int 1000000)) (aCons (eC (.int 1000007)) (aCons (eC (.int 0)) (aCons (eC (.int 3)) aNil))))) aNil)))))) (sCons (sIf (bTest (eOp gEq (eFn FLawPick (aCons (eVar 2) (aCons (eVar 4) (aCons (eC (.int 8)) aNil)))) (eC (.int 5)))) chainB sNil) (sCons (sSet 7 (eOp gAdd (eC (.int 1990)) (eFn FLawPick (aCons (eVar 2) (aCons (eOp gAdd (eVar 4) (eC (.int 5))) (aCons (eC (.int 21)) aNil)))))) (sCons (sIf (bOr (bNot (bTruth (eFn FLawConstants aNil))) (bTest (eOp gNe (eFn FIsShape (aCons (eFn (FLawNodes 14) (aCons (eVar 7) aNil)) (aCons (eVar 1) aNil))) (eOp gLe (eVar 7) (eC (.int 2000)))))) (sRet (eC (.bl false))) sNil) (sCons (sSet 8 (eFn FLawWide (aCons (eOp gIx (eFn (FLawShape 8) (aCons (eVar 2) (aCons (eC (.int 50)) (aCons (eC (.int 2)) (aCons (eLst (aCons (eC (.int 1000000)) (aCons (eC (.int 4)) aNil))) aNil))))) (eC (.int 0))) (aCons (eVar 2) (aCons (eOp gAdd (eVar 4) (eC (.int 6))) aNil))))) (sCons (sIf (bOr (bTest (eOp gIsNot (eFn FIsShape (aCons (eVar 8) (aCons (eOp gAdd (eVar 1) (eTup (aCons (eC (.int 2)) (aCons (eC (.int 0)) (aCons (eC (.int 4)) aNil))))) aNil))) (eC (.bl true)))) (bTest (eOp gIsNot (eFn FIsShape (aCons (eVar 8) (aCons (eVar 1) aNil))) (eC (.bl false))))) (sRet (eC (.bl false))) sNil) (sCons (sIf (bOr (bNot (bTruth (eFn FLawSame (aCons (eFn FSize (aCons (eVar 8) aNil)) (aCons (eFn (FLawCount 12) (aCons (eVar 8) aNil)) aNil))))) (bNot (bTruth (eFn FLawSame (aCons (eFn FDepth (aCons (eVar 8) aNil)) (aCons (eFn (FLawDeep 12) (aCons (eVar 8) aNil)) aNil)))))) (sRet (eC (.bl false))) sNil) (sCons (sIf (bOr (bTest (eOp gIsNot (eFn FIsShape (aCons (eVar 3) (aCons (eVar 1) aNil))) (eC (.bl true)))) (bNot (bTruth (eFn FLawSame (aCons (eFn FSize (aCons (eVar 3) aNil)) (aCons (eFn (FLawCount 12) (aCons (eVar 3) aNil)) aNil)))))) (sRet (eC (.bl false))) sNil) (sCons (sIf (bNot (bTruth (eFn FLawSame (aCons (eFn FDepth (aCons (eVar 3) aNil)) (aCons (eFn (FLawDeep 12) (aCons (eVar 3) aNil)) aNil))))) (sRet (eC (.bl false))) sNil) (sCons (sSet 9 (eFn FVariables (aCons (eVar 3) aNil))) (sCons (sIf (bOr (bNot (bTruth (eIsi "tuple" (eVar 9)))) (bTest (eOp gNe (eFn gList (aCons (eVar 9) aNil)) (eFn (FLawVariables 10) (aCons (eVar 3) (aCons (eLst aNil) aNil)))))) (sRet (eC (.bl false))) sNil) (sRet (eOp gIs (eFn FIsShape (aCons (eFn (FLawSpoilt 10) (aCons (eVar 3) (aCons (eVar 2) (aCons (eOp gAdd (eVar 4) (eC (.int 2))) aNil)))) (aCons (eVar 1) aNil))) (eC (.bl false))))))))))))))))) := rfl
theorem pure_law : ∀ ns : List Int, ns.length ≤ 63 → ∃ s, FLaw [.lro (ns.map W.int)] [] = some (.bl true, s) := by
  intro ns hns
  obtain ⟨c1, c2, ts, e1, hts⟩ := tape_ok (s := []) (ns := ns)
  have ht : ([c1, c2, O.lst (ts.map W.int)] : Sto)[2]? = some (.lst (ts.map W.int)) := rfl
  simp only [List.length_nil, Nat.zero_add, List.nil_append] at e1
  generalize ([c1, c2, O.lst (ts.map W.int)] : Sto) = s1 at e1 ht
  have hp : 0 < ts.length := by omega
  have ep4 := pick_ok (a := 0) ht hp (show (0 : Int) < 4 by decide)
  have p0 := pk_lo (ts := ts) (a := 0) (show (0 : Int) < 4 by decide)
  have p1 := pk_hi (ts := ts) (a := 0) (show (0 : Int) < 4 by decide)
  generalize pk ts 0 4 = p at ep4 p0 p1
  obtain ⟨l, hl⟩ : ∃ l : Nat, 1 + p = (l : Int) := ⟨(1 + p).toNat, by omega⟩
  have E : Env (s1 ++ [.lst (([1000000, 1000007, 0, 3] : List Int).map W.int)]) 2 s1.length ts [1000000, 1000007, 0, 3] := ⟨gapp ht, gmid, hp, by decide⟩
  obtain ⟨d, at1, t, es, hs⟩ := shape_ok 8 l (by omega) _ 2 s1.length ts _ 1 E
  have ht3 : (s1 ++ [.lst (([1000000, 1000007, 0, 3] : List Int).map W.int)] ++ t)[2]? = some (.lst (ts.map W.int)) := gapp (gapp ht)
  simp only [List.map_cons, List.map_nil] at es ht3
  generalize (s1 ++ [.lst [.int 1000000, .int 1000007, .int 0, .int 3]] ++ t) = s3 at es ht3
  have ep8 := pick_ok (a := at1) ht3 hp (show (0 : Int) < 8 by decide)
  have eA : ∀ s, gEq (.int 5) (.int 5) s = some (.bl true, s) := fun _ => rfl
  unfold FLaw
  rw [BLaw_eq]
  have szl : szB l ≤ 341 := by
    have : l ≤ 4 := by omega
    have h5 : l = 0 ∨ l = 1 ∨ l = 2 ∨ l = 3 ∨ l = 4 := by omega
    rcases h5 with rfl | rfl | rfl | rfl | rfl <;> decide
  have hsz := hs.size
  have hdp := hs.dep
  by_cases h5 : pk ts at1 8 = 5
  · have g5 : gEq (.int (pk ts at1 8)) (.int 5) s3 = some (.bl true, s3) := by rw [h5]; rfl
    obtain ⟨s', ec⟩ := chain_part (s3 := s3) (at1 := at1) (y0 := some (.lro (ns.map W.int))) (x3 := some d.w) hp ht3
    refine ⟨s', ?_⟩
    simp only [mkF, bd_some, bd_none, sCons, sNil, sSet, sAsg, sPar, sDo, sRet, sRetN, sIf, sPut, sAug, sBrk, sCnt, sFor, iSeq, iEnu, Mir.iRev, Mir.iRng1, Mir.iRng2, eVar, eC, eOp, eUn, eFn, eMt, aNil, aCons, eTup, eLst, eAnd, eOr, eNot, eIf, bTest, bTruth, bAnd, bOr, bNot, bYes, eSl, pNo, pAt, tgM_name, tgM_tup, tgMs_nil, tgMs_name, tgMs_tup, List.getElem?_cons_succ, List.getElem?_cons_zero, List.set_cons_succ, List.set_cons_zero, List.map_cons, List.map_nil, List.length_cons, List.length_nil, List.replicate, List.nil_append, List.cons_append, if_true, if_false, Bool.false_eq_true, Nat.reduceAdd, Nat.reduceSub, Nat.reduceLeDiff, Nat.zero_add, Bool.not_true, Bool.not_false, e1, ep4, addI, hl, es, ep8, g5, ec]
  · have g5 : gEq (.int (pk ts at1 8)) (.int 5) s3 = some (.bl false, s3) := by simp only [gEq, eqW, sEq, decide_eq_false h5]
    have e21 := pick_ok (a := at1 + 5) ht3 hp (show (0 : Int) < 21 by decide)
    have q0 := pk_lo (ts := ts) (a := at1 + 5) (show (0 : Int) < 21 by decide)
    have q1 := pk_hi (ts := ts) (a := at1 + 5) (show (0 : Int) < 21 by decide)
    generalize pk ts (at1 + 5) 21 = q at e21 q0 q1
    obtain ⟨m, hm⟩ : ∃ m : Nat, 1990 + q = (m : Int) := ⟨(1990 + q).toNat, by omega⟩
    -- many nodes
    obtain ⟨dn, en, nn, nz, nd⟩ := lnodes_ok (s := s3) 14 m (by omega) (by have : (2 : Nat) ^ 14 = 16384 := rfl; omega)
    obtain ⟨t4, ei4⟩ := shape_chk few8 (s := s3) (d := dn) (nodes_wf (ar := ar8) _ _ (Nat.le_refl _) nn)
    rw [good_nodes _ dn 1 (Nat.le_refl _) nn (by omega), nz, Bool.true_and] at ei4
    have ei4 : FIsShape [dn.w, .tup [.int 0, .int 0, .int 0, .int 1, .int 0, .int 1, .int 1, .int 0]] s3 = some (.bl (decide (m ≤ 2000)), s3 ++ t4) := ei4
    have ht4 := gapp (t := t4) ht3
    generalize s3 ++ t4 = s4 at ei4 ht4
    have gl : gLe (.int (m : Int)) (.int 2000) s4 = some (.bl (decide (m ≤ 2000)), s4) := by
      have : decide ((m : Int) ≤ 2000) = decide (m ≤ 2000) := by rw [Bool.eq_iff_iff]; simp <;> omega
      show some (W.bl (decide ((m : Int) ≤ 2000)), _) = _
      rw [this]
    have gn : ∀ b s, gNe (.bl b) (.bl b) s = some (.bl false, s) := fun b s => by simp only [gNe, eqW, sEq, decide_true]; rfl
    -- wide
    have E5 : Env (s4 ++ [.lst (([1000000, 4] : List Int).map W.int)]) 2 s4.length ts [1000000, 4] := ⟨gapp ht4, gmid, hp, by decide⟩
    obtain ⟨d2, at2, t5, es5, hs5⟩ := shape_ok 8 2 (by omega) _ 2 s4.length ts _ 50 E5
    have ht5 : (s4 ++ [.lst (([1000000, 4] : List Int).map W.int)] ++ t5)[2]? = some (.lst (ts.map W.int)) := gapp (gapp ht4)
    simp only [List.map_cons, List.map_nil] at es5 ht5
    generalize (s4 ++ [.lst [.int 1000000, .int 4]] ++ t5) = s5 at es5 ht5
    have es5 : FLawShape 8 [.ref 2, .int 50, .int 2, .ref s4.length] (s4 ++ [.lst [.int 1000000, .int 4]]) = some (.tup [d2.w, .int at2], s5) := es5
    obtain ⟨dw, t6, ew, wn, wb, wd, wz⟩ := wide_ok (at_ := at1 + 6) ht5 hp hs5
    have ht6 := gapp (t := t6) ht5
    generalize s5 ++ t6 = s6 at ew ht6
    obtain ⟨t7, ei7⟩ := shape_chk few11 (s := s6) (d := dw) (nodes_wf (ar := ar11) _ _ (Nat.le_refl _) wn)
    rw [good_nodes _ dw 1 (Nat.le_refl _) wn (by omega), decide_eq_true (show dw.size ≤ 2000 by omega)] at ei7
    have ei7 : FIsShape [dw.w, .tup [.int 0, .int 0, .int 0, .int 1, .int 0, .int 1, .int 1, .int 0, .int 2, .int 0, .int 4]] s6 = some (.bl true, s6 ++ t7) := ei7
    have ht7 := gapp (t := t7) ht6
    generalize s6 ++ t7 = s7 at ei7 ht7
    obtain ⟨t8, ei8⟩ := shape_chk few8 (s := s7) (d := dw) (nodes_wf (ar := ar11) _ _ (Nat.le_refl _) wn)
    rw [wb] at ei8
    have ei8 : FIsShape [dw.w, .tup [.int 0, .int 0, .int 0, .int 1, .int 0, .int 1, .int 1, .int 0]] s7 = some (.bl false, s7 ++ t8) := ei8
    have ht8 := gapp (t := t8) ht7
    generalize s7 ++ t8 = s8 at ei8 ht8
    obtain ⟨t9, ei9⟩ := size_ok few11 (s := s8) wn (by omega)
    have ht9 := gapp (t := t9) ht8
    generalize s8 ++ t9 = s9 at ei9 ht9
    have ek9 := count_ok 12 dw s9 wn (by omega)
    obtain ⟨t10, ei10⟩ := depth_ok few11 (s := s9) wn (by omega)
    have ht10 := gapp (t := t10) ht9
    generalize s9 ++ t10 = s10 at ei10 ht10
    have ek10 := deep_ok 12 dw s10 wn (by omega)
    -- the shape
    have sn := hs.nodes
    obtain ⟨t11, ei11⟩ := shape_chk few8 (s := s10) (d := d) (nodes_wf (ar := ar8) _ _ (Nat.le_refl _) sn)
    rw [good_nodes _ d 1 (Nat.le_refl _) sn (by omega), decide_eq_true (show d.size ≤ 2000 by omega)] at ei11
    have ei11 : FIsShape [d.w, .tup [.int 0, .int 0, .int 0, .int 1, .int 0, .int 1, .int 1, .int 0]] s10 = some (.bl true, s10 ++ t11) := ei11
    have ht11 := gapp (t := t11) ht10
    generalize s10 ++ t11 = s11 at ei11 ht11
    obtain ⟨t12, ei12⟩ := size_ok few8 (s := s11) sn (by omega)
    have ht12 := gapp (t := t12) ht11
    generalize s11 ++ t12 = s12 at ei12 ht12
    have ek12 := count_ok 12 d s12 sn (by omega)
    obtain ⟨t13, ei13⟩ := depth_ok few8 (s := s12) sn (by omega)
    have ht13 := gapp (t := t13) ht12
    generalize s12 ++ t13 = s13 at ei13 ht13
    have ek13 := deep_ok 12 d s13 sn (by omega)
    obtain ⟨t14, ei14⟩ := variables_ok (s := s13) sn (by omega)
    have ht14 := gapp (t := t14) ht13
    generalize s13 ++ t14 = s14 at ei14 ht14
    have hv := vars_size _ d (Nat.le_refl _)
    have ek14 := lvars_ok 10 d (s14 ++ [.lst ((adds [] d.vars).map W.int)]) [] sn (by omega) (by simp only [List.length_nil]; omega)
    have gne : gNe (.ref s14.length) (.ref (s14 ++ [O.lst ((adds [] d.vars).map W.int)]).length) (s14 ++ [O.lst ((adds [] d.vars).map W.int)] ++ [O.lst ((adds [] d.vars).map W.int)]) = some (.bl false, s14 ++ [O.lst ((adds [] d.vars).map W.int)] ++ [O.lst ((adds [] d.vars).map W.int)]) := ne_ints (gapp gmid) gmid
    have glist : gList [.tup ((adds [] d.vars).map W.int)] s14 = some (.ref s14.length, s14 ++ [O.lst ((adds [] d.vars).map W.int)]) := rfl
    have ht15 := gapp (t := [O.lst ((adds [] d.vars).map W.int)]) (gapp (t := [O.lst ((adds [] d.vars).map W.int)]) ht14)
    simp only [List.map_nil] at ek14
    generalize hs15 : s14 ++ [O.lst ((adds [] d.vars).map W.int)] = s15 at ek14 gne glist ht15
    generalize hs16 : s15 ++ [O.lst ((adds [] d.vars).map W.int)] = s16 at ek14 gne ht15
    obtain ⟨d', t17, ei17, fw, fg⟩ := spoilt_ok hp 10 d s16 (at1 + 2) sn (by omega) (by omega) ht15
    generalize s16 ++ t17 = s17 at ei17
    obtain ⟨t18, ei18⟩ := shape_chk few8 (s := s17) (d := d') fw
    rw [fg] at ei18
    have ei18 : FIsShape [d'.w, .tup [.int 0, .int 0, .int 0, .int 1, .int 0, .int 1, .int 1, .int 0]] s17 = some (.bl false, s17 ++ t18) := ei18
    have i1 : isiT "tuple" "tuple" = true := by decide
    have gtt : ∀ s, gIsNot (.bl true) (.bl true) s = some (.bl false, s) := fun _ => rfl
    have gff : ∀ s, gIsNot (.bl false) (.bl false) s = some (.bl false, s) := fun _ => rfl
    have gif : ∀ s, gIs (.bl false) (.bl false) s = some (.bl true, s) := fun _ => rfl
    have g11 : ∀ s, gAdd (.tup [.int 0, .int 0, .int 0, .int 1, .int 0, .int 1, .int 1, .int 0]) (.tup [.int 2, .int 0, .int 4]) s = some (.tup [.int 0, .int 0, .int 0, .int 1, .int 0, .int 1, .int 1, .int 0, .int 2, .int 0, .int 4], s) := fun _ => rfl
    refine ⟨s17 ++ t18, ?_⟩
    simp only [mkF, bd_some, bd_none, sCons, sNil, sSet, sAsg, sPar, sDo, sRet, sRetN, sIf, sPut, sAug, sBrk, sCnt, sFor, iSeq, iEnu, Mir.iRev, Mir.iRng1, Mir.iRng2, eVar, eC, eOp, eUn, eFn, eMt, aNil, aCons, eTup, eLst, eAnd, eOr, eNot, eIf, bTest, bTruth, bAnd, bOr, bNot, bYes, eSl, pNo, pAt, tgM_name, tgM_tup, tgMs_nil, tgMs_name, tgMs_tup, List.getElem?_cons_succ, List.getElem?_cons_zero, List.set_cons_succ, List.set_cons_zero, List.map_cons, List.map_nil, List.length_cons, List.length_nil, List.replicate, List.nil_append, List.cons_append, if_true, if_false, Bool.false_eq_true, Nat.reduceAdd, Nat.reduceSub, Nat.reduceLeDiff, Nat.zero_add, Bool.not_true, Bool.not_false, e1, ep4, addI, hl, es, ep8, g5, e21, hm, consts_ok, truW, en, ei4, gl, gn, es5, ix2, ew, g11, ei7, gtt, ei8, gff, ei9, ek9, same_ok, ei10, ek10, ei11, ei12, ek12, ei13, ek13, ei14, eIsi, tyW, i1, glist, ek14, gne, ei17, ei18, gif]
end K10

set_option Elab.async false
set_option linter.all false
set_option maxRecDepth 100000
namespace K10
open PySem PySem.Spec PyProof.Rows L2 Mir
theorem all_mk {l : PySem.W.OpenLaw} {w : World} {K : PySem.W.Frag} {h : Heap} {mg : Str → Option Value} {fa f1 f2 f3 f4 f5 f6 f7 f8 f9 f10 f11 f12 f13 f14 f15 f16 f17 f18 f19 f20 f21 f22 f23 f24 f25 : Addr} (X : K.In h) (G : h.Ns mainGlobals mg) (hfa : mg "law" = some (.ref fa))
    {od1 an1 od2 an2 od3 an3 od4 an4 od5 an5 od6 an6 od7 an7 od8 an8 od9 an9 od10 an10 od11 an11 od12 an12 od13 an13 od14 an14 od15 an15 od16 an16 od17 an17 od18 an18 od19 an19 od20 an20 od21 an21 od22 an22 od23 an23 od24 an24 od25 an25 : Option Addr} {sl1 sl2 sl3 sl4 sl5 sl6 sl7 sl8 sl9 sl10 sl11 sl12 sl13 sl14 sl15 sl16 sl17 sl18 sl19 sl20 sl21 sl22 sl23 sl24 sl25 : Array (Option Value)} {oc1 kV1 dc1 pm1 cd1 ct1 oc2 kV2 dc2 pm2 cd2 ct2 oc3 kV3 dc3 pm3 cd3 ct3 oc4 kV4 dc4 pm4 cd4 ct4 oc5 kV5 dc5 pm5 cd5 ct5 oc6 kV6 dc6 pm6 cd6 ct6 oc7 kV7 dc7 pm7 cd7 ct7 oc8 kV8 dc8 pm8 cd8 ct8 oc9 kV9 dc9 pm9 cd9 ct9 oc10 kV10 dc10 pm10 cd10 ct10 oc11 kV11 dc11 pm11 cd11 ct11 oc12 kV12 dc12 pm12 cd12 ct12 oc13 kV13 dc13 pm13 cd13 ct13 oc14 kV14 dc14 pm14 cd14 ct14 oc15 kV15 dc15 pm15 cd15 ct15 oc16 kV16 dc16 pm16 cd16 ct16 oc17 kV17 dc17 pm17 cd17 ct17 oc18 kV18 dc18 pm18 cd18 ct18 oc19 kV19 dc19 pm19 cd19 ct19 oc20 kV20 dc20 pm20 cd20 ct20 oc21 kV21 dc21 pm21 cd21 ct21 oc22 kV22 dc22 pm22 cd22 ct22 oc23 kV23 dc23 pm23 cd23 ct23 oc24 kV24 dc24 pm24 cd24 ct24 oc25 kV25 dc25 pm25 cd25 ct25 : Value}
    (a1 : PySem.W.nsIn K mainGlobals "is_number" = some (some (.ref f1))) (l1 : K.lookup f1 = some ⟨oc1, od1, .func (PySem.W.fnOf "is_number" "is_number" (defArgs sIsNumber) (defBody sIsNumber) (defScope sIsNumber) .none kV1 dc1 pm1 an1 cd1 ct1), sl1⟩) (c1 : PySem.W.codeIn K cd1 "is_number" = true) (k1 : PySem.W.keepIn K (.ref f1) = true)
    (a2 : PySem.W.nsIn K mainGlobals "is_list" = some (some (.ref f2))) (l2 : K.lookup f2 = some ⟨oc2, od2, .func (PySem.W.fnOf "is_list" "is_list" (defArgs sIsList) (defBody sIsList) (defScope sIsList) .none kV2 dc2 pm2 an2 cd2 ct2), sl2⟩) (c2 : PySem.W.codeIn K cd2 "is_list" = true) (k2 : PySem.W.keepIn K (.ref f2) = true)
    (a3 : PySem.W.nsIn K mainGlobals "is_shape" = some (some (.ref f3))) (l3 : K.lookup f3 = some ⟨oc3, od3, .func (PySem.W.fnOf "is_shape" "is_shape" (defArgs sIsShape) (defBody sIsShape) (defScope sIsShape) .none kV3 dc3 pm3 an3 cd3 ct3), sl3⟩) (c3 : PySem.W.codeIn K cd3 "is_shape" = true) (k3 : PySem.W.keepIn K (.ref f3) = true)
    (a4 : PySem.W.nsIn K mainGlobals "is_node" = some (some (.ref f4))) (l4 : K.lookup f4 = some ⟨oc4, od4, .func (PySem.W.fnOf "is_node" "is_node" (defArgs sIsNode) (defBody sIsNode) (defScope sIsNode) .none kV4 dc4 pm4 an4 cd4 ct4), sl4⟩) (c4 : PySem.W.codeIn K cd4 "is_node" = true) (k4 : PySem.W.keepIn K (.ref f4) = true)
    (a5 : PySem.W.nsIn K mainGlobals "parts_of_shape" = some (some (.ref f5))) (l5 : K.lookup f5 = some ⟨oc5, od5, .func (PySem.W.fnOf "parts_of_shape" "parts_of_shape" (defArgs sPartsOfShape) (defBody sPartsOfShape) (defScope sPartsOfShape) .none kV5 dc5 pm5 an5 cd5 ct5), sl5⟩) (c5 : PySem.W.codeIn K cd5 "parts_of_shape" = true) (k5 : PySem.W.keepIn K (.ref f5) = true)
    (a6 : PySem.W.nsIn K mainGlobals "measures" = some (some (.ref f6))) (l6 : K.lookup f6 = some ⟨oc6, od6, .func (PySem.W.fnOf "measures" "measures" (defArgs sMeasures) (defBody sMeasures) (defScope sMeasures) .none kV6 dc6 pm6 an6 cd6 ct6), sl6⟩) (c6 : PySem.W.codeIn K cd6 "measures" = true) (k6 : PySem.W.keepIn K (.ref f6) = true)
    (a7 : PySem.W.nsIn K mainGlobals "size" = some (some (.ref f7))) (l7 : K.lookup f7 = some ⟨oc7, od7, .func (PySem.W.fnOf "size" "size" (defArgs sSize) (defBody sSize) (defScope sSize) .none kV7 dc7 pm7 an7 cd7 ct7), sl7⟩) (c7 : PySem.W.codeIn K cd7 "size" = true) (k7 : PySem.W.keepIn K (.ref f7) = true)
    (a8 : PySem.W.nsIn K mainGlobals "depth" = some (some (.ref f8))) (l8 : K.lookup f8 = some ⟨oc8, od8, .func (PySem.W.fnOf "depth" "depth" (defArgs sDepth) (defBody sDepth) (defScope sDepth) .none kV8 dc8 pm8 an8 cd8 ct8), sl8⟩) (c8 : PySem.W.codeIn K cd8 "depth" = true) (k8 : PySem.W.keepIn K (.ref f8) = true)
    (a9 : PySem.W.nsIn K mainGlobals "variables" = some (some (.ref f9))) (l9 : K.lookup f9 = some ⟨oc9, od9, .func (PySem.W.fnOf "variables" "variables" (defArgs sVariables) (defBody sVariables) (defScope sVariables) .none kV9 dc9 pm9 an9 cd9 ct9), sl9⟩) (c9 : PySem.W.codeIn K cd9 "variables" = true) (k9 : PySem.W.keepIn K (.ref f9) = true)
    (a10 : PySem.W.nsIn K mainGlobals "_law_tape" = some (some (.ref f10))) (l10 : K.lookup f10 = some ⟨oc10, od10, .func (PySem.W.fnOf "_law_tape" "_law_tape" (defArgs sLawTape) (defBody sLawTape) (defScope sLawTape) .none kV10 dc10 pm10 an10 cd10 ct10), sl10⟩) (c10 : PySem.W.codeIn K cd10 "_law_tape" = true) (k10 : PySem.W.keepIn K (.ref f10) = true)
    (a11 : PySem.W.nsIn K mainGlobals "_law_pick" = some (some (.ref f11))) (l11 : K.lookup f11 = some ⟨oc11, od11, .func (PySem.W.fnOf "_law_pick" "_law_pick" (defArgs sLawPick) (defBody sLawPick) (defScope sLawPick) .none kV11 dc11 pm11 an11 cd11 ct11), sl11⟩) (c11 : PySem.W.codeIn K cd11 "_law_pick" = true) (k11 : PySem.W.keepIn K (.ref f11) = true)
    (a12 : PySem.W.nsIn K mainGlobals "_law_leaf" = some (some (.ref f12))) (l12 : K.lookup f12 = some ⟨oc12, od12, .func (PySem.W.fnOf "_law_leaf" "_law_leaf" (defArgs sLawLeaf) (defBody sLawLeaf) (defScope sLawLeaf) .none kV12 dc12 pm12 an12 cd12 ct12), sl12⟩) (c12 : PySem.W.codeIn K cd12 "_law_leaf" = true) (k12 : PySem.W.keepIn K (.ref f12) = true)
    (a13 : PySem.W.nsIn K mainGlobals "_law_shape" = some (some (.ref f13))) (l13 : K.lookup f13 = some ⟨oc13, od13, .func (PySem.W.fnOf "_law_shape" "_law_shape" (defArgs sLawShape) (defBody sLawShape) (defScope sLawShape) .none kV13 dc13 pm13 an13 cd13 ct13), sl13⟩) (c13 : PySem.W.codeIn K cd13 "_law_shape" = true) (k13 : PySem.W.keepIn K (.ref f13) = true)
    (a14 : PySem.W.nsIn K mainGlobals "_law_parts" = some (some (.ref f14))) (l14 : K.lookup f14 = some ⟨oc14, od14, .func (PySem.W.fnOf "_law_parts" "_law_parts" (defArgs sLawParts) (defBody sLawParts) (defScope sLawParts) .none kV14 dc14 pm14 an14 cd14 ct14), sl14⟩) (c14 : PySem.W.codeIn K cd14 "_law_parts" = true) (k14 : PySem.W.keepIn K (.ref f14) = true)
    (a15 : PySem.W.nsIn K mainGlobals "_law_rebuilt" = some (some (.ref f15))) (l15 : K.lookup f15 = some ⟨oc15, od15, .func (PySem.W.fnOf "_law_rebuilt" "_law_rebuilt" (defArgs sLawRebuilt) (defBody sLawRebuilt) (defScope sLawRebuilt) .none kV15 dc15 pm15 an15 cd15 ct15), sl15⟩) (c15 : PySem.W.codeIn K cd15 "_law_rebuilt" = true) (k15 : PySem.W.keepIn K (.ref f15) = true)
    (a16 : PySem.W.nsIn K mainGlobals "_law_variables" = some (some (.ref f16))) (l16 : K.lookup f16 = some ⟨oc16, od16, .func (PySem.W.fnOf "_law_variables" "_law_variables" (defArgs sLawVariables) (defBody sLawVariables) (defScope sLawVariables) .none kV16 dc16 pm16 an16 cd16 ct16), sl16⟩) (c16 : PySem.W.codeIn K cd16 "_law_variables" = true) (k16 : PySem.W.keepIn K (.ref f16) = true)
    (a17 : PySem.W.nsIn K mainGlobals "_law_count" = some (some (.ref f17))) (l17 : K.lookup f17 = some ⟨oc17, od17, .func (PySem.W.fnOf "_law_count" "_law_count" (defArgs sLawCount) (defBody sLawCount) (defScope sLawCount) .none kV17 dc17 pm17 an17 cd17 ct17), sl17⟩) (c17 : PySem.W.codeIn K cd17 "_law_count" = true) (k17 : PySem.W.keepIn K (.ref f17) = true)
    (a18 : PySem.W.nsIn K mainGlobals "_law_deep" = some (some (.ref f18))) (l18 : K.lookup f18 = some ⟨oc18, od18, .func (PySem.W.fnOf "_law_deep" "_law_deep" (defArgs sLawDeep) (defBody sLawDeep) (defScope sLawDeep) .none kV18 dc18 pm18 an18 cd18 ct18), sl18⟩) (c18 : PySem.W.codeIn K cd18 "_law_deep" = true) (k18 : PySem.W.keepIn K (.ref f18) = true)
    (a19 : PySem.W.nsIn K mainGlobals "_law_wrong" = some (some (.ref f19))) (l19 : K.lookup f19 = some ⟨oc19, od19, .func (PySem.W.fnOf "_law_wrong" "_law_wrong" (defArgs sLawWrong) (defBody sLawWrong) (defScope sLawWrong) .none kV19 dc19 pm19 an19 cd19 ct19), sl19⟩) (c19 : PySem.W.codeIn K cd19 "_law_wrong" = true) (k19 : PySem.W.keepIn K (.ref f19) = true)
    (a20 : PySem.W.nsIn K mainGlobals "_law_spoilt" = some (some (.ref f20))) (l20 : K.lookup f20 = some ⟨oc20, od20, .func (PySem.W.fnOf "_law_spoilt" "_law_spoilt" (defArgs sLawSpoilt) (defBody sLawSpoilt) (defScope sLawSpoilt) .none kV20 dc20 pm20 an20 cd20 ct20), sl20⟩) (c20 : PySem.W.codeIn K cd20 "_law_spoilt" = true) (k20 : PySem.W.keepIn K (.ref f20) = true)
    (a21 : PySem.W.nsIn K mainGlobals "_law_nodes" = some (some (.ref f21))) (l21 : K.lookup f21 = some ⟨oc21, od21, .func (PySem.W.fnOf "_law_nodes" "_law_nodes" (defArgs sLawNodes) (defBody sLawNodes) (defScope sLawNodes) .none kV21 dc21 pm21 an21 cd21 ct21), sl21⟩) (c21 : PySem.W.codeIn K cd21 "_law_nodes" = true) (k21 : PySem.W.keepIn K (.ref f21) = true)
    (a22 : PySem.W.nsIn K mainGlobals "_law_wide" = some (some (.ref f22))) (l22 : K.lookup f22 = some ⟨oc22, od22, .func (PySem.W.fnOf "_law_wide" "_law_wide" (defArgs sLawWide) (defBody sLawWide) (defScope sLawWide) .none kV22 dc22 pm22 an22 cd22 ct22), sl22⟩) (c22 : PySem.W.codeIn K cd22 "_law_wide" = true) (k22 : PySem.W.keepIn K (.ref f22) = true)
    (a23 : PySem.W.nsIn K mainGlobals "_law_constants" = some (some (.ref f23))) (l23 : K.lookup f23 = some ⟨oc23, od23, .func (PySem.W.fnOf "_law_constants" "_law_constants" (defArgs sLawConstants) (defBody sLawConstants) (defScope sLawConstants) .none kV23 dc23 pm23 an23 cd23 ct23), sl23⟩) (c23 : PySem.W.codeIn K cd23 "_law_constants" = true) (k23 : PySem.W.keepIn K (.ref f23) = true)
    (a24 : PySem.W.nsIn K mainGlobals "_law_same" = some (some (.ref f24))) (l24 : K.lookup f24 = some ⟨oc24, od24, .func (PySem.W.fnOf "_law_same" "_law_same" (defArgs sLawSame) (defBody sLawSame) (defScope sLawSame) .none kV24 dc24 pm24 an24 cd24 ct24), sl24⟩) (c24 : PySem.W.codeIn K cd24 "_law_same" = true) (k24 : PySem.W.keepIn K (.ref f24) = true)
    (a25 : PySem.W.nsIn K mainGlobals "law" = some (some (.ref f25))) (l25 : K.lookup f25 = some ⟨oc25, od25, .func (PySem.W.fnOf "law" "law" (defArgs sLaw) (defBody sLaw) (defScope sLaw) .none kV25 dc25 pm25 an25 cd25 ct25), sl25⟩) (c25 : PySem.W.codeIn K cd25 "law" = true) (k25 : PySem.W.keepIn K (.ref f25) = true)
    (z1 : PySem.W.nsIn K mainGlobals "abs" = some none)
    (z2 : PySem.W.nsIn K mainGlobals "bool" = some none)
    (z3 : PySem.W.nsIn K mainGlobals "int" = some none)
    (z4 : PySem.W.nsIn K mainGlobals "isinstance" = some none)
    (z5 : PySem.W.nsIn K mainGlobals "len" = some none)
    (z6 : PySem.W.nsIn K mainGlobals "list" = some none)
    (z7 : PySem.W.nsIn K mainGlobals "max" = some none)
    (z8 : PySem.W.nsIn K mainGlobals "range" = some none)
    (z9 : PySem.W.nsIn K mainGlobals "tuple" = some none)
    {cA0 : Addr} (x0 : PySem.W.nsIn K mainGlobals "ARITIES" = some (some (.ref cA0)))
    {u0_1 : Tok}
    {u0_2 : Tok}
    {u0_3 : Tok}
    {u0_4 : Tok}
    {u0_5 : Tok}
    {u0_6 : Tok}
    {u0_7 : Tok}
    {u0_8 : Tok}
    {o0_9 : Option Addr} {n0_9 : Nat} {sl0_9 : Array (Option Value)} (y0_9 : K.lookup cA0 = some ⟨.type "tuple", o0_9, .seq #[.int 0 u0_1, .int 0 u0_2, .int 0 u0_3, .int 1 u0_4, .int 0 u0_5, .int 1 u0_6, .int 1 u0_7, .int 0 u0_8] n0_9, sl0_9⟩)
    {cA1 : Addr} (x1 : PySem.W.nsIn K mainGlobals "BOOL" = some (some (.ref cA1)))
    {u1_1 : Tok}
    {u1_2 : Tok}
    {cB1_3 : Addr}
    {o1_4 : Option Addr} {n1_4 : Nat} {sl1_4 : Array (Option Value)} (y1_4 : K.lookup cA1 = some ⟨.type "tuple", o1_4, .seq #[.str "c" u1_1, .int 4 u1_2, .ref cB1_3] n1_4, sl1_4⟩)
    {o1_5 : Option Addr} {n1_5 : Nat} {sl1_5 : Array (Option Value)} (y1_5 : K.lookup cB1_3 = some ⟨.type "tuple", o1_5, .seq #[] n1_5, sl1_5⟩)
    {cA2 : Addr} (x2 : PySem.W.nsIn K mainGlobals "EXN" = some (some (.ref cA2)))
    {u2_1 : Tok}
    {u2_2 : Tok}
    {cB2_3 : Addr}
    {o2_4 : Option Addr} {n2_4 : Nat} {sl2_4 : Array (Option Value)} (y2_4 : K.lookup cA2 = some ⟨.type "tuple", o2_4, .seq #[.str "c" u2_1, .int 2 u2_2, .ref cB2_3] n2_4, sl2_4⟩)
    {o2_5 : Option Addr} {n2_5 : Nat} {sl2_5 : Array (Option Value)} (y2_5 : K.lookup cB2_3 = some ⟨.type "tuple", o2_5, .seq #[] n2_5, sl2_5⟩)
    {t3 : Tok} (x3 : PySem.W.nsIn K mainGlobals "FREE" = some (some (.int 1000000 t3)))
    {cA4 : Addr} (x4 : PySem.W.nsIn K mainGlobals "INT" = some (some (.ref cA4)))
    {u4_1 : Tok}
    {u4_2 : Tok}
    {cB4_3 : Addr}
    {o4_4 : Option Addr} {n4_4 : Nat} {sl4_4 : Array (Option Value)} (y4_4 : K.lookup cA4 = some ⟨.type "tuple", o4_4, .seq #[.str "c" u4_1, .int 0 u4_2, .ref cB4_3] n4_4, sl4_4⟩)
    {o4_5 : Option Addr} {n4_5 : Nat} {sl4_5 : Array (Option Value)} (y4_5 : K.lookup cB4_3 = some ⟨.type "tuple", o4_5, .seq #[] n4_5, sl4_5⟩)
    {t5 : Tok} (x5 : PySem.W.nsIn K mainGlobals "MAX_DEPTH" = some (some (.int 100 t5)))
    {t6 : Tok} (x6 : PySem.W.nsIn K mainGlobals "MAX_SIZE" = some (some (.int 2000 t6)))
    {cA7 : Addr} (x7 : PySem.W.nsIn K mainGlobals "UNIT" = some (some (.ref cA7)))
    {u7_1 : Tok}
    {u7_2 : Tok}
    {cB7_3 : Addr}
    {o7_4 : Option Addr} {n7_4 : Nat} {sl7_4 : Array (Option Value)} (y7_4 : K.lookup cA7 = some ⟨.type "tuple", o7_4, .seq #[.str "c" u7_1, .int 1 u7_2, .ref cB7_3] n7_4, sl7_4⟩)
    {o7_5 : Option Addr} {n7_5 : Nat} {sl7_5 : Array (Option Value)} (y7_5 : K.lookup cB7_3 = some ⟨.type "tuple", o7_5, .seq #[] n7_5, sl7_5⟩)
    : ∃ fd : FuncData, (∀ (s : Shared) (v : Value), BindsTo s fd ⟨[v], []⟩ [("script", v)]) ∧ ∀ base : Heap, K.In base → base.Ns mainGlobals mg → FnOk l.prog w K mg base CX0 15 fa fd ["script"] (spF K 1 FLaw) := by
  have e := hfa.symm.trans (PySem.W.mg_of X G a25)
  cases e
  have F1 := fun_mk (st := sIsNumber) l1 c1 k1
  have b1 := F1.binds (ps := ["value"]) fun _ _ _ _ _ _ us hl => match us, hl with | [_], _ => rfl
  have g1 := PySem.W.mg_of X G a1
  have F2 := fun_mk (st := sIsList) l2 c2 k2
  have b2 := F2.binds (ps := ["value", "low", "high"]) fun _ _ _ _ _ _ us hl => match us, hl with | [_, _, _], _ => rfl
  have g2 := PySem.W.mg_of X G a2
  have F3 := fun_mk (st := sIsShape) l3 c3 k3
  have b3 := F3.binds (ps := ["value", "arities"]) fun _ _ _ _ _ _ us hl => match us, hl with | [_, _], _ => rfl
  have g3 := PySem.W.mg_of X G a3
  have F4 := fun_mk (st := sIsNode) l4 c4 k4
  have b4 := F4.binds (ps := ["value", "arities"]) fun _ _ _ _ _ _ us hl => match us, hl with | [_, _], _ => rfl
  have g4 := PySem.W.mg_of X G a4
  have F5 := fun_mk (st := sPartsOfShape) l5 c5 k5
  have b5 := F5.binds (ps := ["shape"]) fun _ _ _ _ _ _ us hl => match us, hl with | [_], _ => rfl
  have g5 := PySem.W.mg_of X G a5
  have F6 := fun_mk (st := sMeasures) l6 c6 k6
  have b6 := F6.binds (ps := ["shape"]) fun _ _ _ _ _ _ us hl => match us, hl with | [_], _ => rfl
  have g6 := PySem.W.mg_of X G a6
  have F7 := fun_mk (st := sSize) l7 c7 k7
  have b7 := F7.binds (ps := ["shape"]) fun _ _ _ _ _ _ us hl => match us, hl with | [_], _ => rfl
  have g7 := PySem.W.mg_of X G a7
  have F8 := fun_mk (st := sDepth) l8 c8 k8
  have b8 := F8.binds (ps := ["shape"]) fun _ _ _ _ _ _ us hl => match us, hl with | [_], _ => rfl
  have g8 := PySem.W.mg_of X G a8
  have F9 := fun_mk (st := sVariables) l9 c9 k9
  have b9 := F9.binds (ps := ["shape"]) fun _ _ _ _ _ _ us hl => match us, hl with | [_], _ => rfl
  have g9 := PySem.W.mg_of X G a9
  have F10 := fun_mk (st := sLawTape) l10 c10 k10
  have b10 := F10.binds (ps := ["script", "many"]) fun _ _ _ _ _ _ us hl => match us, hl with | [_, _], _ => rfl
  have g10 := PySem.W.mg_of X G a10
  have F11 := fun_mk (st := sLawPick) l11 c11 k11
  have b11 := F11.binds (ps := ["tape", "at", "many"]) fun _ _ _ _ _ _ us hl => match us, hl with | [_, _, _], _ => rfl
  have g11 := PySem.W.mg_of X G a11
  have F12 := fun_mk (st := sLawLeaf) l12 c12 k12
  have b12 := F12.binds (ps := ["tape", "at", "free"]) fun _ _ _ _ _ _ us hl => match us, hl with | [_, _, _], _ => rfl
  have g12 := PySem.W.mg_of X G a12
  have F13 := fun_mk (st := sLawShape) l13 c13 k13
  have b13 := F13.binds (ps := ["tape", "at", "level", "free"]) fun _ _ _ _ _ _ us hl => match us, hl with | [_, _, _, _], _ => rfl
  have g13 := PySem.W.mg_of X G a13
  have F14 := fun_mk (st := sLawParts) l14 c14 k14
  have b14 := F14.binds (ps := ["shape"]) fun _ _ _ _ _ _ us hl => match us, hl with | [_], _ => rfl
  have g14 := PySem.W.mg_of X G a14
  have F15 := fun_mk (st := sLawRebuilt) l15 c15 k15
  have b15 := F15.binds (ps := ["shape", "parts"]) fun _ _ _ _ _ _ us hl => match us, hl with | [_, _], _ => rfl
  have g15 := PySem.W.mg_of X G a15
  have F16 := fun_mk (st := sLawVariables) l16 c16 k16
  have b16 := F16.binds (ps := ["shape", "found"]) fun _ _ _ _ _ _ us hl => match us, hl with | [_, _], _ => rfl
  have g16 := PySem.W.mg_of X G a16
  have F17 := fun_mk (st := sLawCount) l17 c17 k17
  have b17 := F17.binds (ps := ["shape"]) fun _ _ _ _ _ _ us hl => match us, hl with | [_], _ => rfl
  have g17 := PySem.W.mg_of X G a17
  have F18 := fun_mk (st := sLawDeep) l18 c18 k18
  have b18 := F18.binds (ps := ["shape"]) fun _ _ _ _ _ _ us hl => match us, hl with | [_], _ => rfl
  have g18 := PySem.W.mg_of X G a18
  have F19 := fun_mk (st := sLawWrong) l19 c19 k19
  have b19 := F19.binds (ps := ["pick"]) fun _ _ _ _ _ _ us hl => match us, hl with | [_], _ => rfl
  have g19 := PySem.W.mg_of X G a19
  have F20 := fun_mk (st := sLawSpoilt) l20 c20 k20
  have b20 := F20.binds (ps := ["shape", "tape", "at"]) fun _ _ _ _ _ _ us hl => match us, hl with | [_, _, _], _ => rfl
  have g20 := PySem.W.mg_of X G a20
  have F21 := fun_mk (st := sLawNodes) l21 c21 k21
  have b21 := F21.binds (ps := ["many"]) fun _ _ _ _ _ _ us hl => match us, hl with | [_], _ => rfl
  have g21 := PySem.W.mg_of X G a21
  have F22 := fun_mk (st := sLawWide) l22 c22 k22
  have b22 := F22.binds (ps := ["shape", "tape", "at"]) fun _ _ _ _ _ _ us hl => match us, hl with | [_, _, _], _ => rfl
  have g22 := PySem.W.mg_of X G a22
  have F23 := fun_mk (st := sLawConstants) l23 c23 k23
  have b23 := F23.binds (ps := []) fun _ _ _ _ _ _ us hl => match us, hl with | [], _ => rfl
  have g23 := PySem.W.mg_of X G a23
  have F24 := fun_mk (st := sLawSame) l24 c24 k24
  have b24 := F24.binds (ps := ["actual", "due"]) fun _ _ _ _ _ _ us hl => match us, hl with | [_, _], _ => rfl
  have g24 := PySem.W.mg_of X G a24
  have F25 := fun_mk (st := sLaw) l25 c25 k25
  have b25 := F25.binds (ps := ["script"]) fun _ _ _ _ _ _ us hl => match us, hl with | [_], _ => rfl
  have g25 := PySem.W.mg_of X G a25
  have nb_abs := PySem.W.mg_none_of X G z1
  have nb_bool := PySem.W.mg_none_of X G z2
  have nb_int := PySem.W.mg_none_of X G z3
  have nb_isinstance := PySem.W.mg_none_of X G z4
  have nb_len := PySem.W.mg_none_of X G z5
  have nb_list := PySem.W.mg_none_of X G z6
  have nb_max := PySem.W.mg_none_of X G z7
  have nb_range := PySem.W.mg_none_of X G z8
  have nb_tuple := PySem.W.mg_none_of X G z9
  have c_ARITIES : Cst K mg "ARITIES" (.tup [(.int 0), (.int 0), (.int 0), (.int 1), (.int 0), (.int 1), (.int 1), (.int 0)]) := ⟨.ref cA0, .ref cA0, PySem.W.mg_of X G x0, rfl, fun m H => (cst_tup (vs := [.int 0, .int 0, .int 0, .int 1, .int 0, .int 1, .int 1, .int 0]) y0_9 (show 8 ≤ 100000 by decide) (.cons ⟨_, rfl⟩ (.cons ⟨_, rfl⟩ (.cons ⟨_, rfl⟩ (.cons ⟨_, rfl⟩ (.cons ⟨_, rfl⟩ (.cons ⟨_, rfl⟩ (.cons ⟨_, rfl⟩ (.cons ⟨_, rfl⟩ .nil)))))))) (.cons (.int _) (.cons (.int _) (.cons (.int _) (.cons (.int _) (.cons (.int _) (.cons (.int _) (.cons (.int _) (.cons (.int _) .nil)))))))))⟩
  have c_BOOL : Cst K mg "BOOL" (.tup [(.str "c"), (.int 4), (.tup [])]) := ⟨.ref cA1, .ref cA1, PySem.W.mg_of X G x1, rfl, fun m H => (cst_tup (vs := [.str "c", .int 4, .ref cB1_3]) y1_4 (show 3 ≤ 100000 by decide) (.cons ⟨_, rfl⟩ (.cons ⟨_, rfl⟩ (.cons rfl .nil))) (.cons (.str _) (.cons (.int _) (.cons (cst_tup (vs := []) y1_5 (show 0 ≤ 100000 by decide)  .nil  .nil) .nil))))⟩
  have c_EXN : Cst K mg "EXN" (.tup [(.str "c"), (.int 2), (.tup [])]) := ⟨.ref cA2, .ref cA2, PySem.W.mg_of X G x2, rfl, fun m H => (cst_tup (vs := [.str "c", .int 2, .ref cB2_3]) y2_4 (show 3 ≤ 100000 by decide) (.cons ⟨_, rfl⟩ (.cons ⟨_, rfl⟩ (.cons rfl .nil))) (.cons (.str _) (.cons (.int _) (.cons (cst_tup (vs := []) y2_5 (show 0 ≤ 100000 by decide)  .nil  .nil) .nil))))⟩
  have c_FREE : Cst K mg "FREE" (.int 1000000) := cst_int (PySem.W.mg_of X G x3)
  have c_INT : Cst K mg "INT" (.tup [(.str "c"), (.int 0), (.tup [])]) := ⟨.ref cA4, .ref cA4, PySem.W.mg_of X G x4, rfl, fun m H => (cst_tup (vs := [.str "c", .int 0, .ref cB4_3]) y4_4 (show 3 ≤ 100000 by decide) (.cons ⟨_, rfl⟩ (.cons ⟨_, rfl⟩ (.cons rfl .nil))) (.cons (.str _) (.cons (.int _) (.cons (cst_tup (vs := []) y4_5 (show 0 ≤ 100000 by decide)  .nil  .nil) .nil))))⟩
  have c_MAX_DEPTH : Cst K mg "MAX_DEPTH" (.int 100) := cst_int (PySem.W.mg_of X G x5)
  have c_MAX_SIZE : Cst K mg "MAX_SIZE" (.int 2000) := cst_int (PySem.W.mg_of X G x6)
  have c_UNIT : Cst K mg "UNIT" (.tup [(.str "c"), (.int 1), (.tup [])]) := ⟨.ref cA7, .ref cA7, PySem.W.mg_of X G x7, rfl, fun m H => (cst_tup (vs := [.str "c", .int 1, .ref cB7_3]) y7_4 (show 3 ≤ 100000 by decide) (.cons ⟨_, rfl⟩ (.cons ⟨_, rfl⟩ (.cons rfl .nil))) (.cons (.str _) (.cons (.int _) (.cons (cst_tup (vs := []) y7_5 (show 0 ≤ 100000 by decide)  .nil  .nil) .nil))))⟩
  refine ⟨PySem.W.fnOf "law" "law" (defArgs sLaw) (defBody sLaw) (defScope sLaw) .none kV25 dc25 pm25 an25 cd25 ct25, fun s v => .of_eq rfl, fun base _ _ => ?_⟩
  have OIsNumber := okIsNumber (P := l.prog) (w := w) (base := base) (k := 0) F1 b1 g1 nb_bool nb_int nb_isinstance
  have OIsList := okIsList (P := l.prog) (w := w) (base := base) (k := 0) F2 b2 g2 nb_isinstance nb_len nb_tuple
  have OPartsOfShape := okPartsOfShape (P := l.prog) (w := w) (base := base) (k := 0) F5 b5 g5 
  have OIsNode := okIsNode (P := l.prog) (w := w) (base := base) (k := 1) F4 b4 g4 (OIsNumber.mono (by decide)) (OIsList.mono (by decide)) nb_isinstance nb_len nb_tuple
  have OIsShape := okIsShape (P := l.prog) (w := w) (base := base) (k := 2) F3 b3 g3 (OPartsOfShape.mono (by decide)) (OIsNode.mono (by decide)) c_MAX_DEPTH c_MAX_SIZE
  have OMeasures := okMeasures (P := l.prog) (w := w) (base := base) (k := 1) F6 b6 g6 (OPartsOfShape.mono (by decide)) nb_max
  have OSize := okSize (P := l.prog) (w := w) (base := base) (k := 2) F7 b7 g7 (OMeasures.mono (by decide))
  have ODepth := okDepth (P := l.prog) (w := w) (base := base) (k := 2) F8 b8 g8 (OMeasures.mono (by decide))
  have OVariables := okVariables (P := l.prog) (w := w) (base := base) (k := 1) F9 b9 g9 (OPartsOfShape.mono (by decide)) nb_tuple
  have OLawTape := okLawTape (P := l.prog) (w := w) (base := base) (k := 0) F10 b10 g10 nb_abs nb_int nb_len nb_max nb_range
  have OLawPick := okLawPick (P := l.prog) (w := w) (base := base) (k := 0) F11 b11 g11 nb_int nb_len
  have OLawLeaf := okLawLeaf (P := l.prog) (w := w) (base := base) (k := 1) F12 b12 g12 (OLawPick.mono (by decide)) nb_len
  have OLawShape : Own l.prog w K mg base 10 "_law_shape" ["tape", "at", "level", "free"] (FLawShape 8) := allLawShape (k0 := 2) F13 b13 g13 (OLawPick.mono (by decide)) (OLawLeaf.mono (by decide)) nb_range nb_tuple 8
  have OLawParts := okLawParts (P := l.prog) (w := w) (base := base) (k := 0) F14 b14 g14 
  have OLawRebuilt := okLawRebuilt (P := l.prog) (w := w) (base := base) (k := 0) F15 b15 g15 nb_tuple
  have OLawVariables : Own l.prog w K mg base 11 "_law_variables" ["shape", "found"] (FLawVariables 10) := allLawVariables (k0 := 1) F16 b16 g16 (OLawParts.mono (by decide)) 10
  have OLawCount : Own l.prog w K mg base 13 "_law_count" ["shape"] (FLawCount 12) := allLawCount (k0 := 1) F17 b17 g17 (OLawParts.mono (by decide)) 12
  have OLawDeep : Own l.prog w K mg base 13 "_law_deep" ["shape"] (FLawDeep 12) := allLawDeep (k0 := 1) F18 b18 g18 (OLawParts.mono (by decide)) nb_max 12
  have OLawWrong := okLawWrong (P := l.prog) (w := w) (base := base) (k := 0) F19 b19 g19 
  have OLawSpoilt : Own l.prog w K mg base 11 "_law_spoilt" ["shape", "tape", "at"] (FLawSpoilt 10) := allLawSpoilt (k0 := 1) F20 b20 g20 (OLawRebuilt.mono (by decide)) (OLawPick.mono (by decide)) (OLawWrong.mono (by decide)) (OLawParts.mono (by decide)) nb_len 10
  have OLawNodes : Own l.prog w K mg base 14 "_law_nodes" ["many"] (FLawNodes 14) := allLawNodes (k0 := 0) F21 b21 g21 14
  have OLawWide := okLawWide (P := l.prog) (w := w) (base := base) (k := 1) F22 b22 g22 (OLawPick.mono (by decide)) nb_tuple
  have OLawConstants := okLawConstants (P := l.prog) (w := w) (base := base) (k := 0) F23 b23 g23 c_ARITIES c_BOOL c_EXN c_FREE c_INT c_MAX_DEPTH c_MAX_SIZE c_UNIT
  have OLawSame := okLawSame (P := l.prog) (w := w) (base := base) (k := 0) F24 b24 g24 nb_bool nb_int nb_isinstance
  exact okLaw (P := l.prog) (w := w) (base := base) (k := 14) F25 (OIsShape.mono (by decide)) (OLawSpoilt.mono (by decide)) (OLawVariables.mono (by decide)) (OVariables.mono (by decide)) (OLawSame.mono (by decide)) (OLawDeep.mono (by decide)) (ODepth.mono (by decide)) (OLawCount.mono (by decide)) (OSize.mono (by decide)) (OLawWide.mono (by decide)) (OLawShape.mono (by decide)) (OLawNodes.mono (by decide)) (OLawConstants.mono (by decide)) (OLawPick.mono (by decide)) (OLawTape.mono (by decide)) nb_isinstance nb_list nb_range nb_tuple
end K10
open PySem PySem.W PyProof.Rows
set_option maxHeartbeats 0 in
theorem PySem.Challenge.cw_shapewright_k10_form_of_shapes_holds : PySem.Challenge.rw_shapewright_k10_form_of_shapes.Holds := by
  w_on; o_law; k_head; (case hw => w_witness2)
  k_fill
  refine L2.walk_of (l := PySem.Challenge.rw_shapewright_k10_form_of_shapes) (n := 63) (k := 15) (x := "script") (CX := fun _ => L2.CX0) (sp := fun w => Mir.spF _ 1 K10.FLaw) rfl (by decide) rfl ⟨rfl, by decide, by decide⟩ (fun w h Y => PySem.W.kIn_of Y) ?F (fun _ _ a ns hl hO hS => Mir.law_sp hO hS (K10.pure_law ns hl)) (fun _ _ _ _ _ h => h)
  case F =>
    intro w mg fa h KX G hmg
    refine' K10.all_mk KX G hmg ?a1 ?l1 ?c1 ?k1 ?a2 ?l2 ?c2 ?k2 ?a3 ?l3 ?c3 ?k3 ?a4 ?l4 ?c4 ?k4 ?a5 ?l5 ?c5 ?k5 ?a6 ?l6 ?c6 ?k6 ?a7 ?l7 ?c7 ?k7 ?a8 ?l8 ?c8 ?k8 ?a9 ?l9 ?c9 ?k9 ?a10 ?l10 ?c10 ?k10 ?a11 ?l11 ?c11 ?k11 ?a12 ?l12 ?c12 ?k12 ?a13 ?l13 ?c13 ?k13 ?a14 ?l14 ?c14 ?k14 ?a15 ?l15 ?c15 ?k15 ?a16 ?l16 ?c16 ?k16 ?a17 ?l17 ?c17 ?k17 ?a18 ?l18 ?c18 ?k18 ?a19 ?l19 ?c19 ?k19 ?a20 ?l20 ?c20 ?k20 ?a21 ?l21 ?c21 ?k21 ?a22 ?l22 ?c22 ?k22 ?a23 ?l23 ?c23 ?k23 ?a24 ?l24 ?c24 ?k24 ?a25 ?l25 ?c25 ?k25 ?z1 ?z2 ?z3 ?z4 ?z5 ?z6 ?z7 ?z8 ?z9 ?x0 ?y0_9 ?x1 ?y1_4 ?y1_5 ?x2 ?y2_4 ?y2_5 ?x3 ?x4 ?y4_4 ?y4_5 ?x5 ?x6 ?x7 ?y7_4 ?y7_5
    (case a1 => k_is)
    (case l1 => k_is)
    (case c1 => k_is)
    (case k1 => k_is)
    (case a2 => k_is)
    (case l2 => k_is)
    (case c2 => k_is)
    (case k2 => k_is)
    (case a3 => k_is)
    (case l3 => k_is)
    (case c3 => k_is)
    (case k3 => k_is)
    (case a4 => k_is)
    (case l4 => k_is)
    (case c4 => k_is)
    (case k4 => k_is)
    (case a5 => k_is)
    (case l5 => k_is)
    (case c5 => k_is)
    (case k5 => k_is)
    (case a6 => k_is)
    (case l6 => k_is)
    (case c6 => k_is)
    (case k6 => k_is)
    (case a7 => k_is)
    (case l7 => k_is)
    (case c7 => k_is)
    (case k7 => k_is)
    (case a8 => k_is)
    (case l8 => k_is)
    (case c8 => k_is)
    (case k8 => k_is)
    (case a9 => k_is)
    (case l9 => k_is)
    (case c9 => k_is)
    (case k9 => k_is)
    (case a10 => k_is)
    (case l10 => k_is)
    (case c10 => k_is)
    (case k10 => k_is)
    (case a11 => k_is)
    (case l11 => k_is)
    (case c11 => k_is)
    (case k11 => k_is)
    (case a12 => k_is)
    (case l12 => k_is)
    (case c12 => k_is)
    (case k12 => k_is)
    (case a13 => k_is)
    (case l13 => k_is)
    (case c13 => k_is)
    (case k13 => k_is)
    (case a14 => k_is)
    (case l14 => k_is)
    (case c14 => k_is)
    (case k14 => k_is)
    (case a15 => k_is)
    (case l15 => k_is)
    (case c15 => k_is)
    (case k15 => k_is)
    (case a16 => k_is)
    (case l16 => k_is)
    (case c16 => k_is)
    (case k16 => k_is)
    (case a17 => k_is)
    (case l17 => k_is)
    (case c17 => k_is)
    (case k17 => k_is)
    (case a18 => k_is)
    (case l18 => k_is)
    (case c18 => k_is)
    (case k18 => k_is)
    (case a19 => k_is)
    (case l19 => k_is)
    (case c19 => k_is)
    (case k19 => k_is)
    (case a20 => k_is)
    (case l20 => k_is)
    (case c20 => k_is)
    (case k20 => k_is)
    (case a21 => k_is)
    (case l21 => k_is)
    (case c21 => k_is)
    (case k21 => k_is)
    (case a22 => k_is)
    (case l22 => k_is)
    (case c22 => k_is)
    (case k22 => k_is)
    (case a23 => k_is)
    (case l23 => k_is)
    (case c23 => k_is)
    (case k23 => k_is)
    (case a24 => k_is)
    (case l24 => k_is)
    (case c24 => k_is)
    (case k24 => k_is)
    (case a25 => k_is)
    (case l25 => k_is)
    (case c25 => k_is)
    (case k25 => k_is)
    (case z1 => k_is)
    (case z2 => k_is)
    (case z3 => k_is)
    (case z4 => k_is)
    (case z5 => k_is)
    (case z6 => k_is)
    (case z7 => k_is)
    (case z8 => k_is)
    (case z9 => k_is)
    (case x0 => k_is)
    (case y0_9 => k_is)
    (case x1 => k_is)
    (case y1_4 => k_is)
    (case y1_5 => k_is)
    (case x2 => k_is)
    (case y2_4 => k_is)
    (case y2_5 => k_is)
    (case x3 => k_is)
    (case x4 => k_is)
    (case y4_4 => k_is)
    (case y4_5 => k_is)
    (case x5 => k_is)
    (case x6 => k_is)
    (case x7 => k_is)
    (case y7_4 => k_is)
    (case y7_5 => k_is)

