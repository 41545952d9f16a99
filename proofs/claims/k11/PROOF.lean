import PyProof.Rows.All
import Wide.All
import OpenK.AllK
import Wide.FinOn
import HandS.ForMost
import HandS.ForExc
import HandS.Rev
import HandS.TupAny
import HandS.More
import HandS.Star
import HandS.Codes
import HandS.DictComp
import HandS.SetKeys
import PySem.Challenge.RW_shapewright_k11_substitution

set_option Elab.async false
set_option linter.all false
set_option maxRecDepth 100000
namespace Vs
open PySem PySem.Spec PyProof.Rows L2
/-! ### heaps: the tuples stay -/
def ST (H H' : Hp) : Prop := ∀ b xs, H b = some (.tup xs) → H' b = some (.tup xs)
theorem ST.refl (H : Hp) : ST H H := fun _ _ h => h
theorem ST.trans {H H1 H2 : Hp} (a : ST H H1) (b : ST H1 H2) : ST H H2 := fun c o h => b c o (a c o h)
theorem ST.same {H H' : Hp} (h : Same H H') : ST H H' := fun b xs e => h b _ e
theorem ST.lst {H : Hp} {l : Addr} {xs : List V} (h : H l = some (.lst xs)) (o : HO) : ST H (upd H l o) := fun b ys e => by
  rw [upd_ne (ne_of e h (fun z => by cases z))]
  exact e
theorem ST.dct {H : Hp} {l : Addr} {xs : List (Key × V)} (h : H l = some (.dK xs)) (o : HO) : ST H (upd H l o) := fun b ys e => by
  rw [upd_ne (ne_of e h (fun z => by cases z))]
  exact e
theorem same_upd {H : Hp} {p : Addr} {o : HO} (h : H p = none) : Same H (upd H p o) := fun b x e => by
  rw [upd_ne (ne_of_none e h)]
  exact e
/-- H keeps what stood before l was made -/
theorem same_skip {H H' : Hp} {l : Addr} {o : HO} (h : Same H H') (hl : H l = none) : Same H (upd H' l o) := fun b x e => by
  rw [upd_ne (ne_of_none e hl)]
  exact h _ _ e
theorem zz (n : Nat) (h : n ≤ 1000 := by decide) : n ≤ sizeLine := Nat.le_of_lt (small1000 h)
/-! ### lists of ints -/
theorem cut_front (ns : List Int) : ∃ ms : List Int, cutV (ns.map V.int) none (some 63) = ms.map V.int ∧ ms.length ≤ 63 := by
  refine ⟨ns.take (min 63 ns.length), ?_, ?_⟩
  · unfold cutV
    rw [HT.sIx_none, List.drop_zero, Nat.sub_zero, List.map_take, List.length_map]
    exact congrArg (fun z => List.take z (ns.map V.int)) (HT.sIx_nat ns.length ns.length 63)
  · rw [List.length_take]
    omega
theorem snoc_map (cs : List Int) (x : Int) : cs.map V.int ++ [.int x] = (cs ++ [x]).map V.int := by
  rw [List.map_append]
  rfl
theorem int_at {ns : List Int} {i : Int} (h0 : 0 ≤ i) (h1 : i < (ns.length : Int)) : ∃ v : Int, atI (ns.map V.int) i = some (.int v) ∧ v ∈ ns := by
  obtain ⟨j, hj⟩ : ∃ j : Nat, i = (j : Int) := ⟨_, (Int.toNat_of_nonneg h0).symm⟩
  have hj2 : j < ns.length := by omega
  refine ⟨ns[j], ?_, List.getElem_mem hj2⟩
  rw [hj]
  refine atI_nat ?_
  rw [List.getElem?_map, List.getElem?_eq_getElem hj2]
  rfl
theorem cut_last (xs : List V) (v : V) : cutV (xs ++ [v]) none (some (-1)) = xs ∧ ¬ (HT.sIx (xs ++ [v]).length 0 none = 0 ∧ HT.sIx (xs ++ [v]).length (xs ++ [v]).length (some (-1)) = (xs ++ [v]).length) := by
  have e : HT.sIx (xs ++ [v]).length (xs ++ [v]).length (some (-1)) = xs.length := by
    show (if (-1 : Int) < 0 then ((-1 : Int) + ((xs ++ [v]).length : Int)).toNat else min (-1 : Int).toNat (xs ++ [v]).length) = _
    rw [if_pos (by decide), List.length_append, List.length_singleton]
    omega
  refine ⟨?_, ?_⟩
  · unfold cutV
    rw [e, HT.sIx_none, List.drop_zero, Nat.sub_zero]
    exact List.take_left
  · rw [e, List.length_append, List.length_singleton]
    omega
/-- the number that a draw gives -/
def pk (ts : List Int) (at_ many : Int) : Int := ts.getD (at_ % (ts.length : Int)).toNat 0 % many
theorem pk_lo {ts : List Int} {a m : Int} (h : 0 < m) : 0 ≤ pk ts a m := Int.emod_nonneg _ (by omega)
theorem pk_hi {ts : List Int} {a m : Int} (h : 0 < m) : pk ts a m < m := Int.emod_lt_of_pos _ h

/-! ### shapes as data -/
inductive D where
  | v (n : Int)
  | c (s : Int) (as : List D)
  | t (as : List D)
  | f (a b : D)
def D.kids : D → List D
  | .v _ => []
  | .c _ as => as
  | .t as => as
  | .f a b => [a, b]
def D.isV : D → Bool
  | .v _ => true
  | _ => false
mutual
def D.size : D → Nat
  | .v _ => 1
  | .c _ as => 1 + D.sizeL as
  | .t as => 1 + D.sizeL as
  | .f a b => 1 + (a.size + (b.size + 0))
def D.sizeL : List D → Nat
  | [] => 0
  | x :: r => x.size + D.sizeL r
end
mutual
def D.depth : D → Nat
  | .v _ => 1
  | .c _ as => 1 + D.depthL as
  | .t as => 1 + D.depthL as
  | .f a b => 1 + max a.depth (max b.depth 0)
def D.depthL : List D → Nat
  | [] => 0
  | x :: r => max x.depth (D.depthL r)
end
mutual
def D.sub (m : Int → Option D) : D → D
  | .v n => (m n).getD (.v n)
  | .c s as => .c s (D.subL m as)
  | .t as => .t (D.subL m as)
  | .f a b => .f (a.sub m) (b.sub m)
def D.subL (m : Int → Option D) : List D → List D
  | [] => []
  | x :: r => x.sub m :: D.subL m r
end
mutual
def D.py : D → PyData
  | .v n => .tuple [.str "v", .int n]
  | .c s as => .tuple [.str "c", .int s, .tuple (D.pyL as)]
  | .t as => .tuple [.str "t", .tuple (D.pyL as)]
  | .f a b => .tuple [.str "f", a.py, b.py]
def D.pyL : List D → List PyData
  | [] => []
  | x :: r => x.py :: D.pyL r
end
theorem size_kids : ∀ d : D, d.size = 1 + D.sizeL d.kids
  | .v _ => rfl
  | .c _ _ => by simp only [D.size, D.kids]
  | .t _ => by simp only [D.size, D.kids]
  | .f a b => by simp only [D.size, D.kids, D.sizeL]
theorem depth_kids : ∀ d : D, d.depth = 1 + D.depthL d.kids
  | .v _ => rfl
  | .c _ _ => by simp only [D.depth, D.kids]
  | .t _ => by simp only [D.depth, D.kids]
  | .f a b => by simp only [D.depth, D.kids, D.depthL]
theorem size_pos (d : D) : 1 ≤ d.size := by
  rw [size_kids]
  omega
theorem depth_pos (d : D) : 1 ≤ d.depth := by
  rw [depth_kids]
  omega
theorem sub_kids (m : Int → Option D) : ∀ d : D, d.isV = false → (d.sub m).kids = D.subL m d.kids
  | .v _, h => by cases h
  | .c _ _, _ => by simp only [D.sub, D.kids]
  | .t _, _ => by simp only [D.sub, D.kids]
  | .f _ _, _ => by simp only [D.sub, D.kids, D.subL]
theorem subL_map (m : Int → Option D) : ∀ as : List D, D.subL m as = as.map (D.sub m)
  | [] => rfl
  | x :: r => by rw [D.subL, subL_map m r, List.map_cons]
theorem subL_len (m : Int → Option D) (as : List D) : (D.subL m as).length = as.length := by rw [subL_map, List.length_map]
theorem sizeL_app : ∀ a b : List D, D.sizeL (a ++ b) = D.sizeL a + D.sizeL b
  | [], b => by rw [List.nil_append, D.sizeL, Nat.zero_add]
  | x :: r, b => by rw [List.cons_append, D.sizeL, D.sizeL, sizeL_app r b, Nat.add_assoc]
theorem depthL_app : ∀ a b : List D, D.depthL (a ++ b) = max (D.depthL a) (D.depthL b)
  | [], b => by rw [List.nil_append, D.depthL, Nat.zero_max]
  | x :: r, b => by rw [List.cons_append, D.depthL, D.depthL, depthL_app r b, Nat.max_assoc]
theorem depthL_mem {x : D} : ∀ {l : List D}, x ∈ l → x.depth ≤ D.depthL l
  | y :: r, h => by
    rw [D.depthL]
    rcases List.mem_cons.mp h with rfl | h
    · omega
    · have := depthL_mem h
      omega
theorem depthL_ex : ∀ {l : List D}, l ≠ [] → ∃ x ∈ l, x.depth = D.depthL l
  | [], h => absurd rfl h
  | [x], _ => ⟨x, List.mem_cons_self, by rw [D.depthL, D.depthL]; omega⟩
  | x :: y :: r, _ => by
    obtain ⟨z, hz, e⟩ := depthL_ex (l := y :: r) (List.cons_ne_nil _ _)
    by_cases h : x.depth ≤ D.depthL (y :: r)
    · exact ⟨z, List.mem_cons_of_mem _ hz, by rw [D.depthL, e]; omega⟩
    · exact ⟨x, List.mem_cons_self, by rw [D.depthL]; omega⟩
/-- a node with other parts -/
def D.with : D → List D → D
  | .v n, _ => .v n
  | .c s _, ds => .c s ds
  | .t _, ds => .t ds
  | .f a b, ds => .f (ds.getD 0 a) (ds.getD 1 b)
theorem with_sub (m : Int → Option D) : ∀ d : D, d.isV = false → d.with (D.subL m d.kids) = d.sub m
  | .v _, h => by cases h
  | .c _ _, _ => by simp only [D.sub, D.kids, D.with]
  | .t _, _ => by simp only [D.sub, D.kids, D.with]
  | .f a b, _ => by
    simp only [D.sub, D.kids, D.with, D.subL]
    rfl
mutual
theorem sub_none (m : Int → Option D) (h : ∀ n, m n = none) : ∀ d : D, d.sub m = d
  | .v n => by rw [D.sub, h n]; rfl
  | .c s as => by rw [D.sub, subL_none m h as]
  | .t as => by rw [D.sub, subL_none m h as]
  | .f a b => by rw [D.sub, sub_none m h a, sub_none m h b]
theorem subL_none (m : Int → Option D) (h : ∀ n, m n = none) : ∀ as : List D, D.subL m as = as
  | [] => rfl
  | x :: r => by rw [D.subL, sub_none m h x, subL_none m h r]
end
mutual
theorem py_lay : ∀ d : D, d.py.canLay0 = true
  | .v n => by
    rw [D.py]
    show (_ && (true && true)) = true
    decide +kernel
  | .c s as => by
    rw [D.py]
    show ((PyData.str "c").canLay0 && (true && (PyData.canLayAll0 (D.pyL as) && true))) = true
    rw [pyL_lay as]
    decide +kernel
  | .t as => by
    rw [D.py]
    show ((PyData.str "t").canLay0 && (PyData.canLayAll0 (D.pyL as) && true)) = true
    rw [pyL_lay as]
    decide +kernel
  | .f a b => by
    rw [D.py]
    show ((PyData.str "f").canLay0 && (a.py.canLay0 && (b.py.canLay0 && true))) = true
    rw [py_lay a, py_lay b]
    decide +kernel
theorem pyL_lay : ∀ as : List D, PyData.canLayAll0 (D.pyL as) = true
  | [] => rfl
  | x :: r => by
    rw [D.pyL]
    show (x.py.canLay0 && PyData.canLayAll0 (D.pyL r)) = true
    rw [py_lay x, pyL_lay r]
    rfl
end
mutual
theorem py_depth : ∀ d : D, d.py.depth ≤ 2 * d.depth
  | .v n => by
    simp only [D.py, PyData.depth, PyData.depthAll, D.depth]
    omega
  | .c s as => by
    have := pyL_depth as
    simp only [D.py, PyData.depth, PyData.depthAll, D.depth]
    omega
  | .t as => by
    have := pyL_depth as
    simp only [D.py, PyData.depth, PyData.depthAll, D.depth]
    omega
  | .f a b => by
    have := py_depth a
    have := py_depth b
    simp only [D.py, PyData.depth, PyData.depthAll, D.depth]
    omega
theorem pyL_depth : ∀ as : List D, PyData.depthAll (D.pyL as) ≤ 2 * D.depthL as
  | [] => by simp only [D.pyL, PyData.depthAll, D.depthL]; omega
  | x :: r => by
    have := py_depth x
    have := pyL_depth r
    simp only [D.pyL, PyData.depthAll, D.depthL]
    omega
end
theorem py_self (d : D) : PyData.eqv d.py d.py = true := SeqAt.eqv_refl d.py (py_lay d)

/-! ### shapes in the heap -/
/-- a tuple: made in the run, or written at the top -/
def TA (K : PySem.W.Frag) (H : Hp) (a : Addr) (xs : List V) : Prop :=
  H a = some (.tup xs) ∨ ∃ (o : Obj) (its : Array Value) (n : Nat), K.lookup a = some o ∧ o.cls = .type "tuple" ∧ o.data = .seq its n ∧ its.size ≤ sizeLine ∧ Vals xs its.toList
theorem TA.of {K : PySem.W.Frag} {H : Hp} {a : Addr} {xs : List V} (h : H a = some (.tup xs)) : TA K H a xs := .inl h
theorem TA.sq {K : PySem.W.Frag} {H : Hp} {a : Addr} {xs : List V} (h : TA K H a xs) : SqT K H a xs := by
  rcases h with h | h
  · exact .inl (.inl h)
  · exact .inr h
theorem TA.mono {K : PySem.W.Frag} {H H' : Hp} (s : ST H H') {a : Addr} {xs : List V} (h : TA K H a xs) : TA K H' a xs := by
  rcases h with h | h
  · exact .inl (s _ _ h)
  · exact .inr h
mutual
inductive Rp (K : PySem.W.Frag) (H : Hp) : V → D → Prop
  | v {p : Addr} {n : Int} : TA K H p [.str "v", .int n] → Rp K H (.ref p) (.v n)
  | c {p q : Addr} {s : Int} {vs : List V} {as : List D} : TA K H p [.str "c", .int s, .ref q] → TA K H q vs → RpL K H vs as → Rp K H (.ref p) (.c s as)
  | t {p q : Addr} {vs : List V} {as : List D} : TA K H p [.str "t", .ref q] → TA K H q vs → RpL K H vs as → Rp K H (.ref p) (.t as)
  | f {p : Addr} {x y : V} {a b : D} : TA K H p [.str "f", x, y] → Rp K H x a → Rp K H y b → Rp K H (.ref p) (.f a b)
inductive RpL (K : PySem.W.Frag) (H : Hp) : List V → List D → Prop
  | nil : RpL K H [] []
  | cons {v : V} {vs : List V} {d : D} {ds : List D} : Rp K H v d → RpL K H vs ds → RpL K H (v :: vs) (d :: ds)
end
section
variable {K : PySem.W.Frag} {H H' : Hp}
mutual
theorem Rp.mono (s : ST H H') : ∀ {d : D} {v : V}, Rp K H v d → Rp K H' v d
  | .v _, _, h => by
    cases h with
    | v h => exact .v (h.mono s)
  | .c _ as, _, h => by
    cases h with
    | c h1 h2 h3 => exact .c (h1.mono s) (h2.mono s) (RpL.mono s h3)
  | .t as, _, h => by
    cases h with
    | t h1 h2 h3 => exact .t (h1.mono s) (h2.mono s) (RpL.mono s h3)
  | .f a b, _, h => by
    cases h with
    | f h1 h2 h3 => exact .f (h1.mono s) (Rp.mono s h2) (Rp.mono s h3)
theorem RpL.mono (s : ST H H') : ∀ {ds : List D} {vs : List V}, RpL K H vs ds → RpL K H' vs ds
  | [], _, h => by
    cases h
    exact .nil
  | d :: r, _, h => by
    cases h with
    | cons h1 h2 => exact .cons (Rp.mono s h1) (RpL.mono s h2)
end
theorem Rp.same (s : Same H H') {d : D} {v : V} (h : Rp K H v d) : Rp K H' v d := h.mono (ST.same s)
theorem RpL.same (s : Same H H') {d : List D} {v : List V} (h : RpL K H v d) : RpL K H' v d := h.mono (ST.same s)
mutual
theorem Rp.dp : ∀ {d : D} {v : V}, Rp K H v d → Dp K H v d.py
  | .v n, _, h => by
    cases h with
    | v h => rw [D.py]; exact .tup h.sq (.cons (.str _) (.cons (.int _) .nil))
  | .c _ as, _, h => by
    cases h with
    | c h1 h2 h3 => rw [D.py]; exact .tup h1.sq (.cons (.str _) (.cons (.int _) (.cons (.tup h2.sq (RpL.dp h3)) .nil)))
  | .t as, _, h => by
    cases h with
    | t h1 h2 h3 => rw [D.py]; exact .tup h1.sq (.cons (.str _) (.cons (.tup h2.sq (RpL.dp h3)) .nil))
  | .f a b, _, h => by
    cases h with
    | f h1 h2 h3 => rw [D.py]; exact .tup h1.sq (.cons (.str _) (.cons (Rp.dp h2) (.cons (Rp.dp h3) .nil)))
theorem RpL.dp : ∀ {ds : List D} {vs : List V}, RpL K H vs ds → DpAll K H vs (D.pyL ds)
  | [], _, h => by
    cases h
    exact .nil
  | d :: r, _, h => by
    cases h with
    | cons h1 h2 => rw [D.pyL]; exact .cons (Rp.dp h1) (RpL.dp h2)
end
theorem RpL.len : ∀ {ds : List D} {vs : List V}, RpL K H vs ds → vs.length = ds.length
  | [], _, h => by cases h; rfl
  | d :: r, _, h => by
    cases h with
    | cons h1 h2 => rw [List.length_cons, List.length_cons, RpL.len h2]
theorem RpL.get : ∀ {ds : List D} {vs : List V} {i : Nat} {x : V}, RpL K H vs ds → vs[i]? = some x → ∃ d, ds[i]? = some d ∧ Rp K H x d
  | [], _, i, x, h, e => by cases h; cases e
  | d :: r, _, 0, x, h, e => by
    cases h with
    | cons h1 h2 => cases e; exact ⟨_, rfl, h1⟩
  | d :: r, _, i + 1, x, h, e => by
    cases h with
    | cons h1 h2 => exact RpL.get (i := i) h2 e
theorem RpL.at : ∀ {ds : List D} {vs : List V} {i : Nat} {d : D}, RpL K H vs ds → ds[i]? = some d → ∃ x, vs[i]? = some x ∧ Rp K H x d
  | [], _, i, x, h, e => by cases e
  | d :: r, _, 0, x, h, e => by
    cases h with
    | cons h1 h2 => cases e; exact ⟨_, rfl, h1⟩
  | d :: r, _, i + 1, x, h, e => by
    cases h with
    | cons h1 h2 => exact RpL.at (i := i) h2 e
theorem RpL.app : ∀ {ds es : List D} {vs ws : List V}, RpL K H vs ds → RpL K H ws es → RpL K H (vs ++ ws) (ds ++ es)
  | [], _, _, _, h, g => by cases h; exact g
  | d :: r, _, _, _, h, g => by
    cases h with
    | cons h1 h2 => exact .cons h1 (RpL.app h2 g)
/-- what stands first in a shape's tuple -/
theorem Rp.tag : ∀ {d : D} {v : V}, Rp K H v d → ∃ p k rest, v = .ref p ∧ TA K H p (.str k :: rest) ∧ (d.isV = true ↔ k = "v") ∧ ((∃ a b, d = .f a b) ↔ k = "f")
  | .v n, _, h => by
    cases h with
    | v h => exact ⟨_, _, _, rfl, h, ⟨fun _ => rfl, fun _ => rfl⟩, ⟨fun ⟨_, _, e⟩ => (by cases e), fun e => absurd e (by decide +kernel)⟩⟩
  | .c _ as, _, h => by
    cases h with
    | c h1 h2 h3 => exact ⟨_, _, _, rfl, h1, ⟨fun e => (by cases e), fun e => absurd e (by decide +kernel)⟩, ⟨fun ⟨_, _, e⟩ => (by cases e), fun e => absurd e (by decide +kernel)⟩⟩
  | .t as, _, h => by
    cases h with
    | t h1 h2 h3 => exact ⟨_, _, _, rfl, h1, ⟨fun e => (by cases e), fun e => absurd e (by decide +kernel)⟩, ⟨fun ⟨_, _, e⟩ => (by cases e), fun e => absurd e (by decide +kernel)⟩⟩
  | .f a b, _, h => by
    cases h with
    | f h1 h2 h3 => exact ⟨_, _, _, rfl, h1, ⟨fun e => (by cases e), fun e => absurd e (by decide +kernel)⟩, ⟨fun _ => rfl, fun _ => ⟨_, _, rfl⟩⟩⟩
end

theorem zbig {n : Nat} (h : n ≤ 100000) : n < sizeLine := Nat.lt_of_le_of_lt h (by decide)
theorem iteY {A B : Prop} {x : V} (h : A) : if decide (x = x) = true then A else B := by
  rw [decide_eq_true rfl, if_pos rfl]
  exact h
theorem iteN {A B : Prop} {x y : V} (hne : x ≠ y) (h : B) : if decide (x = y) = true then A else B := by
  rw [decide_eq_false hne, if_neg Bool.false_ne_true]
  exact h
/-! ### the stack of a walk -/
def szS : List (D × Nat) → Nat
  | [] => 0
  | x :: r => x.1.size + szS r
def dpS : List (D × Nat) → Nat
  | [] => 0
  | x :: r => max (x.2 + x.1.depth - 1) (dpS r)
theorem szS_app : ∀ a b : List (D × Nat), szS (a ++ b) = szS a + szS b
  | [], b => by rw [List.nil_append, szS, Nat.zero_add]
  | x :: r, b => by rw [List.cons_append, szS, szS, szS_app r b, Nat.add_assoc]
theorem dpS_app : ∀ a b : List (D × Nat), dpS (a ++ b) = max (dpS a) (dpS b)
  | [], b => by rw [List.nil_append, dpS, Nat.zero_max]
  | x :: r, b => by rw [List.cons_append, dpS, dpS, dpS_app r b, Nat.max_assoc]
def push (l : Nat) (ds : List D) : List (D × Nat) := ds.map fun d => (d, l)
theorem szS_push (l : Nat) : ∀ ds : List D, szS (push l ds) = D.sizeL ds
  | [] => rfl
  | x :: r => by
    show x.size + szS (push l r) = x.size + D.sizeL r
    rw [szS_push l r]
theorem dpS_push (l : Nat) : ∀ ds : List D, ds ≠ [] → dpS (push l ds) = l + D.depthL ds - 1
  | [], h => absurd rfl h
  | [x], _ => by
    show max (l + x.depth - 1) 0 = l + D.depthL [x] - 1
    simp only [D.depthL]
    omega
  | x :: y :: r, _ => by
    show max (l + x.depth - 1) (dpS (push l (y :: r))) = l + D.depthL (x :: y :: r) - 1
    rw [dpS_push l (y :: r) (List.cons_ne_nil _ _)]
    have e : D.depthL (x :: y :: r) = max x.depth (D.depthL (y :: r)) := by simp only [D.depthL]
    rw [e]
    have h1 := depth_pos x
    have h2 : 1 ≤ D.depthL (y :: r) := by
      rw [D.depthL]
      have := depth_pos y
      omega
    omega
theorem len_szS : ∀ its : List (D × Nat), its.length ≤ szS its
  | [] => Nat.le_refl _
  | x :: r => by
    have h1 := len_szS r
    have h2 := size_pos x.1
    show r.length + 1 ≤ x.1.size + szS r
    omega
inductive Stk (K : PySem.W.Frag) (H : Hp) : List V → List (D × Nat) → Prop
  | nil : Stk K H [] []
  | cons {p : Addr} {x : V} {d : D} {l : Nat} {ws : List V} {its : List (D × Nat)} : H p = some (.tup [x, .int (l : Int)]) → Rp K H x d → Stk K H ws its → Stk K H (.ref p :: ws) ((d, l) :: its)
section
variable {K : PySem.W.Frag} {H H' : Hp}
theorem Stk.mono (s : ST H H') {ws : List V} {its : List (D × Nat)} (h : Stk K H ws its) : Stk K H' ws its := by
  induction h with
  | nil => exact .nil
  | cons h1 h2 _ ih => exact .cons (s _ _ h1) (h2.mono s) ih
theorem Stk.len {ws : List V} {its : List (D × Nat)} (h : Stk K H ws its) : ws.length = its.length := by
  induction h with
  | nil => rfl
  | cons h1 h2 _ ih => rw [List.length_cons, List.length_cons, ih]
theorem Stk.app {ws vs : List V} {its jts : List (D × Nat)} (h : Stk K H ws its) (g : Stk K H vs jts) : Stk K H (ws ++ vs) (its ++ jts) := by
  induction h with
  | nil => exact g
  | cons h1 h2 _ ih => exact .cons h1 h2 ih
/-- the last of the stack -/
theorem Stk.last {ws : List V} {its : List (D × Nat)} (h : Stk K H ws its) : (ws = [] ∧ its = []) ∨ ∃ ws' its' p x d l, ws = ws' ++ [.ref p] ∧ its = its' ++ [(d, l)] ∧ Stk K H ws' its' ∧ H p = some (.tup [x, .int ((l : Nat) : Int)]) ∧ Rp K H x d := by
  induction h with
  | nil => exact .inl ⟨rfl, rfl⟩
  | @cons p x d l ws its h1 h2 h3 ih =>
    rcases ih with ⟨rfl, rfl⟩ | ⟨ws', its', p', x', d', l', rfl, rfl, h4, h5, h6⟩
    · exact .inr ⟨[], [], p, x, d, l, rfl, rfl, .nil, h1, h2⟩
    · exact .inr ⟨.ref p :: ws', (d, l) :: its', p', x', d', l', rfl, rfl, .cons h1 h2 h4, h5, h6⟩
end
theorem last_get (xs : List V) (y : V) : (xs ++ [y])[(xs ++ [y]).length - 1]? = some y := by
  rw [List.length_append, List.length_singleton, Nat.add_sub_cancel, List.getElem?_append_right (Nat.le_refl _), Nat.sub_self]
  rfl
structure Own (P : Program) (w : World) (K : PySem.W.Frag) (mg : Str → Option Value) (base : Heap) (CX : CXT) (n : Nat) (x : Str) (f : Addr) (fd : FuncData) (ps : List Str) (sp : Sp) : Prop where
  ok : FnOk P w K mg base CX n f fd ps sp
  bd : Binds K fd ps []
  kp : PySem.W.keepIn K (.ref f) = true
  at_ : mg x = some (.ref f)
/-! ### promises of the program's functions -/
def spParts (K : PySem.W.Frag) : Sp := fun vs H Q _ => ∃ (x : V) (d : D), vs = [x] ∧ Rp K H x d ∧ ∀ H' q ws, Same H H' → TA K H' q ws → RpL K H' ws d.kids → Q (.ref q) H'
def spWith (K : PySem.W.Frag) : Sp := fun vs H Q _ => ∃ (x : V) (d : D) (L : Addr) (ws : List V) (ds : List D), vs = [x, .ref L] ∧ Rp K H x d ∧ d.isV = false ∧ H L = some (.lst ws) ∧ RpL K H ws ds ∧ ds.length = d.kids.length ∧
  ∀ H' v', Same H H' → Rp K H' v' (d.with ds) → Q v' H'
def spMeas (K : PySem.W.Frag) : Sp := fun vs H Q _ => ∃ (x : V) (d : D), vs = [x] ∧ Rp K H x d ∧ d.size ≤ 90000 ∧ ∀ H' r, Same H H' → H' r = some (.tup [.int (d.size : Int), .int (d.depth : Int)]) → Q (.ref r) H'

/-! ### mappings -/
def lk (ms : List (Int × D)) (n : Int) : Option D := (ms.find? fun p => decide (p.1 = n)).map (·.2)
theorem lk_nil (n : Int) : lk [] n = none := rfl
theorem lk_pos {p : Int × D} {r : List (Int × D)} {n : Int} (e : p.1 = n) : lk (p :: r) n = some p.2 := by simp [lk, List.find?_cons, e]
theorem lk_neg {p : Int × D} {r : List (Int × D)} {n : Int} (e : ¬ p.1 = n) : lk (p :: r) n = lk r n := by simp [lk, List.find?_cons, e]
theorem lk_mem {ms : List (Int × D)} {n : Int} {e : D} (h : lk ms n = some e) : (n, e) ∈ ms := by
  induction ms with
  | nil => cases h
  | cons p r ih =>
    by_cases c : p.1 = n
    · rw [lk_pos c] at h
      cases h
      subst c
      exact List.mem_cons_self
    · rw [lk_neg c] at h
      exact List.mem_cons_of_mem _ (ih h)
inductive MpL (K : PySem.W.Frag) (H : Hp) : List (Key × V) → List (Int × D) → Prop
  | nil : MpL K H [] []
  | cons {n : Int} {v : V} {d : D} {kvs : List (Key × V)} {ms : List (Int × D)} : Rp K H v d → MpL K H kvs ms → MpL K H ((.inl n, v) :: kvs) ((n, d) :: ms)
section
variable {K : PySem.W.Frag} {H H' : Hp}
theorem MpL.mono (s : ST H H') {kvs : List (Key × V)} {ms : List (Int × D)} (h : MpL K H kvs ms) : MpL K H' kvs ms := by
  induction h with
  | nil => exact .nil
  | cons h1 _ ih => exact .cons (h1.mono s) ih
theorem MpL.get (n : Int) {kvs : List (Key × V)} {ms : List (Int × D)} (h : MpL K H kvs ms) : (valV kvs (.inl n) = none ∧ lk ms n = none) ∨ ∃ v d, valV kvs (.inl n) = some v ∧ lk ms n = some d ∧ Rp K H v d := by
  induction h with
  | nil => exact .inl ⟨rfl, rfl⟩
  | @cons k v d kvs ms h1 _ ih =>
    by_cases c : k = n
    · subst c
      exact .inr ⟨v, d, valV_pos rfl, lk_pos rfl, h1⟩
    · have c' : ¬ (Sum.inl k : Key) = Sum.inl n := fun z => c (Sum.inl.inj z)
      rw [valV_neg c', lk_neg c]
      exact ih
theorem MpL.len {kvs : List (Key × V)} {ms : List (Int × D)} (h : MpL K H kvs ms) : kvs.length = ms.length := by
  induction h with
  | nil => rfl
  | cons h1 _ ih => rw [List.length_cons, List.length_cons, ih]
theorem MpL.app {kvs kvs' : List (Key × V)} {ms ms' : List (Int × D)} (h : MpL K H kvs ms) (g : MpL K H kvs' ms') : MpL K H (kvs ++ kvs') (ms ++ ms') := by
  induction h with
  | nil => exact g
  | cons h1 _ ih => exact .cons h1 ih
end
def MpAt (K : PySem.W.Frag) (H : Hp) (m : Addr) (ms : List (Int × D)) : Prop := ∃ kvs, H m = some (.dK kvs) ∧ MpL K H kvs ms
theorem MpAt.same {K : PySem.W.Frag} {H H' : Hp} (s : Same H H') {m : Addr} {ms : List (Int × D)} (h : MpAt K H m ms) : MpAt K H' m ms := by
  obtain ⟨kvs, h1, h2⟩ := h
  exact ⟨kvs, s _ _ h1, h2.mono (ST.same s)⟩
def big (r : D) : Prop := r.size > 2000 ∨ r.depth > 100
def subS (m : Int → Option D) (its : List (D × Nat)) : List (D × Nat) := its.map fun it => (it.1.sub m, it.2)
theorem subS_app (m : Int → Option D) (a b : List (D × Nat)) : subS m (a ++ b) = subS m a ++ subS m b := List.map_append
theorem subS_push (m : Int → Option D) (l : Nat) (ds : List D) : subS m (push l ds) = push l (D.subL m ds) := by
  unfold subS push
  rw [subL_map, List.map_map, List.map_map]
  rfl
def KnOk (H : Hp) (kvs : List (Key × V)) (m : Int → Option D) : Prop := ∀ n v, valV kvs (.inl n) = some v → ∃ p e, v = .ref p ∧ m n = some e ∧ H p = some (.tup [.int (e.size : Int), .int (e.depth : Int)])
theorem KnOk.mono {H H' : Hp} (s : ST H H') {kvs : List (Key × V)} {m : Int → Option D} (h : KnOk H kvs m) : KnOk H' kvs m := fun n v e => by
  obtain ⟨p, d, e1, e2, e3⟩ := h n v e
  exact ⟨p, d, e1, e2, s _ _ e3⟩
theorem sub_size_v {m : Int → Option D} {n : Int} {e : D} (h : m n = some e) : (D.v n).sub m = e := by
  rw [D.sub, h]
  rfl
theorem sub_v_none {m : Int → Option D} {n : Int} (h : m n = none) : (D.v n).sub m = .v n := by
  rw [D.sub, h]
  rfl
/-- what an exception class of the program's own is known by -/
structure ExcT (K : PySem.W.Frag) (mg : Str → Option Value) (x : Str) (C : Addr) : Prop where
  gP : mg x = some (.ref C)
  xP : PySem.W.excIn K C [.type "ValueError", .type "Exception", .type "BaseException", .type "object"] "ValueError.__new__" = true
  kP : PySem.W.keepIn K (.ref C) = true
  bP : PySem.W.subIn K (.ref C) (.type "BaseException") = some true
  tP : PySem.W.typeIn K (.ref C) = some (.type "type")
  iP : PySem.W.isClsIn K C = true
  sP : PySem.W.subIn K (.ref C) (.ref C) = some true
def spCheck (K : PySem.W.Frag) (C : Addr) : Sp := fun vs H Q E => ∃ (x : V) (d : D) (m : Addr) (ms : List (Int × D)), vs = [x, .ref m] ∧ Rp K H x d ∧ MpAt K H m ms ∧ d.size ≤ 90000 ∧ (∀ n e, lk ms n = some e → e.size ≤ 90000) ∧
  (big (d.sub (lk ms)) → ∀ H', Same H H' → E (.ref C) none H') ∧ (¬ big (d.sub (lk ms)) → ∀ H', Same H H' → Q .non H')

mutual
theorem depth_sub (m : Int → Option D) : ∀ d : D, d.depth ≤ (d.sub m).depth
  | .v n => by
    show 1 ≤ _
    exact depth_pos _
  | .c s as => by
    have := depthL_sub m as
    simp only [D.sub, D.depth]
    omega
  | .t as => by
    have := depthL_sub m as
    simp only [D.sub, D.depth]
    omega
  | .f a b => by
    have := depth_sub m a
    have := depth_sub m b
    simp only [D.sub, D.depth]
    omega
theorem depthL_sub (m : Int → Option D) : ∀ as : List D, D.depthL as ≤ D.depthL (D.subL m as)
  | [] => Nat.le_refl _
  | x :: r => by
    have := depth_sub m x
    have := depthL_sub m r
    simp only [D.subL, D.depthL]
    omega
end
theorem kids_len (d : D) : d.kids.length ≤ d.size := by
  rw [size_kids]
  have t6 := len_szS (push 0 d.kids)
  rw [szS_push] at t6
  have t7 : (push 0 d.kids).length = d.kids.length := List.length_map _
  omega
theorem kid_size {d x : D} (h : x ∈ d.kids) : x.size < d.size := by
  rw [size_kids d]
  have : ∀ l : List D, x ∈ l → x.size ≤ D.sizeL l := by
    intro l
    induction l with
    | nil => intro z; cases z
    | cons y r ih =>
      intro z
      rw [D.sizeL]
      rcases List.mem_cons.mp z with rfl | z
      · omega
      · have := ih z
        omega
  have := this _ h
  omega
theorem kid_depth {d x : D} (h : x ∈ d.kids) : x.depth < d.depth := by
  rw [depth_kids d]
  have := depthL_mem h
  omega
def spRepl (K : PySem.W.Frag) (b : Nat) : Sp := fun vs H Q _ => ∃ (x : V) (d : D) (m : Addr) (ms : List (Int × D)), vs = [x, .ref m] ∧ Rp K H x d ∧ MpAt K H m ms ∧ d.size ≤ 90000 ∧ d.depth ≤ b ∧ ∀ H' v', Same H H' → Rp K H' v' (d.sub (lk ms)) → Q v' H'
def spSubst (K : PySem.W.Frag) (C : Addr) : Sp := fun vs H Q E => ∃ (x : V) (d : D) (m : Addr) (ms : List (Int × D)), vs = [x, .ref m] ∧ Rp K H x d ∧ MpAt K H m ms ∧ d.size ≤ 90000 ∧ (∀ n e, lk ms n = some e → e.size ≤ 90000) ∧
  (big (d.sub (lk ms)) → ∀ H', Same H H' → E (.ref C) none H') ∧ (¬ big (d.sub (lk ms)) → ∀ H' v', Same H H' → Rp K H' v' (d.sub (lk ms)) → Q v' H')
theorem subL_take (f : Int → Option D) {as : List D} {i : Nat} {x : D} (h : as[i]? = some x) : D.subL f (as.take (i + 1)) = D.subL f (as.take i) ++ [x.sub f] := by
  rw [subL_map, subL_map, List.take_add_one, h, List.map_append]
  rfl

/-! ### drawn shapes -/
inductive GenD (fr : List Int) : Nat → D → Prop
  | leafv {l : Nat} {n : Int} (h : n ∈ fr) : GenD fr l (.v n)
  | leafc {l : Nat} {s : Int} (h : s = 0 ∨ s = 1 ∨ s = 4) : GenD fr l (.c s [])
  | f {l : Nat} {a b : D} (ha : GenD fr l a) (hb : GenD fr l b) : GenD fr (l + 1) (.f a b)
  | one {l : Nat} {s : Int} {a : D} (h : s = 3 ∨ s = 5 ∨ s = 6) (ha : GenD fr l a) : GenD fr (l + 1) (.c s [a])
  | t {l : Nat} {as : List D} (h2 : 2 ≤ as.length) (h4 : as.length ≤ 4) (h : ∀ x ∈ as, GenD fr l x) : GenD fr (l + 1) (.t as)
def sizeOf' : Nat → Nat
  | 0 => 1
  | l + 1 => 1 + 4 * sizeOf' l
theorem sizeOf'_pos : ∀ l, 1 ≤ sizeOf' l
  | 0 => Nat.le_refl _
  | l + 1 => by
    show 1 ≤ 1 + 4 * sizeOf' l
    omega
theorem sizeL_le {n : Nat} : ∀ {as : List D}, (∀ x ∈ as, x.size ≤ n) → D.sizeL as ≤ as.length * n
  | [], _ => by rw [D.sizeL]; omega
  | x :: r, h => by
    have h1 := h x List.mem_cons_self
    have h2 := sizeL_le (as := r) fun y hy => h y (List.mem_cons_of_mem _ hy)
    rw [D.sizeL, List.length_cons, Nat.add_mul, Nat.one_mul]
    omega
theorem depthL_le {n : Nat} : ∀ {as : List D}, (∀ x ∈ as, x.depth ≤ n) → D.depthL as ≤ n
  | [], _ => by rw [D.depthL]; omega
  | x :: r, h => by
    have h1 := h x List.mem_cons_self
    have h2 := depthL_le (as := r) fun y hy => h y (List.mem_cons_of_mem _ hy)
    rw [D.depthL]
    omega
theorem GenD.size {fr : List Int} {l : Nat} {d : D} (h : GenD fr l d) : d.size ≤ sizeOf' l := by
  induction h with
  | leafv h => exact sizeOf'_pos _
  | leafc h => exact sizeOf'_pos _
  | @f l a b ha hb iha ihb =>
    have e : sizeOf' (l + 1) = 1 + 4 * sizeOf' l := rfl
    simp only [D.size]
    omega
  | @one l s a h ha ih =>
    have e : sizeOf' (l + 1) = 1 + 4 * sizeOf' l := rfl
    simp only [D.size, D.sizeL]
    omega
  | @t l as h2 h4 h ih =>
    have e : sizeOf' (l + 1) = 1 + 4 * sizeOf' l := rfl
    have g := sizeL_le ih
    have g2 : as.length * sizeOf' l ≤ 4 * sizeOf' l := Nat.mul_le_mul_right _ h4
    simp only [D.size]
    omega
theorem GenD.depth {fr : List Int} {l : Nat} {d : D} (h : GenD fr l d) : d.depth ≤ l + 1 := by
  induction h with
  | leafv h =>
    simp only [D.depth]
    omega
  | leafc h =>
    simp only [D.depth, D.depthL]
    omega
  | @f l a b ha hb iha ihb =>
    simp only [D.depth]
    omega
  | @one l s a h ha ih =>
    simp only [D.depth, D.depthL]
    omega
  | @t l as h2 h4 h ih =>
    have g := depthL_le ih
    simp only [D.depth]
    omega
/-! ### promises of the law's helpers -/
def spTape (K : PySem.W.Frag) : Sp := fun vs H Q _ => ∃ (a : Addr) (ns : List Int) (many : Int), vs = [.ref a, .int many] ∧ SqL K H a (ns.map V.int) ∧ 0 ≤ many ∧ many ≤ 1000 ∧
  ∀ H' p ts, Same H H' → H' p = some (.lst ((ts : List Int).map V.int)) → ts.length = many.toNat → (∀ t ∈ ts, 0 ≤ t) → Q (.ref p) H'
def spPick (K : PySem.W.Frag) : Sp := fun vs H Q _ => ∃ (a : Addr) (ts : List Int) (at_ many : Int), vs = [.ref a, .int at_, .int many] ∧ SqL K H a (ts.map V.int) ∧ 0 < ts.length ∧ 0 < many ∧ Q (.int (pk ts at_ many)) H
def spLeaf (K : PySem.W.Frag) : Sp := fun vs H Q _ => ∃ (T Fr : Addr) (ts fr : List Int) (at_ : Int), vs = [.ref T, .int at_, .ref Fr] ∧ SqL K H T (ts.map V.int) ∧ 0 < ts.length ∧ SqL K H Fr (fr.map V.int) ∧
  ∀ H' v d, Same H H' → Rp K H' v d → (∀ l, GenD fr l d) → Q v H'
def spShape (K : PySem.W.Frag) (b : Nat) : Sp := fun vs H Q _ => ∃ (T Fr : Addr) (ts fr : List Int) (at_ : Int) (l : Nat), vs = [.ref T, .int at_, .int (l : Int), .ref Fr] ∧ l < b ∧ SqL K H T (ts.map V.int) ∧ 0 < ts.length ∧ SqL K H Fr (fr.map V.int) ∧
  ∀ H' r v d (at' : Int), Same H H' → H' r = some (.tup [v, .int at']) → Rp K H' v d → GenD fr l d → Q (.ref r) H'
/-- a list of pairs (number, shape) -/
inductive PrL (K : PySem.W.Frag) (H : Hp) : List V → List (Int × D) → Prop
  | nil : PrL K H [] []
  | cons {p : Addr} {n : Int} {x : V} {d : D} {ws : List V} {ms : List (Int × D)} : H p = some (.tup [.int n, x]) → Rp K H x d → PrL K H ws ms → PrL K H (.ref p :: ws) ((n, d) :: ms)
section
variable {K : PySem.W.Frag} {H H' : Hp}
theorem PrL.mono (s : ST H H') {ws : List V} {ms : List (Int × D)} (h : PrL K H ws ms) : PrL K H' ws ms := by
  induction h with
  | nil => exact .nil
  | cons h1 h2 _ ih => exact .cons (s _ _ h1) (h2.mono s) ih
theorem PrL.len {ws : List V} {ms : List (Int × D)} (h : PrL K H ws ms) : ws.length = ms.length := by
  induction h with
  | nil => rfl
  | cons h1 h2 _ ih => rw [List.length_cons, List.length_cons, ih]
theorem PrL.app {ws vs : List V} {ms ms' : List (Int × D)} (h : PrL K H ws ms) (g : PrL K H vs ms') : PrL K H (ws ++ vs) (ms ++ ms') := by
  induction h with
  | nil => exact g
  | cons h1 h2 _ ih => exact .cons h1 h2 ih
theorem PrL.get : ∀ {ms : List (Int × D)} {ws : List V} {i : Nat} {x : V}, PrL K H ws ms → ws[i]? = some x → ∃ p n y d, x = .ref p ∧ ms[i]? = some (n, d) ∧ H p = some (.tup [.int n, y]) ∧ Rp K H y d
  | [], _, i, x, h, e => by cases h; cases e
  | m :: r, _, 0, x, h, e => by
    cases h with
    | cons h1 h2 h3 => cases e; exact ⟨_, _, _, _, rfl, rfl, h1, h2⟩
  | m :: r, _, i + 1, x, h, e => by
    cases h with
    | cons h1 h2 h3 => exact PrL.get (i := i) h3 e
end
/-- nothing found among the first i -/
theorem lk_step {ms : List (Int × D)} {i : Nat} {n k : Int} {d : D} (h : ms[i]? = some (n, d)) (e : lk ms k = lk (ms.drop i) k) : if n = k then lk ms k = some d else lk ms k = lk (ms.drop (i + 1)) k := by
  obtain ⟨hi, hh⟩ := List.getElem?_eq_some_iff.mp h
  have dr : ms.drop i = (n, d) :: ms.drop (i + 1) := by rw [← hh]; exact List.drop_eq_getElem_cons hi
  rw [dr] at e
  by_cases c : n = k
  · rw [if_pos c, e, lk_pos c]
  · rw [if_neg c, e, lk_neg c]
def spApply (K : PySem.W.Frag) (b : Nat) : Sp := fun vs H Q _ => ∃ (x : V) (d : D) (Pr : Addr) (ws : List V) (ms : List (Int × D)), vs = [x, .ref Pr] ∧ Rp K H x d ∧ SqL K H Pr ws ∧ PrL K H ws ms ∧ d.size ≤ 90000 ∧ d.depth ≤ b ∧ ∀ H' v', Same H H' → Rp K H' v' (d.sub (lk ms)) → Q v' H'
theorem int_get {ns : List Int} {j : Nat} {x : V} (h : (ns.map V.int)[j]? = some x) : ∃ n, ns[j]? = some n ∧ x = .int n := by
  rw [List.getElem?_map] at h
  cases q : ns[j]? with
  | none =>
    rw [q] at h
    cases h
  | some n =>
    rw [q] at h
    exact ⟨n, rfl, (Option.some.inj h).symm⟩
end Vs

set_option Elab.async false
set_option linter.all false
set_option maxRecDepth 100000
namespace Vs
open PySem PySem.Spec PyProof.Rows L2 RT StX
open C8 (pss_cut tCut)
/-! ### the text -/
def topS (i : Nat) : Stmt := PySem.Challenge.pw_shapewright_k11_substitution.main.body.getD i (.Pass ⟨0, 0, 0, 0⟩)
abbrev sPartsOfShape : Stmt := topS 6
theorem scPartsOfShape : FnScope ["shape"] ["shape"] (defScope sPartsOfShape) := ⟨rfl, rfl, rfl, by decide +kernel, rfl, by decide +kernel, by decide +kernel⟩
abbrev sWithParts : Stmt := topS 7
theorem scWithParts : FnScope ["shape", "parts"] ["shape", "parts"] (defScope sWithParts) := ⟨rfl, rfl, rfl, by decide +kernel, rfl, by decide +kernel, by decide +kernel⟩
abbrev sMeasures : Stmt := topS 8
theorem scMeasures : FnScope ["shape", "count", "deepest", "waiting", "part", "level", "inner"] ["shape"] (defScope sMeasures) := ⟨rfl, rfl, rfl, by decide +kernel, rfl, by decide +kernel, by decide +kernel⟩
abbrev sSubstitute : Stmt := topS 9
theorem scSubstitute : FnScope ["shape", "mapping"] ["shape", "mapping"] (defScope sSubstitute) := ⟨rfl, rfl, rfl, by decide +kernel, rfl, by decide +kernel, by decide +kernel⟩
abbrev sCheckResult : Stmt := topS 10
theorem scCheckResult : FnScope ["shape", "mapping", "known", "count", "waiting", "part", "level", "deepest", "number", "inner"] ["shape", "mapping"] (defScope sCheckResult) := ⟨rfl, rfl, rfl, by decide +kernel, rfl, by decide +kernel, by decide +kernel⟩
abbrev sReplaced : Stmt := topS 11
theorem scReplaced : FnScope ["shape", "mapping", "parts", "part"] ["shape", "mapping"] (defScope sReplaced) := ⟨rfl, rfl, rfl, by decide +kernel, rfl, by decide +kernel, by decide +kernel⟩
abbrev sLawTape : Stmt := topS 13
theorem scLawTape : FnScope ["script", "many", "cells", "cell", "big", "value", "tape", "k"] ["script", "many"] (defScope sLawTape) := ⟨rfl, rfl, rfl, by decide +kernel, rfl, by decide +kernel, by decide +kernel⟩
abbrev sLawPick : Stmt := topS 14
theorem scLawPick : FnScope ["tape", "at", "many"] ["tape", "at", "many"] (defScope sLawPick) := ⟨rfl, rfl, rfl, by decide +kernel, rfl, by decide +kernel, by decide +kernel⟩
abbrev sLawLeaf : Stmt := topS 15
theorem scLawLeaf : FnScope ["tape", "at", "free", "pick"] ["tape", "at", "free"] (defScope sLawLeaf) := ⟨rfl, rfl, rfl, by decide +kernel, rfl, by decide +kernel, by decide +kernel⟩
abbrev sLawShape : Stmt := topS 16
theorem scLawShape : FnScope ["tape", "at", "level", "free", "pick", "left", "right", "inner", "parts", "many", "k", "part"] ["tape", "at", "level", "free"] (defScope sLawShape) := ⟨rfl, rfl, rfl, by decide +kernel, rfl, by decide +kernel, by decide +kernel⟩
abbrev sLawParts : Stmt := topS 17
theorem scLawParts : FnScope ["shape"] ["shape"] (defScope sLawParts) := ⟨rfl, rfl, rfl, by decide +kernel, rfl, by decide +kernel, by decide +kernel⟩
abbrev sLawRebuilt : Stmt := topS 18
theorem scLawRebuilt : FnScope ["shape", "parts"] ["shape", "parts"] (defScope sLawRebuilt) := ⟨rfl, rfl, rfl, by decide +kernel, rfl, by decide +kernel, by decide +kernel⟩
abbrev sLawApply : Stmt := topS 19
theorem scLawApply : FnScope ["shape", "pairs", "number", "due", "part"] ["shape", "pairs"] (defScope sLawApply) := ⟨rfl, rfl, rfl, by decide +kernel, rfl, by decide +kernel, by decide +kernel⟩
abbrev sLawChain : Stmt := topS 20
theorem scLawChain : FnScope ["level", "end", "shape", "k"] ["level", "end"] (defScope sLawChain) := ⟨rfl, rfl, rfl, by decide +kernel, rfl, by decide +kernel, by decide +kernel⟩
abbrev sLawFlat : Stmt := topS 21
theorem scLawFlat : FnScope ["pieces", "rest", "shape", "k"] ["pieces", "rest"] (defScope sLawFlat) := ⟨rfl, rfl, rfl, by decide +kernel, rfl, by decide +kernel, by decide +kernel⟩
abbrev sLawAnswer : Stmt := topS 22
theorem scLawAnswer : FnScope ["shape", "mapping"] ["shape", "mapping"] (defScope sLawAnswer) := ⟨rfl, rfl, rfl, by decide +kernel, rfl, by decide +kernel, by decide +kernel⟩
abbrev sLawEdge : Stmt := topS 23
theorem scLawEdge : FnScope ["tape", "first", "second", "due", "actual", "pieces", "inner", "k", "many", "total"] ["tape"] (defScope sLawEdge) := ⟨rfl, rfl, rfl, by decide +kernel, rfl, by decide +kernel, by decide +kernel⟩
abbrev sLaw : Stmt := topS 24
theorem scLaw : FnScope ["script", "tape", "shape", "at", "pairs", "mapping", "k", "due", "actual", "number"] ["script"] (defScope sLaw) := ⟨rfl, rfl, rfl, by decide +kernel, rfl, by decide +kernel, by decide +kernel⟩
section
variable {P : Program} {w : World} {K : PySem.W.Frag} {mg : Str → Option Value} {base : Heap}
theorem ok_parts {f : Addr} {fd : FuncData} {k : Nat} (F : Fun K "parts_of_shape" "parts_of_shape" sPartsOfShape f fd) : FnOk P w K mg base CX0 (k + 1) f fd ["shape"] (spParts K) := by
  refine F.ok scPartsOfShape (fun vs H Q E h => ?_) (fun cdv A outer s H vs Q E hr h => ?_)
  · obtain ⟨x, d, rfl, _⟩ := h
    rfl
  obtain ⟨x, d, rfl, R, q⟩ := h
  refine ⟨_, pss_cons (ps_if (pt_cmpR op_eq (pe_ix ix_tup (pv 0) pe_int (fun _ _ => rfl)) pe_str (nomark _)) (pss_one (ps_ret (pe_tup pa_nil))) pss_nil)
      (pss_cons (ps_if (pt_cmpR op_eq (pe_ix ix_tup (pv 0) pe_int (fun _ _ => rfl)) pe_str (nomark _)) (pss_one (ps_ret (pe_slice sl_tupA (pv 0) (po_some pe_int) po_none))) pss_nil)
      (pss_one (ps_ret (pe_ix ix_tup (pv 0) (pe_un un_neg pe_int) (fun _ _ => rfl))))), ?_⟩
  cases R with
  | @v p n h1 =>
    refine ⟨_, rfl, p, _, _, _, rfl, rfl, h1.sq, atI_nat (j := 0) rfl, rfl, _, rfl, iteY ?_⟩
    exact ⟨zz 0, fun c hc => q _ c [] (same_upd hc) (.of upd_same) .nil⟩
  | @c p qa s vs as h1 h2 h3 =>
    refine ⟨_, rfl, p, _, _, _, rfl, rfl, h1.sq, atI_nat (j := 0) rfl, rfl, _, rfl, iteN (by decide +kernel) ?_⟩
    refine ⟨_, rfl, p, _, _, _, rfl, rfl, h1.sq, atI_nat (j := 0) rfl, rfl, _, rfl, iteN (by decide +kernel) ?_⟩
    exact ⟨_, rfl, 1, rfl, p, _, _, _, rfl, rfl, h1.sq, atI_last [_, _] _, q _ qa vs (Same.refl _) h2 h3⟩
  | @t p qa vs as h1 h2 h3 =>
    refine ⟨_, rfl, p, _, _, _, rfl, rfl, h1.sq, atI_nat (j := 0) rfl, rfl, _, rfl, iteN (by decide +kernel) ?_⟩
    refine ⟨_, rfl, p, _, _, _, rfl, rfl, h1.sq, atI_nat (j := 0) rfl, rfl, _, rfl, iteN (by decide +kernel) ?_⟩
    exact ⟨_, rfl, 1, rfl, p, _, _, _, rfl, rfl, h1.sq, atI_last [_] _, q _ qa vs (Same.refl _) h2 h3⟩
  | @f p x y a b h1 h2 h3 =>
    refine ⟨_, rfl, p, _, _, _, rfl, rfl, h1.sq, atI_nat (j := 0) rfl, rfl, _, rfl, iteN (by decide +kernel) ?_⟩
    refine ⟨_, rfl, p, _, _, _, rfl, rfl, h1.sq, atI_nat (j := 0) rfl, rfl, _, rfl, iteY ?_⟩
    refine ⟨_, rfl, 1, rfl, p, _, rfl, h1.sq, fun hw => absurd hw.1 (by show ¬ (HT.sIx 3 0 (some 1) = 0); decide), fun _ c hc => ?_⟩
    have S1 := same_upd hc (o := .tup (cutV [.str "f", x, y] (some 1) none))
    refine q _ c [x, y] S1 (.of ?_) (.cons (h2.same S1) (.cons (h3.same S1) .nil))
    rw [upd_same]
    rfl
theorem ok_with {f : Addr} {fd : FuncData} {k : Nat} (F : Fun K "with_parts" "with_parts" sWithParts f fd) (m_tuple : mg "tuple" = none) : FnOk P w K mg base CX0 (k + 1) f fd ["shape", "parts"] (spWith K) := by
  refine F.ok scWithParts (fun vs H Q E h => ?_) (fun cdv A outer s H vs Q E hr h => ?_)
  · obtain ⟨x, d, L, ws, ds, rfl, _⟩ := h
    rfl
  obtain ⟨x, d, L, ws, ds, rfl, R, nv, hL, RL, hl, q⟩ := h
  have lw := RL.len
  refine ⟨_, pss_cons (ps_if (pt_cmpR op_eq (pe_ix ix_tup (pv 0) pe_int (fun _ _ => rfl)) pe_str (nomark _)) (pss_one (ps_ret (pv 0))) pss_nil)
      (pss_cons (ps_if (pt_cmpR op_eq (pe_ix ix_tup (pv 0) pe_int (fun _ _ => rfl)) pe_str (nomark _)) (pss_one (ps_ret (pe_tup (pa_cons pe_str (pa_cons (pe_ix ix_list (pv 1) pe_int (fun _ _ => rfl)) (pa_cons (pe_ix ix_list (pv 1) pe_int (fun _ _ => rfl)) pa_nil)))))) pss_nil)
      (pss_one (ps_ret (pe_tup (pa_star (pe_slice sl_tupA (pv 0) po_none (po_some (pe_un un_neg pe_int))) (pa_cons (pe_callTy call_tuple_of (by rfl) m_tuple (by decide +kernel) (pa_cons (pv 1) pa_nil)) pa_nil)))))), ?_⟩
  cases R with
  | @v p n h1 => cases nv
  | @c p qa s vs as h1 h2 h3 =>
    refine ⟨_, rfl, p, _, _, _, rfl, rfl, h1.sq, atI_nat (j := 0) rfl, rfl, _, rfl, iteN (by decide +kernel) ?_⟩
    refine ⟨_, rfl, p, _, _, _, rfl, rfl, h1.sq, atI_nat (j := 0) rfl, rfl, _, rfl, iteN (by decide +kernel) ?_⟩
    obtain ⟨c1, c2⟩ := cut_last [.str "c", .int s] (.ref qa)
    refine ⟨_, rfl, 1, rfl, _, rfl, p, _, rfl, h1.sq, fun hw => absurd hw c2, fun _ c hc => ?_⟩
    refine ⟨c, _, rfl, .inl (SqT.of upd_same), _, rfl, L, ws, rfl, .inl ⟨SqL.of (same_upd hc _ _ hL), fun l hl1 => ⟨zz 3, fun r hr1 => ?_⟩⟩⟩
    have S3 := (same_upd hc (o := .tup (cutV [.str "c", .int s, .ref qa] none (some (-1))))).trans ((same_upd hl1 (o := .tup ws)).trans (same_upd hr1 (o := .tup [.str "c", .int s, .ref l])))
    exact q _ (.ref r) S3 (.c (.of upd_same) (.of (same_upd hr1 _ _ upd_same)) (RL.same S3))
  | @t p qa vs as h1 h2 h3 =>
    refine ⟨_, rfl, p, _, _, _, rfl, rfl, h1.sq, atI_nat (j := 0) rfl, rfl, _, rfl, iteN (by decide +kernel) ?_⟩
    refine ⟨_, rfl, p, _, _, _, rfl, rfl, h1.sq, atI_nat (j := 0) rfl, rfl, _, rfl, iteN (by decide +kernel) ?_⟩
    obtain ⟨c1, c2⟩ := cut_last [.str "t"] (.ref qa)
    refine ⟨_, rfl, 1, rfl, _, rfl, p, _, rfl, h1.sq, fun hw => absurd hw c2, fun _ c hc => ?_⟩
    refine ⟨c, _, rfl, .inl (SqT.of upd_same), _, rfl, L, ws, rfl, .inl ⟨SqL.of (same_upd hc _ _ hL), fun l hl1 => ⟨zz 2, fun r hr1 => ?_⟩⟩⟩
    have S3 := (same_upd hc (o := .tup (cutV [.str "t", .ref qa] none (some (-1))))).trans ((same_upd hl1 (o := .tup ws)).trans (same_upd hr1 (o := .tup [.str "t", .ref l])))
    exact q _ (.ref r) S3 (.t (.of upd_same) (.of (same_upd hr1 _ _ upd_same)) (RL.same S3))
  | @f p x y a b h1 h2 h3 =>
    refine ⟨_, rfl, p, _, _, _, rfl, rfl, h1.sq, atI_nat (j := 0) rfl, rfl, _, rfl, iteN (by decide +kernel) ?_⟩
    refine ⟨_, rfl, p, _, _, _, rfl, rfl, h1.sq, atI_nat (j := 0) rfl, rfl, _, rfl, iteY ?_⟩
    obtain ⟨d1, d2, rfl⟩ : ∃ d1 d2, ds = [d1, d2] := by
      match ds, hl with
      | [d1, d2], _ => exact ⟨d1, d2, rfl⟩
    obtain ⟨x1, e1, r1⟩ := RL.at (i := 0) rfl
    obtain ⟨x2, e2, r2⟩ := RL.at (i := 1) rfl
    refine ⟨_, rfl, L, _, _, _, rfl, rfl, SqL.of hL, atI_nat (j := 0) e1, _, rfl, L, _, _, _, rfl, rfl, SqL.of hL, atI_nat (j := 1) e2, zz 3, fun r hr1 => ?_⟩
    have S3 := same_upd hr1 (o := .tup [.str "f", x1, x2])
    exact q _ (.ref r) S3 (.f (.of upd_same) (r1.same S3) (r2.same S3))
/-- measures: the walk's word -/
def MeasW (K : PySem.W.Frag) (H : Hp) (x : V) (d : D) (L : Addr) : Nat → L2.St → Hp → Prop := fun m σ H' => ∃ (cn dp : Nat) (ws : List V) (its : List (D × Nat)) (y4 y5 y6 : Option V),
  σ = [some x, some (.int (cn : Int)), some (.int (dp : Int)), some (.ref L), y4, y5, y6] ∧ Same H H' ∧ H' L = some (.lst ws) ∧ Stk K H' ws its ∧ m = szS its ∧ cn + szS its = d.size ∧ max dp (dpS its) = d.depth
theorem max_int (dp l : Nat) : (if ((l : Nat) : Int) > ((dp : Nat) : Int) then ((l : Nat) : Int) else ((dp : Nat) : Int)) = ((max dp l : Nat) : Int) := by
  by_cases h : ((l : Nat) : Int) > ((dp : Nat) : Int)
  · rw [if_pos h]
    omega
  · rw [if_neg h]
    omega
theorem ok_meas {f f2 : Addr} {fd d2 : FuncData} {k : Nat} (F : Fun K "measures" "measures" sMeasures f fd) (Oq : Own P w K mg base CX0 k "parts_of_shape" f2 d2 ["shape"] (spParts K)) (m_max : mg "max" = none) : FnOk P w K mg base CX0 (k + 1) f fd ["shape"] (spMeas K) := by
  refine F.ok scMeasures (fun vs H Q E h => ?_) (fun cdv A outer s H vs Q E hr h => ?_)
  · obtain ⟨x, d, rfl, _⟩ := h
    rfl
  obtain ⟨x, d, rfl, R, big, q⟩ := h
  refine ⟨_, pss_cons (ps_set (i := 1) scMeasures.nd rfl (.inl rfl) pe_int)
      (pss_cons (ps_set (i := 2) scMeasures.nd rfl (.inl rfl) pe_int)
      (pss_cons (ps_set (i := 3) scMeasures.nd rfl (.inl rfl) (pe_lst (pa_cons (pe_tup (pa_cons (pv 0) (pa_cons pe_int pa_nil))) pa_nil)))
      (pss_cons (ps_while PassesOwn.never (pt_truth (pv 3) (by intro _; rfl)) (pss_cons (ps_asg (pe_bm0 PySem.F.plainAttrs_list PySem.F.slot_list_pop PySem.F.type_list_pop mt_pop (pv 3)) (pg_tup rfl (pgs_cons (pg_name (i := 4) scMeasures.nd rfl (.inl rfl)) (pgs_cons (pg_name (i := 5) scMeasures.nd rfl (.inl rfl)) pgs_nil))))
      (pss_cons (ps_aug (i := 1) scMeasures.nd rfl (.inl rfl) pe_int ip_add)
      (pss_cons (ps_set (i := 2) scMeasures.nd rfl (.inl rfl) (pe_callB (call_max2 rfl) (by rfl) m_max (by decide +kernel) (pa_cons (pv 2) (pa_cons (pv 5) pa_nil))))
      (pss_one (ps_for PassesOwn.never rfl (pi_tup (pe_call Oq.ok hr rfl Oq.at_ Oq.kp Oq.bd .nil pass0 (pa_cons (pv 4) pa_nil))) (pg_name (i := 6) scMeasures.nd rfl (.inl rfl)) (pss_one (ps_expr (pe_bm PySem.F.plainAttrs_list PySem.F.slot_list_append PySem.F.type_list_append mt_append (pv 3) (pa_cons (pe_tup (pa_cons (pv 6) (pa_cons (pe_op op_add (pv 5) pe_int) pa_nil))) pa_nil))))))))))
      (pss_one (ps_ret (pe_tup (pa_cons (pv 1) (pa_cons (pv 2) pa_nil)))))))), ?_⟩
  refine ⟨_, rfl, zz 2, fun p hp => ⟨zz 1, fun L hL => ?_⟩⟩
  have S0 := (same_upd hp (o := .tup [x, .int 1])).trans (same_upd hL (o := .lst [.ref p]))
  have nL : H L = none := (same_upd hp (o := .tup [x, .int 1])).free hL
  refine ⟨MeasW K H x d L, ⟨_, 0, 0, [.ref p], [(d, 1)], _, _, _, rfl, S0, upd_same, .cons (same_upd hL _ _ upd_same) (R.same S0) .nil, rfl, ?_, ?_⟩, fun m σ H' h => ?_⟩
  · simp only [szS]
    omega
  · simp only [dpS]
    omega
  obtain ⟨cn, dp, ws, its, y4, y5, y6, rfl, S1, hL1, ST1, rfl, e1, e2⟩ := h
  rcases ST1.last with ⟨rfl, rfl⟩ | ⟨ws', its', p', x', d', l, rfl, rfl, ST2, hp', R'⟩
  · refine ⟨_, rfl, false, .inl ⟨_, SqL.of hL1, rfl⟩, iteF ?_⟩
    have g1 : cn = d.size := e1
    have g2 : dp = d.depth := by
      have : max dp 0 = d.depth := e2
      omega
    subst g1 g2
    exact ⟨_, rfl, _, rfl, zz 2, fun r hr1 => q _ r (S1.trans (same_upd hr1)) upd_same⟩
  · rw [szS_app] at e1
    rw [dpS_app] at e2
    have len1 := (ST2.app (.cons hp' R' .nil)).len
    have len2 := len_szS (its' ++ [(d', l)])
    rw [szS_app] at len2
    have e1' : cn + (szS its' + (d'.size + 0)) = d.size := e1
    have e2' : max dp (max (dpS its') (max (l + d'.depth - 1) 0)) = d.depth := e2
    refine ⟨_, rfl, true, .inl ⟨_, SqL.of hL1, by cases ws' <;> rfl⟩, iteT ⟨fun σ' H'' => ∃ m', m' < szS (its' ++ [(d', l)]) ∧ MeasW K H x d L m' σ' H'', fun _ _ h => h, ?_⟩⟩
    refine ⟨_, rfl, .inl ⟨rfl, _, SqL.of hL1⟩, L, _, _, rfl, rfl, hL1, last_get _ _, ?_⟩
    rw [List.dropLast_concat]
    have X1 : ST H' (upd H' L (.lst ws')) := ST.lst hL1 _
    refine ⟨p', _, rfl, SqT.of (X1 _ _ hp'), rfl, _, _, rfl, _, _, rfl, rfl, ?_⟩
    refine ⟨_, rfl, _, _, rfl, rfl, ?_⟩
    refine ⟨_, rfl, _, rfl, _, _, rfl, ?_⟩
    have SL : Same H (upd H' L (.lst ws')) := same_skip S1 nL
    refine ⟨_, rfl, x', d', rfl, R'.mono X1, fun H2 qa vs2 S2 h2 RL => ⟨qa, rfl, ⟨_, h2.sq⟩, ?_⟩⟩
    have lv := RL.len
    refine for_tup (K := K) (a := qa) (xs := vs2) (fun j σ H'' => ∃ y6 ps, σ = [some x, some (.int ((cn : Int) + 1)), some (.int (if ((l : Nat) : Int) > ((dp : Nat) : Int) then ((l : Nat) : Int) else ((dp : Nat) : Int))), some (.ref L), some x', some (.int ((l : Nat) : Int)), y6] ∧ Same H H'' ∧ ST H2 H'' ∧ H'' L = some (.lst (ws' ++ ps)) ∧ Stk K H'' ps (push (l + 1) (d'.kids.take j)))
      ⟨_, [], rfl, SL.trans S2, ST.refl _, by rw [List.append_nil]; exact S2 _ _ upd_same, .nil⟩ (fun i σ H'' _ h => ?_) (fun i z σ H'' hz h => ?_) (fun σ H'' h => ?_)
    · obtain ⟨y6, ps, _, _, X2, _⟩ := h
      exact (h2.mono X2).sq
    · obtain ⟨y6, ps, rfl, S3, X2, hL3, SP⟩ := h
      obtain ⟨dz, hdz, Rz⟩ := RL.get hz
      have hi : i < d'.kids.length := (List.getElem?_eq_some_iff.mp hdz).1
      refine ⟨_, rfl, .inl ⟨rfl, _, SqL.of hL3⟩, _, rfl, _, rfl, _, _, rfl, rfl, zz 2, fun pt hpt => ?_⟩
      have Sp := same_upd hpt (o := .tup [z, .int (((l : Nat) : Int) + 1)])
      have hL4 := Sp _ _ hL3
      have bound : (ws' ++ ps).length ≤ 100000 := by
        have t1 := SP.len
        have t2 := ST2.len
        have t3 := len_szS its'
        have t4 := len_szS (push (l + 1) (d'.kids.take i))
        have t5 : (push (l + 1) (d'.kids.take i)).length ≤ d'.size := by
          show ((d'.kids.take i).map _).length ≤ _
          rw [List.length_map, List.length_take, size_kids]
          have t6 := len_szS (push 0 d'.kids)
          rw [szS_push] at t6
          have t7 : (push 0 d'.kids).length = d'.kids.length := List.length_map _
          omega
        rw [List.length_append]
        omega
      refine ⟨L, _, _, rfl, rfl, hL4, zbig bound, ?_⟩
      have X3 : ST (upd H'' pt (.tup [z, .int (((l : Nat) : Int) + 1)])) (upd (upd H'' pt (.tup [z, .int (((l : Nat) : Int) + 1)])) L (.lst (ws' ++ ps ++ [.ref pt]))) := ST.lst hL4 _
      refine ⟨_, ps ++ [.ref pt], rfl, same_skip (S3.trans Sp) nL, X2.trans ((ST.same Sp).trans X3), by rw [upd_same, List.append_assoc], ?_⟩
      have e3 : push (l + 1) (d'.kids.take (i + 1)) = push (l + 1) (d'.kids.take i) ++ [(dz, l + 1)] := by
        rw [List.take_add_one, hdz]
        exact List.map_append
      rw [e3]
      refine (SP.mono ((ST.same Sp).trans X3)).app (.cons (X3 _ _ upd_same) ?_ .nil)
      exact Rz.mono (X2.trans ((ST.same Sp).trans X3))
    · obtain ⟨y6, ps, rfl, S3, X2, hL3, SP⟩ := h
      rw [lv, List.take_length] at SP
      refine ⟨szS (its' ++ push (l + 1) d'.kids), ?_, cn + 1, max dp l, ws' ++ ps, its' ++ push (l + 1) d'.kids, some x', some (.int ((l : Nat) : Int)), y6, ?_, S3, hL3, (ST2.mono ((X1.trans (ST.same S2)).trans X2)).app SP, rfl, ?_, ?_⟩
      · rw [szS_app, szS_app, szS_push]
        show _ < _ + (d'.size + 0)
        rw [size_kids d']
        omega
      · rw [max_int]
        rfl
      · rw [szS_app, szS_push]
        rw [size_kids d'] at e1'
        omega
      · rw [dpS_app]
        rw [depth_kids d'] at e2'
        by_cases hk : d'.kids = []
        · rw [hk] at e2' ⊢
          have e4 : dpS (push (l + 1) []) = 0 := rfl
          have e5 : D.depthL [] = 0 := by simp only [D.depthL]
          rw [e4]
          rw [e5] at e2'
          omega
        · have e4 := dpS_push (l + 1) d'.kids hk
          obtain ⟨z, hz, e5⟩ := depthL_ex hk
          have := depth_pos z
          omega
/-- check_result: the walk's word -/
def CheckW (K : PySem.W.Frag) (H : Hp) (x : V) (d : D) (m kn L : Addr) (f : Int → Option D) : Nat → L2.St → Hp → Prop := fun mm σ H' => ∃ (cn : Nat) (ws : List V) (its : List (D × Nat)) (kvs : List (Key × V)) (y5 y6 y7 y8 y9 : Option V),
  σ = [some x, some (.ref m), some (.ref kn), some (.int (cn : Int)), some (.ref L), y5, y6, y7, y8, y9] ∧ Same H H' ∧ H' L = some (.lst ws) ∧ Stk K H' ws its ∧ H' kn = some (.dK kvs) ∧ KnOk H' kvs f ∧ kvs.length ≤ cn ∧ cn ≤ 2000 ∧
  mm = szS its ∧ szS its ≤ d.size ∧ cn + szS (subS f its) = (d.sub f).size ∧ dpS (subS f its) ≤ (d.sub f).depth ∧ ((d.sub f).depth ≤ 100 ∨ dpS (subS f its) = (d.sub f).depth)
theorem ok_check {f f2 f3 C : Addr} {fd d2 d3 : FuncData} {k : Nat} {u1 u2 : Tok} (F : Fun K "check_result" "check_result" sCheckResult f fd) (Oq : Own P w K mg base CX0 k "parts_of_shape" f2 d2 ["shape"] (spParts K)) (Om : Own P w K mg base CX0 k "measures" f3 d3 ["shape"] (spMeas K))
    (T : ExcT K mg "TooLarge" C) (eMS : mg "MAX_SIZE" = some (.int 2000 u1)) (eMD : mg "MAX_DEPTH" = some (.int 100 u2)) : FnOk P w K mg base (L2.CX P w) (k + 1) f fd ["shape", "mapping"] (spCheck K C) := by
  refine F.okX scCheckResult (fun vs H Q E h => ?_) (fun cdv A outer s H vs Q E hr h => ?_)
  · obtain ⟨x, d, m, ms, rfl, _⟩ := h
    rfl
  obtain ⟨x, d, m, ms, rfl, R, M, sz, szm, qE, qQ⟩ := h
  refine ⟨_, pss_cons (ps_set (i := 2) scCheckResult.nd rfl (.inl rfl) pe_dnewK)
      (pss_cons (ps_set (i := 3) scCheckResult.nd rfl (.inl rfl) pe_int)
      (pss_cons (ps_set (i := 4) scCheckResult.nd rfl (.inl rfl) (pe_lst (pa_cons (pe_tup (pa_cons (pv 0) (pa_cons pe_int pa_nil))) pa_nil)))
      (pss_one (ps_while (passes_of rfl) (pt_truth (pv 4) (by intro _; rfl)) (pss_cons (ps_asg (pe_bm0 PySem.F.plainAttrs_list PySem.F.slot_list_pop PySem.F.type_list_pop mt_pop (pv 4)) (pg_tup rfl (pgs_cons (pg_name (i := 5) scCheckResult.nd rfl (.inl rfl)) (pgs_cons (pg_name (i := 6) scCheckResult.nd rfl (.inl rfl)) pgs_nil))))
      (pss_cons (ps_aug (i := 3) scCheckResult.nd rfl (.inl rfl) pe_int ip_add)
      (pss_cons (ps_set (i := 7) scCheckResult.nd rfl (.inl rfl) (pv 6))
      (pss_cut (ps_if (PW.pt (pw_and (pt_cmpR op_eq (pe_ix ix_tup (pv 5) pe_int (fun _ _ => rfl)) pe_str (nomark _)) (pw_and1 (pt_cmp (pc_din (hu_of hr) (pe_ix ix_tup (pv 5) pe_int (fun _ _ => rfl)) (pv 1)))))) (pss_cons (ps_set (i := 8) scCheckResult.nd rfl (.inl rfl) (pe_ix ix_tup (pv 5) pe_int (fun _ _ => rfl)))
      (pss_cut (ps_if (pt_cmp (pc_dnotin (hu_of hr) (pv 8) (pv 2))) (pss_one (ps_dput (hu_of hr) (pv 2) (pv 8) (pe_call Om.ok hr rfl Om.at_ Om.kp Om.bd .nil pass0 (pa_cons (pe_dget (hu_of hr) (pv 1) (pv 8) (fun _ _ => rfl)) pa_nil)) rfl)) pss_nil)
      (pss_cons (ps_aug (i := 3) scCheckResult.nd rfl (.inl rfl) (pe_op op_sub (pe_ix ix_tup (pe_dget (hu_of hr) (pv 2) (pv 8) (fun _ _ => rfl)) pe_int (fun _ _ => rfl)) pe_int) ip_add)
      (pss_one (ps_aug (i := 7) scCheckResult.nd rfl (.inl rfl) (pe_op op_sub (pe_ix ix_tup (pe_dget (hu_of hr) (pv 2) (pv 8) (fun _ _ => rfl)) pe_int (fun _ _ => rfl)) pe_int) ip_add))))) pss_nil)
      (pss_cut (ps_if (PW.pt (pw_or (pt_cmpR op_gt (pv 3) (pe_glob (v := .int 2000) rfl eMS ⟨_, rfl⟩) (nomark _)) (pw_or1 (pt_cmpR op_gt (pv 7) (pe_glob (v := .int 100) rfl eMD ⟨_, rfl⟩) (nomark _))))) (pss_one (ps_raise rfl (takes_of rfl rfl rfl rfl) (pmk_own PySem.F.excBase_ValueError T.xP T.gP T.kP (raises_own T.bP T.tP) rfl))) pss_nil)
      (pss_one (ps_for (passes_of rfl) rfl (pi_tup (pe_call Oq.ok hr rfl Oq.at_ Oq.kp Oq.bd .nil pass0 (pa_cons (pv 5) pa_nil))) (pg_name (i := 9) scCheckResult.nd rfl (.inl rfl)) (pss_one (ps_expr (pe_bm PySem.F.plainAttrs_list PySem.F.slot_list_append PySem.F.type_list_append mt_append (pv 4) (pa_cons (pe_tup (pa_cons (pv 9) (pa_cons (pe_op op_add (pv 6) pe_int) pa_nil))) pa_nil))))))))))))))), ?_⟩
  refine fun kn hkn => ?_
  have Sk := same_upd hkn (o := .dK [])
  refine ⟨_, rfl, zz 2, fun p hp => ⟨zz 1, fun L hL => ?_⟩⟩
  have Sp := same_upd hp (o := .tup [x, .int 1])
  have SL0 := same_upd hL (o := .lst [.ref p])
  have S0 := Sk.trans (Sp.trans SL0)
  have nL : H L = none := Sk.free (Sp.free hL)
  have hknL := SL0 _ _ (Sp _ _ (upd_same (H := H) (a := kn) (o := .dK [])))
  refine ⟨CheckW K H x d m kn L (lk ms), ⟨_, 0, [.ref p], [(d, 1)], [], _, _, _, _, _, rfl, S0, upd_same, .cons (SL0 _ _ upd_same) (R.same S0) .nil, hknL, fun n v e => (by cases e), Nat.le_refl _, by omega, rfl, ?_, ?_, ?_, ?_⟩, fun mm σ H' h => ?_⟩
  · simp only [szS]
    omega
  · simp only [subS, szS, List.map]
    omega
  · simp only [subS, dpS, List.map]
    omega
  · simp only [subS, dpS, List.map]
    omega
  obtain ⟨cn, ws, its, kvs, y5, y6, y7, y8, y9, rfl, S1, hL1, ST1, hk1, kn1, lk1, c2000, rfl, z0, e1, e2, e3⟩ := h
  rcases ST1.last with ⟨rfl, rfl⟩ | ⟨ws', its', p', x', d', l, rfl, rfl, ST2, hp', R'⟩
  · refine ⟨_, rfl, false, .inl ⟨_, SqL.of hL1, rfl⟩, iteF ?_⟩
    have g1 : cn + 0 = (d.sub (lk ms)).size := e1
    have g2 : (d.sub (lk ms)).depth ≤ 100 := by
      rcases e3 with h | h
      · exact h
      · have h' : 0 = (d.sub (lk ms)).depth := h
        have := depth_pos (d.sub (lk ms))
        omega
    refine qQ (fun hb => ?_) _ S1
    rcases hb with h | h <;> omega
  · rw [subS_app, szS_app] at e1
    rw [subS_app, dpS_app] at e2 e3
    have e1' : cn + (szS (subS (lk ms) its') + ((d'.sub (lk ms)).size + 0)) = (d.sub (lk ms)).size := e1
    have e2' : max (dpS (subS (lk ms) its')) (max (l + (d'.sub (lk ms)).depth - 1) 0) ≤ (d.sub (lk ms)).depth := e2
    have e3' : (d.sub (lk ms)).depth ≤ 100 ∨ max (dpS (subS (lk ms) its')) (max (l + (d'.sub (lk ms)).depth - 1) 0) = (d.sub (lk ms)).depth := e3
    have z1 := z0
    rw [szS_app] at z1
    have z1' : szS its' + (d'.size + 0) ≤ d.size := z1
    refine ⟨_, rfl, true, .inl ⟨_, SqL.of hL1, by cases ws' <;> rfl⟩, iteT ⟨fun σ' H'' => ∃ m', m' < szS (its' ++ [(d', l)]) ∧ CheckW K H x d m kn L (lk ms) m' σ' H'', fun _ _ h => h, ?_⟩⟩
    refine ⟨_, rfl, .inl ⟨rfl, _, SqL.of hL1⟩, L, _, _, rfl, rfl, hL1, last_get _ _, ?_⟩
    rw [List.dropLast_concat]
    have X1 : ST H' (upd H' L (.lst ws')) := ST.lst hL1 _
    have SL : Same H (upd H' L (.lst ws')) := same_skip S1 nL
    have nkL : kn ≠ L := ne_of hk1 hL1 (fun z => by cases z)
    have hk2 : upd H' L (.lst ws') kn = some (.dK kvs) := by rw [upd_ne nkL]; exact hk1
    have hL2 : upd H' L (.lst ws') L = some (.lst ws') := upd_same
    have kn2 := kn1.mono X1
    have ST3 := ST2.mono X1
    have R2 := R'.mono X1
    refine ⟨p', _, rfl, SqT.of (X1 _ _ hp'), rfl, _, _, rfl, _, _, rfl, rfl, ?_⟩
    generalize upd H' L (.lst ws') = H2 at SL hk2 hL2 kn2 ST3 R2
    refine ⟨_, rfl, _, _, rfl, rfl, ?_⟩
    refine ⟨_, rfl, ?_⟩
    -- the node's own measure
    refine ⟨fun σ' H3 => ∃ (cn' dp' : Nat) (kvs' : List (Key × V)) (y8 y9 : Option V), σ' = [some x, some (.ref m), some (.ref kn), some (.int (cn' : Int)), some (.ref L), some x', some (.int ((l : Nat) : Int)), some (.int (dp' : Int)), y8, y9] ∧ Same H H3 ∧ ST H2 H3 ∧ H3 L = some (.lst ws') ∧ H3 kn = some (.dK kvs') ∧
      KnOk H3 kvs' (lk ms) ∧ kvs'.length ≤ cn' ∧ cn' + D.sizeL (D.subL (lk ms) d'.kids) = cn + (d'.sub (lk ms)).size ∧ dp' ≤ l + (d'.sub (lk ms)).depth - 1 ∧ (d'.kids = [] → dp' = l + (d'.sub (lk ms)).depth - 1) ∧ (d'.kids ≠ [] → d'.isV = false), ?_, ?_⟩
    · have plain : (∀ n, d' = .v n → lk ms n = none) → (d'.kids ≠ [] → d'.isV = false) ∧ (cn + 1) + D.sizeL (D.subL (lk ms) d'.kids) = cn + (d'.sub (lk ms)).size ∧ l ≤ l + (d'.sub (lk ms)).depth - 1 ∧ (d'.kids = [] → l = l + (d'.sub (lk ms)).depth - 1) := by
        intro hn
        have hp1 := depth_pos (d'.sub (lk ms))
        cases hv : d'.isV with
        | true =>
          cases d' with
          | v n =>
            rw [sub_v_none (hn n rfl)]
            refine ⟨fun z => absurd rfl z, ?_, (by show l ≤ l + 1 - 1; omega), fun _ => ?_⟩
            · show (cn + 1) + 0 = cn + 1
              omega
            · show l = l + 1 - 1
              omega
          | c _ _ => cases hv
          | t _ => cases hv
          | f _ _ => cases hv
        | false =>
          refine ⟨fun _ => rfl, ?_, by omega, fun hk => ?_⟩
          · rw [size_kids (d'.sub (lk ms)), sub_kids _ _ hv]
            omega
          · rw [depth_kids (d'.sub (lk ms)), sub_kids _ _ hv, hk]
            show l = l + (1 + 0) - 1
            omega
      have skip : (∀ n, d' = .v n → lk ms n = none) → ∃ (cn' dp' : Nat) (kvs' : List (Key × V)) (y8' y9' : Option V), [some x, some (.ref m), some (.ref kn), some (.int ((cn : Int) + 1)), some (.ref L), some x', some (.int ((l : Nat) : Int)), some (.int ((l : Nat) : Int)), y8, y9] = [some x, some (.ref m), some (.ref kn), some (.int (cn' : Int)), some (.ref L), some x', some (.int ((l : Nat) : Int)), some (.int (dp' : Int)), y8', y9'] ∧ Same H H2 ∧ ST H2 H2 ∧ H2 L = some (.lst ws') ∧ H2 kn = some (.dK kvs') ∧
          KnOk H2 kvs' (lk ms) ∧ kvs'.length ≤ cn' ∧ cn' + D.sizeL (D.subL (lk ms) d'.kids) = cn + (d'.sub (lk ms)).size ∧ dp' ≤ l + (d'.sub (lk ms)).depth - 1 ∧ (d'.kids = [] → dp' = l + (d'.sub (lk ms)).depth - 1) ∧ (d'.kids ≠ [] → d'.isV = false) := by
        intro hn
        obtain ⟨p1, p2, p3, p4⟩ := plain hn
        exact ⟨cn + 1, l, kvs, y8, y9, rfl, SL, ST.refl _, hL2, hk2, kn2, by omega, p2, p3, p4, p1⟩
      obtain ⟨pa, ka, ra, rfl, hta, hva, _⟩ := R2.tag
      refine ⟨_, rfl, pa, _, _, _, rfl, rfl, hta.sq, atI_nat (j := 0) rfl, rfl, _, rfl, ite2 (fun c1 => ?_) (fun c1 => ?_)⟩
      · have k1 : ka = "v" := V.str.inj (of_decide_eq_true c1)
        cases R2 with
        | c h1 h2 h3 => exact absurd (hva.mpr k1) (by intro z; cases z)
        | t h1 h2 h3 => exact absurd (hva.mpr k1) (by intro z; cases z)
        | f h1 h2 h3 => exact absurd (hva.mpr k1) (by intro z; cases z)
        | @v _ n h1 =>
          obtain ⟨kvm, hm, Mm⟩ := M
          have hm2 := SL _ _ hm
          refine ⟨_, rfl, pa, _, _, _, rfl, rfl, h1.sq, atI_nat (j := 1) rfl, _, rfl, m, _, rfl, DGet.k (k := Sum.inl n) hm2, _, rfl, ?_⟩
          rcases Mm.get n with ⟨g1, g2⟩ | ⟨v, e, g1, g2, Re⟩
          · rw [g1]
            refine iteF ?_
            exact skip (fun n' hn => by cases hn; exact g2)
          · rw [g1]
            refine iteT ?_
            have Re2 := Re.mono (ST.same SL)
            refine ⟨_, rfl, pa, _, _, _, rfl, rfl, h1.sq, atI_nat (j := 1) rfl, ?_⟩
            refine ⟨fun σ' H3 => ∃ (kvs' : List (Key × V)) (py : Addr), σ' = [some x, some (.ref m), some (.ref kn), some (.int ((cn : Int) + 1)), some (.ref L), some (.ref pa), some (.int ((l : Nat) : Int)), some (.int ((l : Nat) : Int)), some (.int n), y9] ∧ Same H H3 ∧ ST H2 H3 ∧ H3 L = some (.lst ws') ∧ H3 kn = some (.dK kvs') ∧
              KnOk H3 kvs' (lk ms) ∧ kvs'.length ≤ cn + 1 ∧ valV kvs' (.inl n) = some (.ref py) ∧ H3 py = some (.tup [.int (e.size : Int), .int (e.depth : Int)]), ?_, ?_⟩
            · refine ⟨_, rfl, _, rfl, kn, _, rfl, DGet.k (k := Sum.inl n) hk2, _, rfl, ?_⟩
              cases gk : valV kvs (.inl n) with
              | none =>
                refine iteT ?_
                refine ⟨_, rfl, _, rfl, m, _, rfl, (by have g := DGet.k (k := Sum.inl n) hm2; rw [g1] at g; exact g), v, e, rfl, Re2, szm n e g2, fun H3 r S3 hr3 => ?_⟩
                have hk3 := S3 _ _ hk2
                refine ⟨_, rfl, _, rfl, kn, _, rfl, DPut.k (k := Sum.inl n) hk3 (zbig (n := kvs.length) (by omega)), ?_⟩
                have X3 : ST H3 (upd H3 kn (.dK (putK kvs (.inl n) (.ref r)))) := ST.dct hk3 _
                have nk : H kn = none := hkn
                refine ⟨_, r, rfl, same_skip (SL.trans S3) nk, (ST.same S3).trans X3, ?_, upd_same, fun n' v' ev => ?_, ?_, ?_, X3 _ _ hr3⟩
                · rw [upd_ne nkL.symm]
                  exact S3 _ _ hL2
                · rw [valV_put] at ev
                  by_cases cc : (Sum.inl n' : Key) = Sum.inl n
                  · rw [if_pos cc] at ev
                    cases ev
                    cases cc
                    exact ⟨r, e, rfl, g2, X3 _ _ hr3⟩
                  · rw [if_neg cc] at ev
                    exact (kn2.mono ((ST.same S3).trans X3)) n' v' ev
                · have := length_putK kvs (Sum.inl n : Key) (.ref r)
                  omega
                · rw [valV_put, if_pos rfl]
              | some vk =>
                refine iteF ?_
                obtain ⟨py, e', rfl, g3, g4⟩ := kn2 n vk gk
                have ee : e' = e := Option.some.inj (g3.symm.trans g2)
                subst ee
                exact ⟨kvs, py, rfl, SL, ST.refl _, hL2, hk2, kn2, by omega, gk, g4⟩
            · rintro σ' H3 ⟨kvs', py, rfl, S3, X3, hL3, hk3, kn3, lk3, gy, hy⟩
              have dg : DGet H3 kn (.int n) (some (.ref py)) := by
                have g := DGet.k (k := Sum.inl n) hk3
                rw [gy] at g
                exact g
              refine ⟨_, rfl, _, rfl, _, rfl, kn, _, rfl, dg, py, _, _, _, rfl, rfl, SqT.of hy, atI_nat (j := 0) rfl, _, _, rfl, rfl, _, _, rfl, rfl, ?_⟩
              refine ⟨_, rfl, _, rfl, _, rfl, kn, _, rfl, dg, py, _, _, _, rfl, rfl, SqT.of hy, atI_nat (j := 1) rfl, _, _, rfl, rfl, _, _, rfl, rfl, ?_⟩
              have ps := size_pos e
              have pd := depth_pos e
              have i1 : ((cn : Int) + 1 + ((e.size : Int) - 1)) = ((cn + e.size : Nat) : Int) := by omega
              have i2 : (((l : Nat) : Int) + ((e.depth : Int) - 1)) = ((l + e.depth - 1 : Nat) : Int) := by omega
              refine ⟨cn + e.size, l + e.depth - 1, kvs', some (.int n), y9, ?_, S3, X3, hL3, hk3, kn3, by omega, ?_, ?_, fun _ => ?_, fun z => absurd rfl z⟩
              · rw [← i1, ← i2]
                rfl
              · rw [sub_size_v g2]
                show cn + e.size + 0 = _
                omega
              · rw [sub_size_v g2]
                exact Nat.le_refl _
              · rw [sub_size_v g2]
      · have k1 : ¬ ka = "v" := fun z => c1 (decide_eq_true (congrArg V.str z))
        refine skip (fun n hn => ?_)
        subst hn
        exact absurd (hva.mp rfl) k1
    · rintro σ' H3 ⟨cn', dp', kvs', y8', y9', rfl, S3, X3, hL3, hk3, kn3, lk3, f1, f2, f3, f4⟩
      have R3 := R2.mono X3
      -- the bounds
      have cnN : cn' ≤ (d.sub (lk ms)).size := by omega
      have dpN : dp' ≤ (d.sub (lk ms)).depth := by omega
      refine ⟨fun σ' H4 => σ' = [some x, some (.ref m), some (.ref kn), some (.int (cn' : Int)), some (.ref L), some x', some (.int ((l : Nat) : Int)), some (.int (dp' : Int)), y8', y9'] ∧ H4 = H3 ∧ cn' ≤ 2000 ∧ dp' ≤ 100, ?_, ?_⟩
      · refine ⟨_, rfl, _, _, rfl, rfl, _, rfl, ite2 (fun b1 => ?_) (fun b1 => ?_)⟩
        · have b1' : (2000 : Int) < (cn' : Int) := of_decide_eq_true b1
          exact qE (.inl (by omega)) _ S3
        · have b1' : ¬ (2000 : Int) < (cn' : Int) := fun z => b1 (decide_eq_true z)
          refine ⟨_, rfl, _, _, rfl, rfl, _, rfl, ite2 (fun b2 => ?_) (fun b2 => ?_)⟩
          · have b2' : (100 : Int) < (dp' : Int) := of_decide_eq_true b2
            exact qE (.inr (by omega)) _ S3
          · have b2' : ¬ (100 : Int) < (dp' : Int) := fun z => b2 (decide_eq_true z)
            exact ⟨rfl, rfl, by omega, by omega⟩
      · rintro σ' H4 ⟨rfl, rfl, b1, b2⟩
        refine ⟨_, rfl, x', d', rfl, R3, fun H5 qa vs2 S5 h5 RL => ⟨qa, rfl, ⟨_, h5.sq⟩, ?_⟩⟩
        have lv := RL.len
        refine for_tup (K := K) (a := qa) (xs := vs2) (fun j σ H'' => ∃ y9 ps, σ = [some x, some (.ref m), some (.ref kn), some (.int (cn' : Int)), some (.ref L), some x', some (.int ((l : Nat) : Int)), some (.int (dp' : Int)), y8', y9] ∧ Same H H'' ∧ ST H5 H'' ∧ H'' L = some (.lst (ws' ++ ps)) ∧ H'' kn = some (.dK kvs') ∧ Stk K H'' ps (push (l + 1) (d'.kids.take j)))
          ⟨_, [], rfl, S3.trans S5, ST.refl _, by rw [List.append_nil]; exact S5 _ _ hL3, S5 _ _ hk3, .nil⟩ (fun i σ H'' _ h => ?_) (fun i z σ H'' hz h => ?_) (fun σ H'' h => ?_)
        · obtain ⟨y9, ps, _, _, X4, _⟩ := h
          exact (h5.mono X4).sq
        · obtain ⟨y9, ps, rfl, S6, X4, hL4, hk4, SP⟩ := h
          obtain ⟨dz, hdz, Rz⟩ := RL.get hz
          have hi : i < d'.kids.length := (List.getElem?_eq_some_iff.mp hdz).1
          refine ⟨_, rfl, .inl ⟨rfl, _, SqL.of hL4⟩, _, rfl, _, rfl, _, _, rfl, rfl, zz 2, fun pt hpt => ?_⟩
          have Sp := same_upd hpt (o := .tup [z, .int (((l : Nat) : Int) + 1)])
          have hL5 := Sp _ _ hL4
          have bound : (ws' ++ ps).length ≤ 100000 := by
            have t1 := SP.len
            have t2 := ST2.len
            have t3 := len_szS its'
            have t5 : (push (l + 1) (d'.kids.take i)).length ≤ d'.size := by
              show ((d'.kids.take i).map _).length ≤ _
              rw [List.length_map, List.length_take, size_kids]
              have t6 := len_szS (push 0 d'.kids)
              rw [szS_push] at t6
              have t7 : (push 0 d'.kids).length = d'.kids.length := List.length_map _
              omega
            rw [List.length_append]
            omega
          refine ⟨L, _, _, rfl, rfl, hL5, zbig bound, ?_⟩
          have X5 : ST (upd H'' pt (.tup [z, .int (((l : Nat) : Int) + 1)])) (upd (upd H'' pt (.tup [z, .int (((l : Nat) : Int) + 1)])) L (.lst (ws' ++ ps ++ [.ref pt]))) := ST.lst hL5 _
          refine ⟨_, ps ++ [.ref pt], rfl, same_skip (S6.trans Sp) nL, X4.trans ((ST.same Sp).trans X5), by rw [upd_same, List.append_assoc], by rw [upd_ne nkL]; exact Sp _ _ hk4, ?_⟩
          have e5 : push (l + 1) (d'.kids.take (i + 1)) = push (l + 1) (d'.kids.take i) ++ [(dz, l + 1)] := by
            rw [List.take_add_one, hdz]
            exact List.map_append
          rw [e5]
          refine (SP.mono ((ST.same Sp).trans X5)).app (.cons (X5 _ _ upd_same) ?_ .nil)
          exact Rz.mono (X4.trans ((ST.same Sp).trans X5))
        · obtain ⟨y9, ps, rfl, S6, X4, hL4, hk4, SP⟩ := h
          rw [lv, List.take_length] at SP
          have X45 := (ST.same S5).trans X4
          refine ⟨szS (its' ++ push (l + 1) d'.kids), ?_, cn', ws' ++ ps, its' ++ push (l + 1) d'.kids, kvs', some x', some (.int ((l : Nat) : Int)), some (.int (dp' : Int)), y8', y9, rfl, S6, hL4, ((ST3.mono X3).mono X45).app SP, hk4, kn3.mono X45, lk3, b1, rfl, ?_, ?_, ?_, ?_⟩
          · rw [szS_app, szS_app, szS_push]
            show _ < _ + (d'.size + 0)
            rw [size_kids d']
            omega
          · rw [szS_app, szS_push]
            rw [size_kids d'] at z1'
            omega
          · rw [subS_app, subS_push, szS_app, szS_push]
            omega
          · rw [subS_app, subS_push, dpS_app]
            by_cases hk : d'.kids = []
            · rw [hk]
              show max _ 0 ≤ _
              omega
            · have hne : D.subL (lk ms) d'.kids ≠ [] := by
                rw [subL_map]
                intro z
                exact hk (List.map_eq_nil_iff.mp z)
              have e4 := dpS_push (l + 1) _ hne
              have e5 := depth_kids (d'.sub (lk ms))
              rw [sub_kids _ _ (f4 hk)] at e5
              omega
          · rw [subS_app, subS_push, dpS_app]
            by_cases hk : d'.kids = []
            · rw [hk]
              have e6 := f3 hk
              show _ ∨ max _ 0 = _
              omega
            · have hne : D.subL (lk ms) d'.kids ≠ [] := by
                rw [subL_map]
                intro z
                exact hk (List.map_eq_nil_iff.mp z)
              have e4 := dpS_push (l + 1) _ hne
              have e5 := depth_kids (d'.sub (lk ms))
              rw [sub_kids _ _ (f4 hk)] at e5
              omega
/-- replaced -/
theorem repl_none {f : Addr} {fd : FuncData} : FnOk P w K mg base CX0 1 f fd ["shape", "mapping"] (spRepl K 0) := by
  have no : ∀ vs H Q E, ¬ spRepl K 0 vs H Q E := fun vs H Q E h => by
    obtain ⟨x, d, m, ms, _, _, _, _, h, _⟩ := h
    have := depth_pos d
    omega
  exact ⟨fun vs H Q E h => absurd h (no vs H Q E), fun A outer s H args us vs Q E _ _ _ _ h => absurd h (no vs H Q E)⟩
theorem ok_repl {f f2 f3 : Addr} {fd d2 d3 : FuncData} {n b : Nat} (F : Fun K "replaced" "replaced" sReplaced f fd) (hn : 1 ≤ n) (Oq : Own P w K mg base CX0 1 "parts_of_shape" f2 d2 ["shape"] (spParts K)) (Ow : Own P w K mg base CX0 1 "with_parts" f3 d3 ["shape", "parts"] (spWith K))
    (Orp : Own P w K mg base CX0 n "replaced" f fd ["shape", "mapping"] (spRepl K b)) : FnOk P w K mg base CX0 (n + 1) f fd ["shape", "mapping"] (spRepl K (b + 1)) := by
  refine F.ok scReplaced (fun vs H Q E h => ?_) (fun cdv A outer s H vs Q E hr h => ?_)
  · obtain ⟨x, d, m, ms, rfl, _⟩ := h
    rfl
  obtain ⟨x, d, m, ms, rfl, R, M, sz, dp, q⟩ := h
  have hr1 := hr.mono hn
  refine ⟨_, pss_cons (ps_if (pt_cmpR op_eq (pe_ix ix_tup (pv 0) pe_int (fun _ _ => rfl)) pe_str (nomark _)) (pss_one (ps_ret (pe_dget2 (hu_of hr) (pv 1) (pe_ix ix_tup (pv 0) pe_int (fun _ _ => rfl)) (pv 0) ⟨rfl, rfl, rfl, rfl⟩))) pss_nil)
      (pss_cons (ps_set (i := 2) scReplaced.nd rfl (.inl rfl) (pe_lst pa_nil))
      (pss_cons (ps_for PassesOwn.never rfl (pi_tup (pe_call Oq.ok hr1 rfl Oq.at_ Oq.kp Oq.bd .nil pass0 (pa_cons (pv 0) pa_nil))) (pg_name (i := 3) scReplaced.nd rfl (.inl rfl)) (pss_one (ps_expr (pe_bm PySem.F.plainAttrs_list PySem.F.slot_list_append PySem.F.type_list_append mt_append (pv 2) (pa_cons (pe_call Orp.ok hr rfl Orp.at_ Orp.kp Orp.bd .nil pass0 (pa_cons (pv 3) (pa_cons (pv 1) pa_nil))) pa_nil)))))
      (pss_one (ps_ret (pe_call Ow.ok hr1 rfl Ow.at_ Ow.kp Ow.bd .nil pass0 (pa_cons (pv 0) (pa_cons (pv 2) pa_nil))))))), ?_⟩
  obtain ⟨pa, ka, ra, rfl, hta, hva, _⟩ := R.tag
  refine ⟨_, rfl, pa, _, _, _, rfl, rfl, hta.sq, atI_nat (j := 0) rfl, rfl, _, rfl, ite2 (fun c1 => ?_) (fun c1 => ?_)⟩
  · have k1 : ka = "v" := V.str.inj (of_decide_eq_true c1)
    cases R with
    | c h1 h2 h3 => exact absurd (hva.mpr k1) (by intro z; cases z)
    | t h1 h2 h3 => exact absurd (hva.mpr k1) (by intro z; cases z)
    | f h1 h2 h3 => exact absurd (hva.mpr k1) (by intro z; cases z)
    | @v _ nn h1 =>
      obtain ⟨kvm, hm, Mm⟩ := M
      refine ⟨_, rfl, m, rfl, .inl ⟨_, .of hm⟩, _, rfl, pa, _, _, _, rfl, rfl, h1.sq, atI_nat (j := 1) rfl, _, rfl, _, DGet.k (k := Sum.inl nn) hm, ?_⟩
      rcases Mm.get nn with ⟨g1, g2⟩ | ⟨v, e, g1, g2, Re⟩
      · rw [g1]
        refine q _ _ (Same.refl _) ?_
        rw [sub_v_none g2]
        exact .v h1
      · rw [g1]
        refine q _ _ (Same.refl _) ?_
        rw [sub_size_v g2]
        exact Re
  · have nv : d.isV = false := by
      cases hv : d.isV with
      | false => rfl
      | true => exact absurd (decide_eq_true (congrArg V.str (hva.mp hv))) c1
    refine ⟨Nat.zero_le _, fun L hL => ?_⟩
    have S0 := same_upd hL (o := .lst [])
    refine ⟨_, rfl, _, d, rfl, R.same S0, fun H2 qa ws S2 h2 RL => ⟨qa, rfl, ⟨_, h2.sq⟩, ?_⟩⟩
    have lv := RL.len
    have kl := kids_len d
    have SS := S0.trans S2
    refine for_tup (K := K) (a := qa) (xs := ws) (fun j σ H' => ∃ y3 ps, σ = [some (.ref pa), some (.ref m), some (.ref L), y3] ∧ Same H H' ∧ ST H2 H' ∧ H' L = some (.lst ps) ∧ RpL K H' ps (D.subL (lk ms) (d.kids.take j)))
      ⟨_, [], rfl, SS, ST.refl _, S2 _ _ upd_same, .nil⟩ (fun i σ H' _ h => ?_) (fun i z σ H' hz h => ?_) (fun σ H' h => ?_)
    · obtain ⟨y3, ps, _, _, X, _⟩ := h
      exact (h2.mono X).sq
    · obtain ⟨y3, ps, rfl, S3, X3, hL3, RP⟩ := h
      obtain ⟨dz, hdz, Rz⟩ := RL.get hz
      have hi : i < d.kids.length := (List.getElem?_eq_some_iff.mp hdz).1
      have hmem := List.mem_of_getElem? hdz
      have k1 := kid_size hmem
      have k2 := kid_depth hmem
      refine ⟨_, rfl, .inl ⟨rfl, _, SqL.of hL3⟩, _, rfl, _, rfl, z, dz, m, ms, rfl, Rz.mono X3, M.same S3, by omega, by omega, fun H4 v4 S4 R4 => ?_⟩
      have hL4 := S4 _ _ hL3
      have l1 := RP.len
      rw [subL_len, List.length_take] at l1
      refine ⟨L, _, _, rfl, rfl, hL4, zbig (n := ps.length) (by omega), ?_⟩
      have X5 : ST H4 (upd H4 L (.lst (ps ++ [v4]))) := ST.lst hL4 _
      refine ⟨_, ps ++ [v4], rfl, same_skip (S3.trans S4) hL, X3.trans ((ST.same S4).trans X5), upd_same, ?_⟩
      rw [subL_take _ hdz]
      exact ((RP.same S4).mono X5).app (.cons (R4.mono X5) .nil)
    · obtain ⟨y3, ps, rfl, S3, X3, hL3, RP⟩ := h
      rw [lv, List.take_length] at RP
      refine ⟨_, rfl, _, rfl, _, d, L, ps, _, rfl, R.same S3, nv, hL3, RP, subL_len _ _, fun H5 v5 S5 R5 => ?_⟩
      rw [with_sub _ _ nv] at R5
      exact q _ _ (S3.trans S5) R5
theorem repl_all {f f2 f3 : Addr} {fd d2 d3 : FuncData} (F : Fun K "replaced" "replaced" sReplaced f fd) (bd : Binds K fd ["shape", "mapping"] []) (at_ : mg "replaced" = some (.ref f)) (Oq : Own P w K mg base CX0 1 "parts_of_shape" f2 d2 ["shape"] (spParts K)) (Ow : Own P w K mg base CX0 1 "with_parts" f3 d3 ["shape", "parts"] (spWith K)) :
    ∀ b : Nat, FnOk P w K mg base CX0 (b + 1) f fd ["shape", "mapping"] (spRepl K b)
  | 0 => repl_none
  | b + 1 => ok_repl F (by omega) Oq Ow ⟨repl_all F bd at_ Oq Ow b, bd, F.kp, at_⟩
theorem ok_subst {f f2 f3 C : Addr} {fd d2 d3 : FuncData} {n : Nat} (F : Fun K "substitute" "substitute" sSubstitute f fd) (Oc : Own P w K mg base (L2.CX P w) n "check_result" f2 d2 ["shape", "mapping"] (spCheck K C)) (hn : n ≤ 101)
    (Orp : Own P w K mg base CX0 101 "replaced" f3 d3 ["shape", "mapping"] (spRepl K 100)) : FnOk P w K mg base (L2.CX P w) 102 f fd ["shape", "mapping"] (spSubst K C) := by
  refine F.okX scSubstitute (fun vs H Q E h => ?_) (fun cdv A outer s H vs Q E hr h => ?_)
  · obtain ⟨x, d, m, ms, rfl, _⟩ := h
    rfl
  obtain ⟨x, d, m, ms, rfl, R, M, sz, szm, qE, qQ⟩ := h
  have hr1 := hr.mono hn
  refine ⟨_, pss_cons (ps_expr (pe_call Oc.ok hr1 rfl Oc.at_ Oc.kp Oc.bd .nil (passes_call (E := E) (takes_of rfl rfl rfl rfl) (fun _ _ _ _ h => h)) (pa_cons (pv 0) (pa_cons (pv 1) pa_nil))))
    (pss_one (ps_ret (pe_call Orp.ok hr rfl Orp.at_ Orp.kp Orp.bd .nil pass0 (pa_cons (pv 0) (pa_cons (pv 1) pa_nil))))), ?_⟩
  refine ⟨_, rfl, _, rfl, x, d, m, ms, rfl, R, M, sz, szm, qE, fun nb H1 S1 => ?_⟩
  have dd := depth_sub (lk ms) d
  have d100 : (d.sub (lk ms)).depth ≤ 100 := Nat.le_of_not_lt fun z => nb (.inr z)
  exact ⟨_, rfl, _, rfl, x, d, m, ms, rfl, R.same S1, M.same S1, sz, by omega, fun H2 v2 S2 R2 => qQ nb _ _ (S1.trans S2) R2⟩
end
end Vs

set_option Elab.async false
set_option linter.all false
set_option maxRecDepth 100000
namespace Vs
open PySem PySem.Spec PyProof.Rows L2 RT StX
open C8 (pss_cut tCut)
section
variable {P : Program} {w : World} {K : PySem.W.Frag} {mg : Str → Option Value} {base : Heap}
theorem ok_tape {f : Addr} {fd : FuncData} {k : Nat} (F : Fun K "_law_tape" "_law_tape" sLawTape f fd) (ma : mg "abs" = none) (mm : mg "max" = none) (ml : mg "len" = none) (mr : mg "range" = none) (mi : mg "int" = none) : FnOk P w K mg base CX0 (k + 1) f fd ["script", "many"] (spTape K) := by
  refine F.ok scLawTape (fun vs H Q E h => ?_) (fun cdv A outer s H vs Q E hr h => ?_)
  · obtain ⟨a, ns, many, rfl, _⟩ := h
    rfl
  obtain ⟨a, ns, many, rfl, hS, m0, m1, q⟩ := h
  refine ⟨_, pss_cons (ps_set (i := 2) scLawTape.nd rfl (.inl rfl) (pe_lst (pa_cons pe_int pa_nil)))
    (pss_cons (ps_for PassesOwn.never rfl (pi_list (pe_slice sl_list (pv 0) po_none (po_some pe_int))) (pg_name (i := 3) scLawTape.nd rfl (.inl rfl))
      (pss_one (ps_expr (pe_bm PySem.F.plainAttrs_list PySem.F.slot_list_append PySem.F.type_list_append mt_append (pv 2) (pa_cons (pe_callB call_abs (by rfl) ma (by decide +kernel) (pa_cons (pv 3) pa_nil)) pa_nil)))))
    (pss_cons (ps_set (i := 4) scLawTape.nd rfl (.inl rfl) (pe_callB (cr_max rfl) (by rfl) mm (by decide +kernel) (pa_cons (pv 2) pa_nil)))
    (pss_cons (ps_if (pt_cmpR op_lt (pv 4) (pe_op op_pow pe_int pe_int) (nomark _)) (pss_one (ps_set (i := 4) scLawTape.nd rfl (.inl rfl) pe_int)) pss_nil)
    (pss_cons (ps_set (i := 5) scLawTape.nd rfl (.inl rfl) (pe_op op_add pe_int (pe_callB call_len_seq (by rfl) ml PySem.boot_len (pa_cons (pv 2) pa_nil))))
    (pss_cons (ps_set (i := 6) scLawTape.nd rfl (.inl rfl) (pe_lst pa_nil))
    (pss_cons (ps_for PassesOwn.never rfl (pi_range1 rfl mr (pa_cons (pv 1) pa_nil)) (pg_name (i := 7) scLawTape.nd rfl (.inl rfl))
      (pss_one (ps_if (pt_cmpR op_gt (pv 4) pe_int (nomark _))
        (pss_cons (ps_expr (pe_bm PySem.F.plainAttrs_list PySem.F.slot_list_append PySem.F.type_list_append mt_append (pv 6) (pa_cons (pe_op op_mod (pe_callTy call_int1 (by rfl) mi (by decide +kernel) (pa_cons (pv 4) pa_nil)) pe_int) pa_nil)))
        (pss_one (ps_set (i := 4) scLawTape.nd rfl (.inl rfl) (pe_op op_fdiv (pv 4) pe_int))))
        (pss_cons (ps_set (i := 5) scLawTape.nd rfl (.inl rfl) (pe_op op_mod (pe_callTy call_int1 (by rfl) mi (by decide +kernel) (pa_cons
          (pe_op op_add (pe_op op_add (pe_op op_mul (pv 5) pe_int) (pe_op op_mul (pe_ix ix_list (pv 2) (pe_op op_mod (pe_callTy call_int1 (by rfl) mi (by decide +kernel) (pa_cons (pv 7) pa_nil)) (pe_callB call_len_seq (by rfl) ml PySem.boot_len (pa_cons (pv 2) pa_nil))) (fun _ _ => rfl)) pe_int)) (pv 7)) pa_nil)) pe_int))
        (pss_one (ps_expr (pe_bm PySem.F.plainAttrs_list PySem.F.slot_list_append PySem.F.type_list_append mt_append (pv 6) (pa_cons (pe_op op_mod (pe_callTy call_int1 (by rfl) mi (by decide +kernel) (pa_cons
          (pe_op op_add (pe_op op_mul (pv 5) pe_int) (pe_op op_mul (pv 7) pe_int)) pa_nil)) pe_int) pa_nil))))))))
    (pss_one (ps_ret (pv 6))))))))), ?_⟩
  -- cells = [0]
  refine ⟨(by show 1 ≤ sizeLine; decide), fun ce hce => ?_⟩
  have S1 : Same H (upd H ce (.lst [.int 0])) := same_upd hce
  obtain ⟨ms, ems, lms⟩ := cut_front ns
  refine ⟨_, rfl, 63, rfl, a, _, rfl, S1.seq hS, fun c hc => ?_⟩
  rw [ems]
  have nce : ce ≠ c := ne_of_none upd_same hc
  have S2 : Same (upd H ce (.lst [.int 0])) (upd (upd H ce (.lst [.int 0])) c (.lst (ms.map V.int))) := same_upd hc
  refine ⟨c, rfl, ⟨_, SqL.of upd_same⟩, ?_⟩
  refine for_list (K := K) (a := c) (xs := ms.map V.int) (fun i σ H' => (∃ y3, σ = [some (.ref a), some (.int many), some (.ref ce), y3, none, none, none, none]) ∧ Same H H' ∧ H' c = some (.lst (ms.map V.int)) ∧ ∃ cs : List Int, H' ce = some (.lst (cs.map V.int)) ∧ cs.length = i + 1)
    ⟨⟨_, rfl⟩, S1.trans S2, upd_same, [0], by rw [upd_ne nce, upd_same]; rfl, rfl⟩ (fun i σ H' _ h => SqL.of h.2.2.1) (fun i x σ H' hx h => ?_) (fun σ H' h => ?_)
  · obtain ⟨⟨y3, rfl⟩, s1, hc1, cs, hcs, lcs⟩ := h
    have hi : i < ms.length := by
      have := (List.getElem?_eq_some_iff.mp hx).1
      rw [List.length_map] at this
      exact this
    rw [List.getElem?_map, List.getElem?_eq_getElem hi] at hx
    cases hx
    refine ⟨_, rfl, .inl ⟨rfl, _, SqL.of hcs⟩, _, rfl, _, rfl, ce, _, _, rfl, rfl, hcs, small1000 (by rw [List.length_map]; omega), ?_⟩
    rw [snoc_map]
    refine ⟨⟨_, rfl⟩, same_skip s1 hce, ?_, _, upd_same, ?_⟩
    · rw [upd_ne nce.symm]
      exact hc1
    · rw [List.length_append, lcs]
      rfl
  obtain ⟨⟨y3, rfl⟩, s1, hc1, cs, hcs, lcs⟩ := h
  rw [List.length_map] at lcs
  -- big = max(cells)
  refine ⟨_, rfl, ce, cs, rfl, SqL.of hcs, by omega, fun big _ _ => ?_⟩
  refine ⟨_, rfl, 10, 18, rfl, rfl, ⟨by decide, by decide, by decide⟩, _, _, rfl, rfl, _, rfl, ?_⟩
  have lcs' : (((cs.map V.int).length : Nat) : Int) = (cs.length : Int) := by rw [List.length_map]
  refine ite2 (fun c1 => ?_) (fun c1 => ?_)
  all_goals
    refine ⟨_, rfl, ce, _, rfl, .inl (SqL.of hcs), _, _, rfl, rfl, ?_⟩
    refine ⟨Nat.zero_le _, fun tp htp => ?_⟩
    have ntp : ce ≠ tp := ne_of_none hcs htp
    refine ⟨_, rfl, many, rfl, by omega, by omega, ?_⟩
    refine for_range (n := many.toNat) (fun i σ H' => ∃ bg vl y7 ts, σ = [some (.ref a), some (.int many), some (.ref ce), y3, some (.int bg), some (.int vl), some (.ref tp), y7] ∧ Same H H' ∧ H' ce = some (.lst (cs.map V.int)) ∧ H' tp = some (.lst ((ts : List Int).map V.int)) ∧ ts.length = i ∧ ∀ t ∈ ts, 0 ≤ t)
      ⟨_, _, none, [], rfl, s1.trans (same_upd htp), by rw [upd_ne ntp]; exact hcs, upd_same, rfl, fun t ht => by cases ht⟩ (fun i σ H' hi h => ?_) (fun σ H' h => ?_)
    · obtain ⟨bg, vl, y7, ts, rfl, s2, hcs2, hts, lts, nts⟩ := h
      have lt1 : (ts.map V.int).length < sizeLine := small1000 (by rw [List.length_map]; omega)
      have fresh : H tp = none := s1.free htp
      have nn : ∀ z : Int, ∀ t ∈ ts ++ [z], 0 ≤ z → 0 ≤ t := fun z t ht hz => by
        rcases List.mem_append.mp ht with h | h
        · exact nts t h
        · rw [List.mem_singleton.mp h]
          exact hz
      refine ⟨_, rfl, _, _, rfl, rfl, _, rfl, ite2 (fun c2 => ?_) (fun c2 => ?_)⟩
      · refine ⟨_, rfl, .inl ⟨rfl, _, SqL.of hts⟩, _, rfl, .inl ⟨_, rfl, _, _, rfl, rfl, (by show (0 : Int) < 1009; decide), tp, _, _, rfl, rfl, hts, lt1, ?_⟩⟩
        rw [snoc_map]
        refine ⟨_, rfl, _, _, rfl, rfl, ⟨by decide, by decide⟩, ?_⟩
        refine ⟨_, _, _, _, rfl, same_skip s2 fresh, by rw [upd_ne ntp]; exact hcs2, upd_same, by rw [List.length_append, lts]; rfl, fun t ht => nn _ t ht (Int.emod_nonneg _ (by decide))⟩
      · have pos : 0 < (((cs.map V.int).length : Nat) : Int) := by omega
        obtain ⟨v, hv, _⟩ := int_at (ns := cs) (i := (0 + (i : Int)) % (((cs.map V.int).length : Nat) : Int)) (Int.emod_nonneg _ (by omega)) (by rw [← lcs']; exact Int.emod_lt_of_pos _ pos)
        refine ⟨_, rfl, _, _, rfl, rfl, .inr ⟨by decide, by decide⟩, _, rfl, _, rfl, .inl ⟨_, rfl, _, rfl, ce, _, rfl, .inl (SqL.of hcs2), _, _, rfl, rfl, pos, ce, _, _, _, rfl, rfl, SqL.of hcs2, hv, _, _, rfl, rfl, .inr ⟨by decide, by decide⟩, _, _, rfl, rfl, ?_⟩⟩
        refine ⟨_, rfl, _, _, rfl, rfl, .inl ⟨_, rfl, _, _, rfl, rfl, (by show (0 : Int) < 2147483647; decide), ?_⟩⟩
        refine ⟨_, rfl, .inl ⟨rfl, _, SqL.of hts⟩, _, rfl, _, _, rfl, rfl, .inr ⟨by decide, by decide⟩, _, rfl, _, _, rfl, rfl, .inr ⟨by decide, by decide⟩, _, _, rfl, rfl, .inl ⟨_, rfl, _, _, rfl, rfl, (by show (0 : Int) < 1000003; decide), tp, _, _, rfl, rfl, hts, lt1, ?_⟩⟩
        rw [snoc_map]
        refine ⟨_, _, _, _, rfl, same_skip s2 fresh, by rw [upd_ne ntp]; exact hcs2, upd_same, by rw [List.length_append, lts]; rfl, fun t ht => nn _ t ht (Int.emod_nonneg _ (by decide))⟩
    · obtain ⟨bg, vl, y7, ts, rfl, s2, hcs2, hts, lts, nts⟩ := h
      exact ⟨_, rfl, q _ _ ts s2 hts lts nts⟩
theorem ok_pick {f : Addr} {fd : FuncData} {k : Nat} (F : Fun K "_law_pick" "_law_pick" sLawPick f fd) (m_int : mg "int" = none) (m_len : mg "len" = none) : FnOk P w K mg base CX0 (k + 1) f fd ["tape", "at", "many"] (spPick K) := by
  refine F.ok scLawPick (fun vs H Q E h => ?_) (fun cdv A outer s H vs Q E hr h => ?_)
  · obtain ⟨a, ns, at_, many, rfl, _⟩ := h
    rfl
  obtain ⟨a, ns, at_, many, rfl, hS, hl, hm, q⟩ := h
  refine ⟨_, pss_one (ps_ret (pe_op op_mod (pe_callTy call_int1 (by rfl) m_int (by decide +kernel) (pa_cons (pe_ix ix_list (pv 0) (pe_op op_mod (pe_callTy call_int1 (by rfl) m_int (by decide +kernel) (pa_cons (pv 1) pa_nil)) (pe_callB call_len_seq (by rfl) m_len PySem.boot_len (pa_cons (pv 0) pa_nil))) (fun _ _ => rfl)) pa_nil)) (pv 2))), ?_⟩
  have e0 : (((ns.map V.int).length : Nat) : Int) = (ns.length : Int) := by rw [List.length_map]
  have hl' : 0 < (((ns.map V.int).length : Nat) : Int) := by omega
  have b0 : 0 ≤ at_ % (((ns.map V.int).length : Nat) : Int) := Int.emod_nonneg _ (by omega)
  have b1 : at_ % (((ns.map V.int).length : Nat) : Int) < (((ns.map V.int).length : Nat) : Int) := Int.emod_lt_of_pos _ hl'
  have hj2 : (at_ % (ns.length : Int)).toNat < ns.length := by
    rw [e0] at b0 b1
    omega
  have g : atI (ns.map V.int) (at_ % (((ns.map V.int).length : Nat) : Int)) = some (.int (ns.getD (at_ % (ns.length : Int)).toNat 0)) := by
    rw [e0] at b0 ⊢
    have z : at_ % (ns.length : Int) = (((at_ % (ns.length : Int)).toNat : Nat) : Int) := (Int.toNat_of_nonneg b0).symm
    rw [show atI (ns.map V.int) (at_ % (ns.length : Int)) = atI (ns.map V.int) (((at_ % (ns.length : Int)).toNat : Nat) : Int) from congrArg _ z]
    refine atI_nat ?_
    rw [List.getElem?_map, List.getElem?_eq_getElem hj2, List.getD_eq_getElem?_getD, List.getElem?_eq_getElem hj2]
    rfl
  refine ⟨_, rfl, _, rfl, .inl ⟨_, rfl, _, rfl, a, _, rfl, .inl hS, _, _, rfl, rfl, hl', a, _, _, _, rfl, rfl, hS, g, .inl ⟨_, rfl, _, rfl, _, _, rfl, rfl, hm, ?_⟩⟩⟩
  exact q
theorem leaf_stamp {r : Int} (h0 : 0 ≤ r) (h1 : r < 4) : ∃ s : Int, atI [V.int 0, .int 1, .int 4, .int 0] r = some (.int s) ∧ (s = 0 ∨ s = 1 ∨ s = 4) := by
  have c : r = 0 ∨ r = 1 ∨ r = 2 ∨ r = 3 := by omega
  rcases c with rfl | rfl | rfl | rfl
  · exact ⟨0, atI_nat (j := 0) rfl, .inl rfl⟩
  · exact ⟨1, atI_nat (j := 1) rfl, .inr (.inl rfl)⟩
  · exact ⟨4, atI_nat (j := 2) rfl, .inr (.inr rfl)⟩
  · exact ⟨0, atI_nat (j := 3) rfl, .inl rfl⟩
theorem one_stamp {r : Int} (h0 : 0 ≤ r) (h1 : r < 3) : ∃ s : Int, atI [V.int 3, .int 5, .int 6] r = some (.int s) ∧ (s = 3 ∨ s = 5 ∨ s = 6) := by
  have c : r = 0 ∨ r = 1 ∨ r = 2 := by omega
  rcases c with rfl | rfl | rfl
  · exact ⟨3, atI_nat (j := 0) rfl, .inl rfl⟩
  · exact ⟨5, atI_nat (j := 1) rfl, .inr (.inl rfl)⟩
  · exact ⟨6, atI_nat (j := 2) rfl, .inr (.inr rfl)⟩
theorem ok_leaf {f f2 : Addr} {fd d2 : FuncData} {k : Nat} (F : Fun K "_law_leaf" "_law_leaf" sLawLeaf f fd) (Op : Own P w K mg base CX0 k "_law_pick" f2 d2 ["tape", "at", "many"] (spPick K)) (m_len : mg "len" = none) : FnOk P w K mg base CX0 (k + 1) f fd ["tape", "at", "free"] (spLeaf K) := by
  refine F.ok scLawLeaf (fun vs H Q E h => ?_) (fun cdv A outer s H vs Q E hr h => ?_)
  · obtain ⟨T, Fr, ts, fr, at_, rfl, _⟩ := h
    rfl
  obtain ⟨T, Fr, ts, fr, at_, rfl, hT, hp, hF, q⟩ := h
  refine ⟨_, pss_cons (ps_set (i := 3) scLawLeaf.nd rfl (.inl rfl) (pe_call Op.ok hr rfl Op.at_ Op.kp Op.bd .nil pass0 (pa_cons (pv 0) (pa_cons (pv 1) (pa_cons (pe_op op_add pe_int (pe_callB call_len_seq (by rfl) m_len PySem.boot_len (pa_cons (pv 2) pa_nil))) pa_nil)))))
      (pss_cons (ps_if (pt_cmpR op_ge (pv 3) pe_int (nomark _)) (pss_one (ps_ret (pe_tup (pa_cons pe_str (pa_cons (pe_ix ix_list (pv 2) (pe_op op_sub (pv 3) pe_int) (fun _ _ => rfl)) pa_nil))))) pss_nil)
      (pss_one (ps_ret (pe_tup (pa_cons pe_str (pa_cons (pe_ix ix_tup (pe_tup (pa_cons pe_int (pa_cons pe_int (pa_cons pe_int (pa_cons pe_int pa_nil))))) (pv 3) (fun _ _ => rfl)) (pa_cons (pe_tup pa_nil) pa_nil))))))), ?_⟩
  have e0 : (((fr.map V.int).length : Nat) : Int) = (fr.length : Int) := by rw [List.length_map]
  have many0 : (0 : Int) < 4 + (((fr.map V.int).length : Nat) : Int) := by omega
  refine ⟨_, rfl, _, rfl, _, rfl, Fr, _, rfl, .inl hF, _, _, rfl, rfl, T, ts, _, _, rfl, hT, hp, many0, ?_⟩
  have p0 := pk_lo (ts := ts) (a := at_) many0
  have p1 := pk_hi (ts := ts) (a := at_) many0
  generalize pk ts at_ (4 + (((fr.map V.int).length : Nat) : Int)) = r at p0 p1
  refine ⟨_, rfl, _, _, rfl, rfl, _, rfl, ite2 (fun c1 => ?_) (fun c1 => ?_)⟩
  · have c1' : (4 : Int) ≤ r := of_decide_eq_true c1
    obtain ⟨v, hv, hm⟩ := int_at (ns := fr) (i := r - 4) (by omega) (by omega)
    refine ⟨_, rfl, _, rfl, _, _, rfl, rfl, Fr, _, _, _, rfl, rfl, hF, hv, zz 2, fun p hp1 => ?_⟩
    exact q _ _ (.v v) (same_upd hp1) (.v (.of upd_same)) (fun l => .leafv hm)
  · have c1' : ¬ (4 : Int) ≤ r := fun z => c1 (decide_eq_true z)
    obtain ⟨sv, hs, hk⟩ := leaf_stamp p0 (by omega)
    refine ⟨zz 4, fun p hp1 => ⟨_, rfl, p, _, _, _, rfl, rfl, SqT.of upd_same, hs, zz 0, fun e he => ⟨zz 3, fun p2 hp2 => ?_⟩⟩⟩
    have S := (same_upd hp1 (o := .tup [.int 0, .int 1, .int 4, .int 0])).trans ((same_upd he (o := .tup [])).trans (same_upd hp2 (o := .tup [.str "c", .int sv, .ref e])))
    exact q _ _ (.c sv []) S (.c (.of upd_same) (.of (same_upd hp2 _ _ upd_same)) .nil) (fun l => .leafc hk)
theorem shape_none {f : Addr} {fd : FuncData} : FnOk P w K mg base CX0 2 f fd ["tape", "at", "level", "free"] (spShape K 0) := by
  have no : ∀ vs H Q E, ¬ spShape K 0 vs H Q E := fun vs H Q E h => by
    obtain ⟨T, Fr, ts, fr, at_, l, _, h, _⟩ := h
    omega
  exact ⟨fun vs H Q E h => absurd h (no vs H Q E), fun A outer s H args us vs Q E _ _ _ _ h => absurd h (no vs H Q E)⟩
theorem ok_shape {f f2 f3 : Addr} {fd d2 d3 : FuncData} {n b : Nat} (F : Fun K "_law_shape" "_law_shape" sLawShape f fd) (hn : 2 ≤ n) (Op : Own P w K mg base CX0 1 "_law_pick" f2 d2 ["tape", "at", "many"] (spPick K)) (Ol : Own P w K mg base CX0 2 "_law_leaf" f3 d3 ["tape", "at", "free"] (spLeaf K))
    (Os : Own P w K mg base CX0 n "_law_shape" f fd ["tape", "at", "level", "free"] (spShape K b)) (m_range : mg "range" = none) (m_tuple : mg "tuple" = none) : FnOk P w K mg base CX0 (n + 1) f fd ["tape", "at", "level", "free"] (spShape K (b + 1)) := by
  refine F.ok scLawShape (fun vs H Q E h => ?_) (fun cdv A outer s H vs Q E hr h => ?_)
  · obtain ⟨T, Fr, ts, fr, at_, l, rfl, _⟩ := h
    rfl
  obtain ⟨T, Fr, ts, fr, at_, l, rfl, hl, hT, hp, hF, q⟩ := h
  have hr2 := hr.mono hn
  have hr1 := hr.mono (show 1 ≤ n by omega)
  refine ⟨_, pss_cons (ps_set (i := 4) scLawShape.nd rfl (.inl rfl) (pe_call Op.ok hr1 rfl Op.at_ Op.kp Op.bd .nil pass0 (pa_cons (pv 0) (pa_cons (pv 1) (pa_cons pe_int pa_nil)))))
      (pss_cons (ps_if (PW.pt (pw_or (pt_cmpR op_le (pv 2) pe_int (nomark _)) (pw_or1 (pt_cmpR op_lt (pv 4) pe_int (nomark _))))) (pss_one (ps_ret (pe_tup (pa_cons (pe_call Ol.ok hr2 rfl Ol.at_ Ol.kp Ol.bd .nil pass0 (pa_cons (pv 0) (pa_cons (pe_op op_add (pv 1) pe_int) (pa_cons (pv 3) pa_nil)))) (pa_cons (pe_op op_add (pv 1) pe_int) pa_nil))))) pss_nil)
      (pss_cons (ps_if (pt_cmpR op_lt (pv 4) pe_int (nomark _)) (pss_cons (ps_asg (pe_call Os.ok hr rfl Os.at_ Os.kp Os.bd .nil pass0 (pa_cons (pv 0) (pa_cons (pe_op op_add (pv 1) pe_int) (pa_cons (pe_op op_sub (pv 2) pe_int) (pa_cons (pv 3) pa_nil))))) (pg_tup rfl (pgs_cons (pg_name (i := 5) scLawShape.nd rfl (.inl rfl)) (pgs_cons (pg_name (i := 1) scLawShape.nd rfl (.inl rfl)) pgs_nil))))
      (pss_cons (ps_asg (pe_call Os.ok hr rfl Os.at_ Os.kp Os.bd .nil pass0 (pa_cons (pv 0) (pa_cons (pv 1) (pa_cons (pe_op op_sub (pv 2) pe_int) (pa_cons (pv 3) pa_nil))))) (pg_tup rfl (pgs_cons (pg_name (i := 6) scLawShape.nd rfl (.inl rfl)) (pgs_cons (pg_name (i := 1) scLawShape.nd rfl (.inl rfl)) pgs_nil))))
      (pss_one (ps_ret (pe_tup (pa_cons (pe_tup (pa_cons pe_str (pa_cons (pv 5) (pa_cons (pv 6) pa_nil)))) (pa_cons (pv 1) pa_nil))))))) pss_nil)
      (pss_cons (ps_if (pt_cmpR op_eq (pv 4) pe_int (nomark _)) (pss_cons (ps_asg (pe_call Os.ok hr rfl Os.at_ Os.kp Os.bd .nil pass0 (pa_cons (pv 0) (pa_cons (pe_op op_add (pv 1) pe_int) (pa_cons (pe_op op_sub (pv 2) pe_int) (pa_cons (pv 3) pa_nil))))) (pg_tup rfl (pgs_cons (pg_name (i := 7) scLawShape.nd rfl (.inl rfl)) (pgs_cons (pg_name (i := 1) scLawShape.nd rfl (.inl rfl)) pgs_nil))))
      (pss_one (ps_ret (pe_tup (pa_cons (pe_tup (pa_cons pe_str (pa_cons (pe_ix ix_tup (pe_tup (pa_cons pe_int (pa_cons pe_int (pa_cons pe_int pa_nil)))) (pe_call Op.ok hr1 rfl Op.at_ Op.kp Op.bd .nil pass0 (pa_cons (pv 0) (pa_cons (pv 1) (pa_cons pe_int pa_nil)))) (fun _ _ => rfl)) (pa_cons (pe_tup (pa_cons (pv 7) pa_nil)) pa_nil)))) (pa_cons (pe_op op_add (pv 1) pe_int) pa_nil)))))) pss_nil)
      (pss_cons (ps_set (i := 8) scLawShape.nd rfl (.inl rfl) (pe_lst pa_nil))
      (pss_cons (ps_set (i := 9) scLawShape.nd rfl (.inl rfl) (pe_op op_add pe_int (pe_op op_fdiv (pe_call Op.ok hr1 rfl Op.at_ Op.kp Op.bd .nil pass0 (pa_cons (pv 0) (pa_cons (pe_op op_add (pv 1) pe_int) (pa_cons pe_int pa_nil)))) pe_int)))
      (pss_cons (ps_set (i := 1) scLawShape.nd rfl (.inl rfl) (pe_op op_add (pv 1) pe_int))
      (pss_cons (ps_for PassesOwn.never rfl (pi_range1 rfl m_range (pa_cons (pv 9) pa_nil)) (pg_name (i := 10) scLawShape.nd rfl (.inl rfl)) (pss_cons (ps_asg (pe_call Os.ok hr rfl Os.at_ Os.kp Os.bd .nil pass0 (pa_cons (pv 0) (pa_cons (pv 1) (pa_cons (pe_op op_sub (pv 2) pe_int) (pa_cons (pv 3) pa_nil))))) (pg_tup rfl (pgs_cons (pg_name (i := 11) scLawShape.nd rfl (.inl rfl)) (pgs_cons (pg_name (i := 1) scLawShape.nd rfl (.inl rfl)) pgs_nil))))
      (pss_one (ps_expr (pe_bm PySem.F.plainAttrs_list PySem.F.slot_list_append PySem.F.type_list_append mt_append (pv 8) (pa_cons (pv 11) pa_nil))))))
      (pss_one (ps_ret (pe_tup (pa_cons (pe_tup (pa_cons pe_str (pa_cons (pe_callTy call_tuple_of (by rfl) m_tuple (by decide +kernel) (pa_cons (pv 8) pa_nil)) pa_nil))) (pa_cons (pv 1) pa_nil)))))))))))), ?_⟩
  refine ⟨_, rfl, _, rfl, T, ts, _, _, rfl, hT, hp, by decide, ?_⟩
  have p0 := pk_lo (ts := ts) (a := at_) (show (0 : Int) < 7 by decide)
  have p1 := pk_hi (ts := ts) (a := at_) (show (0 : Int) < 7 by decide)
  generalize pk ts at_ 7 = r at p0 p1
  have leaf : ∀ (D' : Ends) (σ : L2.St), D'.rt = Q → σ = [some (.ref T), some (.int at_), some (.int (l : Int)), some (.ref Fr), some (.int r), none, none, none, none, none, none, none] →
      tRet (tTup (tCons (tCall (spLeaf K) [] E0 (tCons (tVar 0) (tCons (tOp (rI0 fun i j => .int (i + j)) (tVar 1) (tC (.int 1))) (tCons (tVar 3) tNil)))) (tCons (tOp (rI0 fun i j => .int (i + j)) (tVar 1) (tC (.int 2))) tNil))) D' σ H := by
    rintro D' σ hD rfl
    refine ⟨_, rfl, _, rfl, _, _, rfl, rfl, _, rfl, T, Fr, ts, fr, _, rfl, hT, hp, hF, fun H1 v d S1 R1 g => ?_⟩
    refine ⟨_, rfl, _, _, rfl, rfl, zz 2, fun p hp1 => ?_⟩
    rw [hD]
    exact q _ p v d _ (S1.trans (same_upd hp1)) upd_same (R1.same (same_upd hp1)) (g l)
  refine ⟨_, rfl, _, _, rfl, rfl, _, rfl, ite2 (fun c1 => ?_) (fun c1 => ?_)⟩
  · refine iteT ?_
    exact leaf _ _ rfl rfl
  have c1' : ¬ ((l : Nat) : Int) ≤ 0 := fun z => c1 (decide_eq_true z)
  obtain ⟨m, rfl⟩ : ∃ m, l = m + 1 := ⟨l - 1, by omega⟩
  have lv : ((m + 1 : Nat) : Int) - 1 = (m : Int) := by omega
  refine ⟨_, rfl, _, _, rfl, rfl, _, rfl, ite2 (fun c2 => ?_) (fun c2 => ?_)⟩
  · exact leaf _ _ rfl rfl
  -- a function
  refine ⟨_, rfl, _, _, rfl, rfl, _, rfl, ite2 (fun c3 => ?_) (fun c3 => ?_)⟩
  · refine ⟨_, rfl, _, rfl, _, _, rfl, rfl, _, rfl, _, _, rfl, rfl, _, rfl, T, Fr, ts, fr, at_ + 1, m, (by rw [← lv]; rfl), by omega, hT, hp, hF, fun H1 r1 v1 d1 at1 S1 h1 R1 g1 => ?_⟩
    refine ⟨r1, _, rfl, SqT.of h1, rfl, _, _, rfl, _, _, rfl, rfl, ?_⟩
    refine ⟨_, rfl, _, rfl, _, rfl, _, _, rfl, rfl, _, rfl, T, Fr, ts, fr, at1, m, (by rw [← lv]; rfl), by omega, S1.seq hT, hp, S1.seq hF, fun H2 r2 v2 d2 at2 S2 h2 R2 g2 => ?_⟩
    refine ⟨r2, _, rfl, SqT.of h2, rfl, _, _, rfl, _, _, rfl, rfl, ?_⟩
    refine ⟨_, rfl, _, rfl, zz 3, fun p hp1 => ⟨_, rfl, zz 2, fun p2 hp2 => ?_⟩⟩
    have S3 := (same_upd hp1 (o := .tup [.str "f", v1, v2])).trans (same_upd hp2 (o := .tup [.ref p, .int at2]))
    exact q _ p2 _ (.f d1 d2) at2 (S1.trans (S2.trans S3)) upd_same (.f (.of (same_upd hp2 _ _ upd_same)) (R1.same (S2.trans S3)) (R2.same S3)) (.f g1 g2)
  -- one argument
  refine ⟨_, rfl, rfl, _, rfl, ite2 (fun c4 => ?_) (fun c4 => ?_)⟩
  · refine ⟨_, rfl, _, rfl, _, _, rfl, rfl, _, rfl, _, _, rfl, rfl, _, rfl, T, Fr, ts, fr, at_ + 1, m, (by rw [← lv]; rfl), by omega, hT, hp, hF, fun H1 r1 v1 d1 at1 S1 h1 R1 g1 => ?_⟩
    refine ⟨r1, _, rfl, SqT.of h1, rfl, _, _, rfl, _, _, rfl, rfl, ?_⟩
    refine ⟨zz 3, fun p3 hp3 => ?_⟩
    have S3 := same_upd hp3 (o := .tup [.int 3, .int 5, .int 6])
    refine ⟨_, rfl, _, rfl, T, ts, _, _, rfl, S3.seq (S1.seq hT), hp, by decide, ?_⟩
    obtain ⟨sv, hs, hk⟩ := one_stamp (pk_lo (ts := ts) (a := at1) (show (0 : Int) < 3 by decide)) (pk_hi (ts := ts) (a := at1) (show (0 : Int) < 3 by decide))
    refine ⟨p3, _, _, _, rfl, rfl, SqT.of upd_same, hs, _, rfl, zz 1, fun p4 hp4 => ⟨zz 3, fun p5 hp5 => ⟨_, rfl, _, _, rfl, rfl, zz 2, fun p6 hp6 => ?_⟩⟩⟩
    have S4 := same_upd hp4 (o := .tup [v1])
    have S56 := (same_upd hp5 (o := .tup [.str "c", .int sv, .ref p4])).trans (same_upd hp6 (o := .tup [.ref p5, .int (at1 + 1)]))
    exact q _ p6 _ (.c sv [d1]) _ (S1.trans (S3.trans (S4.trans S56))) upd_same (.c (.of (same_upd hp6 _ _ upd_same)) (.of (S56 _ _ upd_same)) (.cons (R1.same (S3.trans (S4.trans S56))) .nil)) (.one hk g1)
  -- a tuple
  refine ⟨Nat.zero_le _, fun L hL => ?_⟩
  have S0 := same_upd hL (o := .lst [])
  refine ⟨_, rfl, _, rfl, _, _, rfl, rfl, T, ts, _, _, rfl, S0.seq hT, hp, by decide, ?_⟩
  have m0 := pk_lo (ts := ts) (a := at_ + 1) (show (0 : Int) < 5 by decide)
  have m1 := pk_hi (ts := ts) (a := at_ + 1) (show (0 : Int) < 5 by decide)
  generalize pk ts (at_ + 1) 5 = r5 at m0 m1
  refine ⟨_, _, rfl, rfl, ⟨by decide, by decide⟩, _, _, rfl, rfl, ?_⟩
  refine ⟨_, rfl, _, _, rfl, rfl, ?_⟩
  have q0 : 0 ≤ r5 / 2 ∧ r5 / 2 ≤ 2 := by omega
  refine ⟨_, rfl, 2 + r5 / 2, rfl, by omega, by omega, ?_⟩
  refine for_range (n := (2 + r5 / 2).toNat) (fun i σ H' => ∃ at' y5 y6 y7 y10 y11 ps ds, σ = [some (.ref T), some (.int at'), some (.int ((m + 1 : Nat) : Int)), some (.ref Fr), some (.int r), y5, y6, y7, some (.ref L), some (.int (2 + r5 / 2)), y10, y11] ∧ Same H H' ∧ H' L = some (.lst ps) ∧ RpL K H' ps ds ∧ ds.length = i ∧ ∀ x ∈ ds, GenD fr m x)
    ⟨_, _, _, _, _, _, [], [], rfl, S0, upd_same, .nil, rfl, fun x h => by cases h⟩ (fun i σ H' hi h => ?_) (fun σ H' h => ?_)
  · obtain ⟨at', y5, y6, y7, y10, y11, ps, ds, rfl, S1, hL1, RP, ld, gd⟩ := h
    refine ⟨_, rfl, _, rfl, _, rfl, _, _, rfl, rfl, _, rfl, T, Fr, ts, fr, at', m, (by rw [← lv]; rfl), by omega, S1.seq hT, hp, S1.seq hF, fun H2 r2 v2 d2 at2 S2 h2 R2 g2 => ?_⟩
    refine ⟨r2, _, rfl, SqT.of h2, rfl, _, _, rfl, _, _, rfl, rfl, ?_⟩
    have hL2 := S2 _ _ hL1
    have lp := RP.len
    refine ⟨_, rfl, .inl ⟨rfl, _, SqL.of hL2⟩, _, rfl, L, _, _, rfl, rfl, hL2, small1000 (by omega), ?_⟩
    have X := ST.lst hL2 (.lst (ps ++ [v2]))
    refine ⟨at2, _, _, _, _, _, ps ++ [v2], ds ++ [d2], rfl, same_skip (S1.trans S2) hL, upd_same, ((RP.same S2).mono X).app (.cons (R2.mono X) .nil), ?_, fun x hx => ?_⟩
    · rw [List.length_append, ld]
      rfl
    · rcases List.mem_append.mp hx with h | h
      · exact gd x h
      · rw [List.mem_singleton.mp h]
        exact g2
  · obtain ⟨at', y5, y6, y7, y10, y11, ps, ds, rfl, S1, hL1, RP, ld, gd⟩ := h
    refine ⟨_, rfl, L, _, rfl, .inl ⟨SqL.of hL1, fun p hp1 => ?_⟩⟩
    refine ⟨zz 2, fun p2 hp2 => ⟨_, rfl, zz 2, fun p3 hp3 => ?_⟩⟩
    have S23 := (same_upd hp2 (o := .tup [.str "t", .ref p])).trans (same_upd hp3 (o := .tup [.ref p2, .int at']))
    have SA := (same_upd hp1 (o := .tup ps)).trans S23
    exact q _ p3 _ (.t ds) at' (S1.trans SA) upd_same (.t (.of (same_upd hp3 _ _ upd_same)) (.of (S23 _ _ upd_same)) (RP.same SA)) (.t (by omega) (by omega) gd)
theorem shape_all {f f2 f3 : Addr} {fd d2 d3 : FuncData} (F : Fun K "_law_shape" "_law_shape" sLawShape f fd) (bd : Binds K fd ["tape", "at", "level", "free"] []) (at_ : mg "_law_shape" = some (.ref f)) (Op : Own P w K mg base CX0 1 "_law_pick" f2 d2 ["tape", "at", "many"] (spPick K))
    (Ol : Own P w K mg base CX0 2 "_law_leaf" f3 d3 ["tape", "at", "free"] (spLeaf K)) (m_range : mg "range" = none) (m_tuple : mg "tuple" = none) : ∀ b : Nat, FnOk P w K mg base CX0 (b + 2) f fd ["tape", "at", "level", "free"] (spShape K b)
  | 0 => shape_none
  | b + 1 => ok_shape F (by omega) Op Ol ⟨shape_all F bd at_ Op Ol m_range m_tuple b, bd, F.kp, at_⟩ m_range m_tuple
end
end Vs

set_option Elab.async false
set_option linter.all false
set_option maxRecDepth 100000
namespace Vs
open PySem PySem.Spec PyProof.Rows L2 RT StX
open C8 (pss_cut tCut)
section
variable {P : Program} {w : World} {K : PySem.W.Frag} {mg : Str → Option Value} {base : Heap}
theorem ok_lparts {f : Addr} {fd : FuncData} {k : Nat} (F : Fun K "_law_parts" "_law_parts" sLawParts f fd) : FnOk P w K mg base CX0 (k + 1) f fd ["shape"] (spParts K) := by
  refine F.ok scLawParts (fun vs H Q E h => ?_) (fun cdv A outer s H vs Q E hr h => ?_)
  · obtain ⟨x, d, rfl, _⟩ := h
    rfl
  obtain ⟨x, d, rfl, R, q⟩ := h
  refine ⟨_, pss_cons (ps_if (pt_cmpR op_eq (pe_ix ix_tup (pv 0) pe_int (fun _ _ => rfl)) pe_str (nomark _)) (pss_one (ps_ret (pe_tup pa_nil))) pss_nil)
      (pss_cons (ps_if (pt_cmpR op_eq (pe_ix ix_tup (pv 0) pe_int (fun _ _ => rfl)) pe_str (nomark _)) (pss_one (ps_ret (pe_ix ix_tup (pv 0) pe_int (fun _ _ => rfl)))) pss_nil)
      (pss_cons (ps_if (pt_cmpR op_eq (pe_ix ix_tup (pv 0) pe_int (fun _ _ => rfl)) pe_str (nomark _)) (pss_one (ps_ret (pe_ix ix_tup (pv 0) pe_int (fun _ _ => rfl)))) pss_nil)
      (pss_one (ps_ret (pe_tup (pa_cons (pe_ix ix_tup (pv 0) pe_int (fun _ _ => rfl)) (pa_cons (pe_ix ix_tup (pv 0) pe_int (fun _ _ => rfl)) pa_nil))))))), ?_⟩
  cases R with
  | @v p n h1 =>
    refine ⟨_, rfl, p, _, _, _, rfl, rfl, h1.sq, atI_nat (j := 0) rfl, rfl, _, rfl, iteY ?_⟩
    exact ⟨zz 0, fun c hc => q _ c [] (same_upd hc) (.of upd_same) .nil⟩
  | @c p qa s vs as h1 h2 h3 =>
    refine ⟨_, rfl, p, _, _, _, rfl, rfl, h1.sq, atI_nat (j := 0) rfl, rfl, _, rfl, iteN (by decide +kernel) ?_⟩
    refine ⟨_, rfl, p, _, _, _, rfl, rfl, h1.sq, atI_nat (j := 0) rfl, rfl, _, rfl, iteY ?_⟩
    exact ⟨_, rfl, p, _, _, _, rfl, rfl, h1.sq, atI_nat (j := 2) rfl, q _ qa vs (Same.refl _) h2 h3⟩
  | @t p qa vs as h1 h2 h3 =>
    refine ⟨_, rfl, p, _, _, _, rfl, rfl, h1.sq, atI_nat (j := 0) rfl, rfl, _, rfl, iteN (by decide +kernel) ?_⟩
    refine ⟨_, rfl, p, _, _, _, rfl, rfl, h1.sq, atI_nat (j := 0) rfl, rfl, _, rfl, iteN (by decide +kernel) ?_⟩
    refine ⟨_, rfl, p, _, _, _, rfl, rfl, h1.sq, atI_nat (j := 0) rfl, rfl, _, rfl, iteY ?_⟩
    exact ⟨_, rfl, p, _, _, _, rfl, rfl, h1.sq, atI_nat (j := 1) rfl, q _ qa vs (Same.refl _) h2 h3⟩
  | @f p x y a b h1 h2 h3 =>
    refine ⟨_, rfl, p, _, _, _, rfl, rfl, h1.sq, atI_nat (j := 0) rfl, rfl, _, rfl, iteN (by decide +kernel) ?_⟩
    refine ⟨_, rfl, p, _, _, _, rfl, rfl, h1.sq, atI_nat (j := 0) rfl, rfl, _, rfl, iteN (by decide +kernel) ?_⟩
    refine ⟨_, rfl, p, _, _, _, rfl, rfl, h1.sq, atI_nat (j := 0) rfl, rfl, _, rfl, iteN (by decide +kernel) ?_⟩
    refine ⟨_, rfl, p, _, _, _, rfl, rfl, h1.sq, atI_nat (j := 1) rfl, _, rfl, p, _, _, _, rfl, rfl, h1.sq, atI_nat (j := 2) rfl, zz 2, fun c hc => ?_⟩
    have S1 := same_upd hc (o := .tup [x, y])
    exact q _ c [x, y] S1 (.of upd_same) (.cons (h2.same S1) (.cons (h3.same S1) .nil))
theorem ok_lreb {f : Addr} {fd : FuncData} {k : Nat} (F : Fun K "_law_rebuilt" "_law_rebuilt" sLawRebuilt f fd) (m_tuple : mg "tuple" = none) : FnOk P w K mg base CX0 (k + 1) f fd ["shape", "parts"] (spWith K) := by
  refine F.ok scLawRebuilt (fun vs H Q E h => ?_) (fun cdv A outer s H vs Q E hr h => ?_)
  · obtain ⟨x, d, L, ws, ds, rfl, _⟩ := h
    rfl
  obtain ⟨x, d, L, ws, ds, rfl, R, nv, hL, RL, hl, q⟩ := h
  refine ⟨_, pss_cons (ps_if (pt_cmpR op_eq (pe_ix ix_tup (pv 0) pe_int (fun _ _ => rfl)) pe_str (nomark _)) (pss_one (ps_ret (pe_tup (pa_cons pe_str (pa_cons (pe_ix ix_tup (pv 0) pe_int (fun _ _ => rfl)) (pa_cons (pe_callTy call_tuple_of (by rfl) m_tuple (by decide +kernel) (pa_cons (pv 1) pa_nil)) pa_nil)))))) pss_nil)
      (pss_cons (ps_if (pt_cmpR op_eq (pe_ix ix_tup (pv 0) pe_int (fun _ _ => rfl)) pe_str (nomark _)) (pss_one (ps_ret (pe_tup (pa_cons pe_str (pa_cons (pe_callTy call_tuple_of (by rfl) m_tuple (by decide +kernel) (pa_cons (pv 1) pa_nil)) pa_nil))))) pss_nil)
      (pss_one (ps_ret (pe_tup (pa_cons pe_str (pa_cons (pe_ix ix_list (pv 1) pe_int (fun _ _ => rfl)) (pa_cons (pe_ix ix_list (pv 1) pe_int (fun _ _ => rfl)) pa_nil))))))), ?_⟩
  cases R with
  | @v p n h1 => cases nv
  | @c p qa s vs as h1 h2 h3 =>
    refine ⟨_, rfl, p, _, _, _, rfl, rfl, h1.sq, atI_nat (j := 0) rfl, rfl, _, rfl, iteY ?_⟩
    refine ⟨_, rfl, p, _, _, _, rfl, rfl, h1.sq, atI_nat (j := 1) rfl, _, rfl, L, ws, rfl, .inl ⟨SqL.of hL, fun l hl1 => ⟨zz 3, fun r hr1 => ?_⟩⟩⟩
    have S3 := (same_upd hl1 (o := .tup ws)).trans (same_upd hr1 (o := .tup [.str "c", .int s, .ref l]))
    exact q _ (.ref r) S3 (.c (.of upd_same) (.of (same_upd hr1 _ _ upd_same)) (RL.same S3))
  | @t p qa vs as h1 h2 h3 =>
    refine ⟨_, rfl, p, _, _, _, rfl, rfl, h1.sq, atI_nat (j := 0) rfl, rfl, _, rfl, iteN (by decide +kernel) ?_⟩
    refine ⟨_, rfl, p, _, _, _, rfl, rfl, h1.sq, atI_nat (j := 0) rfl, rfl, _, rfl, iteY ?_⟩
    refine ⟨_, rfl, L, ws, rfl, .inl ⟨SqL.of hL, fun l hl1 => ⟨zz 2, fun r hr1 => ?_⟩⟩⟩
    have S3 := (same_upd hl1 (o := .tup ws)).trans (same_upd hr1 (o := .tup [.str "t", .ref l]))
    exact q _ (.ref r) S3 (.t (.of upd_same) (.of (same_upd hr1 _ _ upd_same)) (RL.same S3))
  | @f p x y a b h1 h2 h3 =>
    refine ⟨_, rfl, p, _, _, _, rfl, rfl, h1.sq, atI_nat (j := 0) rfl, rfl, _, rfl, iteN (by decide +kernel) ?_⟩
    refine ⟨_, rfl, p, _, _, _, rfl, rfl, h1.sq, atI_nat (j := 0) rfl, rfl, _, rfl, iteN (by decide +kernel) ?_⟩
    obtain ⟨d1, d2, rfl⟩ : ∃ d1 d2, ds = [d1, d2] := by
      match ds, hl with
      | [d1, d2], _ => exact ⟨d1, d2, rfl⟩
    obtain ⟨x1, e1, r1⟩ := RL.at (i := 0) rfl
    obtain ⟨x2, e2, r2⟩ := RL.at (i := 1) rfl
    refine ⟨_, rfl, L, _, _, _, rfl, rfl, SqL.of hL, atI_nat (j := 0) e1, _, rfl, L, _, _, _, rfl, rfl, SqL.of hL, atI_nat (j := 1) e2, zz 3, fun r hr1 => ?_⟩
    have S3 := same_upd hr1 (o := .tup [.str "f", x1, x2])
    exact q _ (.ref r) S3 (.f (.of upd_same) (r1.same S3) (r2.same S3))
theorem apply_none {f : Addr} {fd : FuncData} : FnOk P w K mg base CX0 1 f fd ["shape", "pairs"] (spApply K 0) := by
  have no : ∀ vs H Q E, ¬ spApply K 0 vs H Q E := fun vs H Q E h => by
    obtain ⟨x, d, m, ws, ms, _, _, _, _, _, h, _⟩ := h
    have := depth_pos d
    omega
  exact ⟨fun vs H Q E h => absurd h (no vs H Q E), fun A outer s H args us vs Q E _ _ _ _ h => absurd h (no vs H Q E)⟩
theorem ok_apply {f f2 f3 : Addr} {fd d2 d3 : FuncData} {n b : Nat} (F : Fun K "_law_apply" "_law_apply" sLawApply f fd) (hn : 1 ≤ n) (Oq : Own P w K mg base CX0 1 "_law_parts" f2 d2 ["shape"] (spParts K)) (Ow : Own P w K mg base CX0 1 "_law_rebuilt" f3 d3 ["shape", "parts"] (spWith K))
    (Oa : Own P w K mg base CX0 n "_law_apply" f fd ["shape", "pairs"] (spApply K b)) : FnOk P w K mg base CX0 (n + 1) f fd ["shape", "pairs"] (spApply K (b + 1)) := by
  refine F.ok scLawApply (fun vs H Q E h => ?_) (fun cdv A outer s H vs Q E hr h => ?_)
  · obtain ⟨x, d, m, ws, ms, rfl, _⟩ := h
    rfl
  obtain ⟨x, d, Pr, ws, ms, rfl, R, hP, PL, sz, dp, q⟩ := h
  have hr1 := hr.mono hn
  refine ⟨_, pss_cons (ps_if (pt_cmpR op_eq (pe_ix ix_tup (pv 0) pe_int (fun _ _ => rfl)) pe_str (nomark _)) (pss_cons (ps_for PassesOwn.never rfl (pi_list (pv 1)) (pg_tup rfl (pgs_cons (pg_name (i := 2) scLawApply.nd rfl (.inl rfl)) (pgs_cons (pg_name (i := 3) scLawApply.nd rfl (.inl rfl)) pgs_nil))) (pss_one (ps_if (pt_cmpR op_eq (pv 2) (pe_ix ix_tup (pv 0) pe_int (fun _ _ => rfl)) (nomark _)) (pss_one (ps_ret (pv 3))) pss_nil)))
      (pss_one (ps_ret (pv 0)))) pss_nil)
      (pss_one (ps_ret (pe_call Ow.ok hr1 rfl Ow.at_ Ow.kp Ow.bd .nil pass0 (pa_cons (pv 0) (pa_cons (pe_lc (own := [("part", 4)]) (g := gName 4) (tt := tYes) rfl scLawApply.nd (pi_tup (pe_call Oq.ok hr1 rfl Oq.at_ Oq.kp Oq.bd .nil pass0 (pa_cons (pv 0) pa_nil))) (blkOk_by (own := [("part", 4)]) (N := ["shape", "pairs", "number", "due", "part"]) (sc := defScope sLawApply) (by decide +kernel)) (fun _ _ _ _ _ => (pg_name (i := 4) scLawApply.nd rfl (.inl rfl))) (fun _ _ _ _ _ => pts_nil) (fun _ _ _ _ _ => (pe_call Oa.ok hr rfl Oa.at_ Oa.kp Oa.bd .nil pass0 (pa_cons (pv 4) (pa_cons (pv 1) pa_nil))))) pa_nil))))), ?_⟩
  obtain ⟨pa, ka, ra, rfl, hta, hva, _⟩ := R.tag
  refine ⟨_, rfl, pa, _, _, _, rfl, rfl, hta.sq, atI_nat (j := 0) rfl, rfl, _, rfl, ite2 (fun c1 => ?_) (fun c1 => ?_)⟩
  · have k1 : ka = "v" := V.str.inj (of_decide_eq_true c1)
    cases R with
    | c h1 h2 h3 => exact absurd (hva.mpr k1) (by intro z; cases z)
    | t h1 h2 h3 => exact absurd (hva.mpr k1) (by intro z; cases z)
    | f h1 h2 h3 => exact absurd (hva.mpr k1) (by intro z; cases z)
    | @v _ nn h1 =>
      refine ⟨_, rfl, Pr, rfl, ⟨_, hP⟩, ?_⟩
      refine for_list (K := K) (a := Pr) (xs := ws) (fun i σ H' => H' = H ∧ (∃ y2 y3 y4, σ = [some (.ref pa), some (.ref Pr), y2, y3, y4]) ∧ lk ms nn = lk (ms.drop i) nn)
        ⟨rfl, ⟨_, _, _, rfl⟩, rfl⟩ (fun i σ H' _ h => by rw [h.1]; exact hP) (fun i x σ H' hx h => ?_) (fun σ H' h => ?_)
      · obtain ⟨rfl, ⟨y2, y3, y4, rfl⟩, e⟩ := h
        obtain ⟨p, num, y, dd, rfl, hm, ht, Ry⟩ := PL.get hx
        refine ⟨p, _, rfl, SqT.of ht, rfl, _, _, rfl, _, _, rfl, rfl, ?_⟩
        have st := lk_step hm e
        refine ⟨_, rfl, _, rfl, pa, _, _, _, rfl, rfl, h1.sq, atI_nat (j := 1) rfl, rfl, _, rfl, ite2 (fun c2 => ?_) (fun c2 => ?_)⟩
        · have n1 : num = nn := V.int.inj (of_decide_eq_true c2)
          rw [if_pos n1] at st
          refine ⟨_, rfl, q _ _ (Same.refl _) ?_⟩
          rw [sub_size_v st]
          exact Ry
        · have n1 : ¬ num = nn := fun z => c2 (decide_eq_true (congrArg V.int z))
          rw [if_neg n1] at st
          exact ⟨rfl, ⟨_, _, _, rfl⟩, st⟩
      · obtain ⟨rfl, ⟨y2, y3, y4, rfl⟩, e⟩ := h
        rw [PL.len, List.drop_length] at e
        refine ⟨_, rfl, q _ _ (Same.refl _) ?_⟩
        rw [sub_v_none e]
        exact .v h1
  · have nv : d.isV = false := by
      cases hv : d.isV with
      | false => rfl
      | true => exact absurd (decide_eq_true (congrArg V.str (hva.mp hv))) c1
    refine ⟨_, rfl, _, rfl, _, d, rfl, R, fun H2 qa us S2 h2 RL => ⟨qa, rfl, ⟨_, h2.sq⟩, fun L hL => ?_⟩⟩
    have lv := RL.len
    have kl := kids_len d
    have S0 := same_upd hL (o := .lst [])
    refine lc_tup (K := K) (a := qa) (xs := us) (fun j H' => Same H2 H' ∧ ∃ ps, H' L = some (.lst ps) ∧ RpL K H' ps (D.subL (lk ms) (d.kids.take j)))
      ⟨S0, [], upd_same, .nil⟩ (fun i H' _ h => (h2.mono (ST.same h.1)).sq) (fun i z H' hz h => ?_) (fun H' h => ?_)
    · obtain ⟨S3, ps, hL3, RP⟩ := h
      obtain ⟨dz, hdz, Rz⟩ := RL.get hz
      have hmem := List.mem_of_getElem? hdz
      have hi : i < d.kids.length := (List.getElem?_eq_some_iff.mp hdz).1
      have k1 := kid_size hmem
      have k2 := kid_depth hmem
      have S23 := S2.trans S3
      refine ⟨rfl, ?_⟩
      refine ⟨_, rfl, _, rfl, z, dz, Pr, ws, ms, rfl, Rz.mono (ST.same S3), S23.seq hP, PL.mono (ST.same S23), by omega, by omega, fun H4 v4 S4 R4 => ?_⟩
      have hL4 := S4 _ _ hL3
      have l1 := RP.len
      rw [subL_len, List.length_take] at l1
      refine ⟨ps, hL4, zbig (n := ps.length) (by omega), same_skip (S3.trans S4) hL, ps ++ [v4], upd_same, ?_⟩
      have X5 : ST H4 (upd H4 L (.lst (ps ++ [v4]))) := ST.lst hL4 _
      rw [subL_take _ hdz]
      exact ((RP.same S4).mono X5).app (.cons (R4.mono X5) .nil)
    · obtain ⟨S3, ps, hL3, RP⟩ := h
      rw [lv, List.take_length] at RP
      refine ⟨_, d, L, ps, _, rfl, R.same (S2.trans S3), nv, hL3, RP, subL_len _ _, fun H5 v5 S5 R5 => ?_⟩
      rw [with_sub _ _ nv] at R5
      exact q _ _ (S2.trans (S3.trans S5)) R5
theorem apply_all {f f2 f3 : Addr} {fd d2 d3 : FuncData} (F : Fun K "_law_apply" "_law_apply" sLawApply f fd) (bd : Binds K fd ["shape", "pairs"] []) (at_ : mg "_law_apply" = some (.ref f)) (Oq : Own P w K mg base CX0 1 "_law_parts" f2 d2 ["shape"] (spParts K)) (Ow : Own P w K mg base CX0 1 "_law_rebuilt" f3 d3 ["shape", "parts"] (spWith K)) :
    ∀ b : Nat, FnOk P w K mg base CX0 (b + 1) f fd ["shape", "pairs"] (spApply K b)
  | 0 => apply_none
  | b + 1 => ok_apply F (by omega) Oq Ow ⟨apply_all F bd at_ Oq Ow b, bd, F.kp, at_⟩
end
end Vs

set_option Elab.async false
set_option linter.all false
set_option maxRecDepth 100000
namespace Vs
open PySem PySem.Spec PyProof.Rows L2 RT StX
open C8 (pss_cut tCut)
/-! ### chains and flat tuples -/
def chainD : Nat → D → D
  | 0, d => d
  | k + 1, d => .f (.c 4 []) (chainD k d)
theorem chain_depth : ∀ (k : Nat) (d : D), (chainD k d).depth = k + d.depth
  | 0, d => by rw [chainD, Nat.zero_add]
  | k + 1, d => by
    have := chain_depth k d
    have := depth_pos d
    simp only [chainD, D.depth, D.depthL]
    omega
theorem chain_size : ∀ (k : Nat) (d : D), (chainD k d).size = 2 * k + d.size
  | 0, d => by
    rw [chainD]
    omega
  | k + 1, d => by
    have := chain_size k d
    simp only [chainD, D.size, D.sizeL]
    omega
theorem chain_sub (m : Int → Option D) : ∀ (k : Nat) (d : D), (chainD k d).sub m = chainD k (d.sub m)
  | 0, d => rfl
  | k + 1, d => by
    simp only [chainD, D.sub, D.subL]
    rw [chain_sub m k d]
theorem chain_add : ∀ (a b : Nat) (d : D), chainD a (chainD b d) = chainD (a + b) d
  | 0, b, d => by rw [chainD, Nat.zero_add]
  | a + 1, b, d => by rw [chainD, chain_add a b d, Nat.add_right_comm, chainD]
def innerD : Nat → D
  | 0 => .c 0 []
  | k + 1 => .f (.t [.c 0 [], .c 1 []]) (innerD k)
theorem inner_size : ∀ k, (innerD k).size = 1 + 4 * k
  | 0 => by simp only [innerD, D.size, D.sizeL]
  | k + 1 => by
    have := inner_size k
    simp only [innerD, D.size, D.sizeL]
    omega
theorem inner_depth : ∀ k, (innerD k).depth ≤ k + 3
  | 0 => by
    simp only [innerD, D.depth, D.depthL]
    omega
  | k + 1 => by
    have := inner_depth k
    simp only [innerD, D.depth, D.depthL]
    omega
/-- k pairs, each with e -/
def flatD (e : D) : Nat → D
  | 0 => .c 0 []
  | k + 1 => .t [flatD e k, e]
theorem flat_sub (m : Int → Option D) (e : D) : ∀ k, (flatD e k).sub m = flatD (e.sub m) k
  | 0 => by simp only [flatD, D.sub, D.subL]
  | k + 1 => by
    simp only [flatD, D.sub, D.subL]
    rw [flat_sub m e k]
theorem flat_size (e : D) : ∀ k, (flatD e k).size = 1 + k * (1 + e.size)
  | 0 => by simp only [flatD, D.size, D.sizeL]; omega
  | k + 1 => by
    have := flat_size e k
    simp only [flatD, D.size, D.sizeL]
    rw [Nat.add_mul, Nat.one_mul]
    omega
theorem flat_depth (e : D) : ∀ k, (flatD e k).depth ≤ k + e.depth
  | 0 => by
    have := depth_pos e
    simp only [flatD, D.depth, D.depthL]
    omega
  | k + 1 => by
    have := flat_depth e k
    simp only [flatD, D.depth, D.depthL]
    omega
mutual
theorem size_sub_le (m : Int → Option D) (B : Nat) (hB : 1 ≤ B) (h : ∀ n e, m n = some e → e.size ≤ B) : ∀ d : D, (d.sub m).size ≤ d.size * B
  | .v n => by
    rw [D.sub]
    cases q : m n with
    | none =>
      show 1 ≤ 1 * B
      omega
    | some e =>
      show e.size ≤ 1 * B
      have := h n e q
      omega
  | .c s as => by
    have := sizeL_sub_le m B hB h as
    simp only [D.sub, D.size]
    rw [Nat.add_mul]
    omega
  | .t as => by
    have := sizeL_sub_le m B hB h as
    simp only [D.sub, D.size]
    rw [Nat.add_mul]
    omega
  | .f a b => by
    have := size_sub_le m B hB h a
    have := size_sub_le m B hB h b
    simp only [D.sub, D.size]
    rw [Nat.add_mul, Nat.add_mul, Nat.add_mul]
    omega
theorem sizeL_sub_le (m : Int → Option D) (B : Nat) (hB : 1 ≤ B) (h : ∀ n e, m n = some e → e.size ≤ B) : ∀ as : List D, D.sizeL (D.subL m as) ≤ D.sizeL as * B
  | [] => by simp only [D.subL, D.sizeL]; omega
  | x :: r => by
    have := size_sub_le m B hB h x
    have := sizeL_sub_le m B hB h r
    simp only [D.subL, D.sizeL]
    rw [Nat.add_mul]
    omega
end
mutual
theorem depth_sub_le (m : Int → Option D) (B : Nat) (h : ∀ n e, m n = some e → e.depth ≤ B) : ∀ d : D, (d.sub m).depth ≤ d.depth + B
  | .v n => by
    rw [D.sub]
    cases q : m n with
    | none =>
      show 1 ≤ 1 + B
      omega
    | some e =>
      show e.depth ≤ 1 + B
      have := h n e q
      omega
  | .c s as => by
    have := depthL_sub_le m B h as
    simp only [D.sub, D.depth]
    omega
  | .t as => by
    have := depthL_sub_le m B h as
    simp only [D.sub, D.depth]
    omega
  | .f a b => by
    have := depth_sub_le m B h a
    have := depth_sub_le m B h b
    simp only [D.sub, D.depth]
    omega
theorem depthL_sub_le (m : Int → Option D) (B : Nat) (h : ∀ n e, m n = some e → e.depth ≤ B) : ∀ as : List D, D.depthL (D.subL m as) ≤ D.depthL as + B
  | [] => by simp only [D.subL, D.depthL]; omega
  | x :: r => by
    have := depth_sub_le m B h x
    have := depthL_sub_le m B h r
    simp only [D.subL, D.depthL]
    omega
end
theorem lk_one (n : Int) (e : D) : lk [(n, e)] n = some e := lk_pos rfl
/-- keys in turn: each is found -/
theorem lk_at {c : Int} : ∀ {ms : List (Int × D)} {k i : Nat} {n : Int} {d : D}, (∀ j p, ms[j]? = some p → p.1 = c + ((k + j : Nat) : Int)) → ms[i]? = some (n, d) → lk ms n = some d
  | [], _, _, _, _, _, h => by cases h
  | p :: r, k, 0, n, d, hk, h => by
    cases h
    exact lk_pos rfl
  | p :: r, k, i + 1, n, d, hk, h => by
    have h' : r[i]? = some (n, d) := h
    have e0 := hk 0 p rfl
    have e1 := hk (i + 1) (n, d) h
    have ne : ¬ p.1 = n := by
      have e1' : n = c + ((k + (i + 1) : Nat) : Int) := e1
      omega
    rw [lk_neg ne]
    refine lk_at (c := c) (k := k + 1) (i := i) (fun j p hj => ?_) h'
    have := hk (j + 1) p hj
    rw [this]
    omega
theorem Rp.ref {K : PySem.W.Frag} {H : Hp} {v : V} {d : D} (h : Rp K H v d) : ∃ p, v = .ref p := by
  obtain ⟨p, _, _, e, _⟩ := h.tag
  exact ⟨p, e⟩
/-- a shape is what it is, for == and != -/
theorem Rp.eqd {K : PySem.W.Frag} {H : Hp} {v : V} {d : D} (h : Rp K H v d) (hd : d.depth ≤ 32) : Dp K H v d.py ∧ SeqAt.shaped d.py = true ∧ PyData.eqv d.py d.py = true := by
  refine ⟨h.dp, ?_, py_self d⟩
  have := py_depth d
  unfold SeqAt.shaped
  rw [py_lay d, decide_eq_true (by omega)]
  rfl
/-! ### == of deep data -/
def rEqP (K : PySem.W.Frag) : R2 := fun x y H Q => ∃ d e, Dp K H x d ∧ Dp K H y e ∧ d.canLay0 = true ∧ e.canLay0 = true ∧ d.depth ≤ 200 ∧ Q (.bl (PyData.eqv d e)) H
theorem op_eqP {X : Cx} (hu : X.A.units + 200 < cLine) : OpR X (compareOp .Eq) (rEqP X.K) := by
  intro pins s σ H x y v u Q I rx ry h
  obtain ⟨d, e, hd, he, sd, se, dd, q⟩ := h
  obtain ⟨as, r1⟩ := Dp.reads I d x v hd rx
  obtain ⟨bs, r2⟩ := Dp.reads I e y u he ry
  have room : X.A.units + min d.depth e.depth < cLine := by
    have := Nat.min_le_left d.depth e.depth
    omega
  exact SeqAt.compareEq_reads r1 r2 sd se room ⟨.bl _, H, I, rfl, q⟩
theorem hu200 {A : Around} {k : Nat} (hr : Room k A) : A.units + 200 < cLine := by
  have := hr.un
  omega
theorem exm_mine {K : PySem.W.Frag} {mg : Str → Option Value} {x : Str} {C : Addr} (T : ExcT K mg x C) : PySem.W.exmOne K (.ref C) (.ref C) = some true := by
  have h1 := T.bP
  have h2 := T.iP
  have h3 := T.tP
  have h4 := T.sP
  have h2' : (PySem.W.clsIn K C).isSome = true := h2
  unfold PySem.W.exmOne PySem.W.kitCls
  simp only [h1, h3, h4, h2', beq_self_eq_true, Bool.and_self, if_true]
section
variable {P : Program} {w : World} {K : PySem.W.Frag} {mg : Str → Option Value} {base : Heap}
def spChain (K : PySem.W.Frag) : Sp := fun vs H Q _ => ∃ (x : V) (d : D) (n : Int), vs = [.int n, x] ∧ Rp K H x d ∧ 1 ≤ n ∧ n ≤ 1000 ∧ ∀ H' v', Same H H' → Rp K H' v' (chainD (n - 1).toNat d) → Q v' H'
theorem ok_chain {f : Addr} {fd : FuncData} {k : Nat} (F : Fun K "_law_chain" "_law_chain" sLawChain f fd) (m_range : mg "range" = none) : FnOk P w K mg base CX0 (k + 1) f fd ["level", "end"] (spChain K) := by
  refine F.ok scLawChain (fun vs H Q E h => ?_) (fun cdv A outer s H vs Q E hr h => ?_)
  · obtain ⟨x, d, n, rfl, _⟩ := h
    rfl
  obtain ⟨x, d, n, rfl, R, n1, n2, q⟩ := h
  refine ⟨_, pss_cons (ps_set (i := 2) scLawChain.nd rfl (.inl rfl) (pv 1))
      (pss_cons (ps_for PassesOwn.never rfl (pi_range1 rfl m_range (pa_cons (pe_op op_sub (pv 0) pe_int) pa_nil)) (pg_name (i := 3) scLawChain.nd rfl (.inl rfl)) (pss_one (ps_set (i := 2) scLawChain.nd rfl (.inl rfl) (pe_tup (pa_cons pe_str (pa_cons (pe_tup (pa_cons pe_str (pa_cons pe_int (pa_cons (pe_tup pa_nil) pa_nil)))) (pa_cons (pv 2) pa_nil)))))))
      (pss_one (ps_ret (pv 2)))), ?_⟩
  refine ⟨_, rfl, ?_⟩
  refine ⟨_, rfl, _, _, rfl, rfl, n - 1, rfl, by omega, by omega, ?_⟩
  refine for_range (n := (n - 1).toNat) (fun i σ H' => ∃ v y3, σ = [some (.int n), some x, some v, y3] ∧ Same H H' ∧ Rp K H' v (chainD i d))
    ⟨x, _, rfl, Same.refl _, R⟩ (fun i σ H' hi h => ?_) (fun σ H' h => ?_)
  · obtain ⟨v, y3, rfl, S1, R1⟩ := h
    refine ⟨zz 0, fun p1 h1 => ⟨zz 3, fun p2 h2 => ⟨_, rfl, zz 3, fun p3 h3 => ?_⟩⟩⟩
    have S2 := (same_upd h2 (o := .tup [.str "c", .int 4, .ref p1])).trans (same_upd h3 (o := .tup [.str "f", .ref p2, v]))
    have S3 := (same_upd h1 (o := .tup [])).trans S2
    exact ⟨.ref p3, _, rfl, S1.trans S3, .f (.of upd_same) (.c (.of (same_upd h3 _ _ upd_same)) (.of (S2 _ _ upd_same)) .nil) (R1.same S3)⟩
  · obtain ⟨v, y3, rfl, S1, R1⟩ := h
    exact ⟨_, rfl, q _ _ S1 R1⟩
def spFlat (K : PySem.W.Frag) : Sp := fun vs H Q _ => ∃ (x : V) (d : D) (n : Int), vs = [.int n, x] ∧ Rp K H x d ∧ 0 ≤ n ∧ n ≤ 1000 ∧ ∀ H' v', Same H H' → Rp K H' v' (.t [flatD (.v 1000000) n.toNat, d]) → Q v' H'
theorem ok_flat {f : Addr} {fd : FuncData} {k : Nat} (F : Fun K "_law_flat" "_law_flat" sLawFlat f fd) (m_range : mg "range" = none) : FnOk P w K mg base CX0 (k + 1) f fd ["pieces", "rest"] (spFlat K) := by
  refine F.ok scLawFlat (fun vs H Q E h => ?_) (fun cdv A outer s H vs Q E hr h => ?_)
  · obtain ⟨x, d, n, rfl, _⟩ := h
    rfl
  obtain ⟨x, d, n, rfl, R, n1, n2, q⟩ := h
  refine ⟨_, pss_cons (ps_set (i := 2) scLawFlat.nd rfl (.inl rfl) (pe_tup (pa_cons pe_str (pa_cons pe_int (pa_cons (pe_tup pa_nil) pa_nil)))))
      (pss_cons (ps_for PassesOwn.never rfl (pi_range1 rfl m_range (pa_cons (pv 0) pa_nil)) (pg_name (i := 3) scLawFlat.nd rfl (.inl rfl)) (pss_one (ps_set (i := 2) scLawFlat.nd rfl (.inl rfl) (pe_tup (pa_cons pe_str (pa_cons (pe_tup (pa_cons (pv 2) (pa_cons (pe_tup (pa_cons pe_str (pa_cons pe_int pa_nil))) pa_nil))) pa_nil))))))
      (pss_one (ps_ret (pe_tup (pa_cons pe_str (pa_cons (pe_tup (pa_cons (pv 2) (pa_cons (pv 1) pa_nil))) pa_nil)))))), ?_⟩
  refine ⟨zz 0, fun p1 h1 => ⟨zz 3, fun p2 h2 => ?_⟩⟩
  have S0 := (same_upd h1 (o := .tup [])).trans (same_upd h2 (o := .tup [.str "c", .int 0, .ref p1]))
  refine ⟨_, rfl, n, rfl, by omega, by omega, ?_⟩
  refine for_range (n := n.toNat) (fun i σ H' => ∃ v y3, σ = [some (.int n), some x, some v, y3] ∧ Same H H' ∧ Rp K H' v (flatD (.v 1000000) i))
    ⟨_, _, rfl, S0, .c (.of upd_same) (.of (same_upd h2 _ _ upd_same)) .nil⟩ (fun i σ H' hi h => ?_) (fun σ H' h => ?_)
  · obtain ⟨v, y3, rfl, S1, R1⟩ := h
    refine ⟨_, rfl, zz 2, fun p1 h1 => ⟨zz 2, fun p2 h2 => ⟨zz 2, fun p3 h3 => ?_⟩⟩⟩
    have S2 := (same_upd h2 (o := .tup [v, .ref p1])).trans (same_upd h3 (o := .tup [.str "t", .ref p2]))
    have S3 := (same_upd h1 (o := .tup [.str "v", .int 1000000])).trans S2
    exact ⟨.ref p3, _, rfl, S1.trans S3, .t (.of upd_same) (.of (same_upd h3 _ _ upd_same)) (.cons (R1.same S3) (.cons (.v (.of (S2 _ _ upd_same))) .nil))⟩
  · obtain ⟨v, y3, rfl, S1, R1⟩ := h
    refine ⟨_, rfl, _, rfl, zz 2, fun p1 h1 => ⟨zz 2, fun p2 h2 => ?_⟩⟩
    have S3 := (same_upd h1 (o := .tup [v, x])).trans (same_upd h2 (o := .tup [.str "t", .ref p1]))
    exact q _ _ (S1.trans S3) (.t (.of upd_same) (.of (same_upd h2 _ _ upd_same)) (.cons (R1.same S3) (.cons (R.same (S1.trans S3)) .nil)))
def spAns (K : PySem.W.Frag) : Sp := fun vs H Q _ => ∃ (x : V) (d : D) (m : Addr) (ms : List (Int × D)), vs = [x, .ref m] ∧ Rp K H x d ∧ MpAt K H m ms ∧ d.size ≤ 90000 ∧ (∀ n e, lk ms n = some e → e.size ≤ 90000) ∧
  (big (d.sub (lk ms)) → ∀ H', Same H H' → Q .non H') ∧ (¬ big (d.sub (lk ms)) → ∀ H' v', Same H H' → Rp K H' v' (d.sub (lk ms)) → Q v' H')
theorem ok_ans {f f2 C : Addr} {fd d2 : FuncData} (F : Fun K "_law_answer" "_law_answer" sLawAnswer f fd) (T : ExcT K mg "TooLarge" C) (Os : Own P w K mg base (L2.CX P w) 102 "substitute" f2 d2 ["shape", "mapping"] (spSubst K C)) :
    FnOk P w K mg base CX0 103 f fd ["shape", "mapping"] (spAns K) := by
  refine F.ok scLawAnswer (fun vs H Q E h => ?_) (fun cdv A outer s H vs Q E hr h => ?_)
  · obtain ⟨x, d, m, ms, rfl, _⟩ := h
    rfl
  obtain ⟨x, d, m, ms, rfl, R, M, sz, szm, qE, qQ⟩ := h
  refine ⟨_, pss_one (ps_try_only (tb := fun W => tRet (tCallS (spSubst K C) (WE W) (tCons (tVar 0) (tCons (tVar 1) tNil)))) (ts := fun _ _ _ => tRet (tC .non)) (Wout := fun _ _ _ _ => False) rfl rfl ⟨rfl, by decide, .inl T.gP⟩ takes0 (fun W pn xe tk _ => pss_one (ps_ret (pe_callS Os.ok hr rfl Os.at_ Os.kp Os.bd (fun σ => passAt tk σ) (pa_cons (pv 0) (pa_cons (pv 1) pa_nil))))) (fun a oe cls d pn _ _ => pss_one (ps_ret pe_non))), ?_⟩
  refine ⟨_, rfl, _, rfl, x, d, m, ms, rfl, R, M, sz, szm, fun hb H1 S1 => ?_, fun nb H1 v1 S1 R1 => qQ nb _ _ S1 R1⟩
  exact ⟨true, exm_mine T, fun _ a _ => qE hb _ S1, fun q => Bool.noConfusion q⟩
/-- the law's edge: the answer is True -/
def spEdge (K : PySem.W.Frag) : Sp := fun vs H Q _ => ∃ (T : Addr) (ts : List Int), vs = [.ref T] ∧ SqL K H T (ts.map V.int) ∧ 0 < ts.length ∧ ∀ H', Q (.bl true) H'
theorem ok_edge {f f1 f2 f3 f4 : Addr} {fd d1 d2 d3 d4 : FuncData} (F : Fun K "_law_edge" "_law_edge" sLawEdge f fd) (Op : Own P w K mg base CX0 1 "_law_pick" f1 d1 ["tape", "at", "many"] (spPick K)) (Oc : Own P w K mg base CX0 1 "_law_chain" f2 d2 ["level", "end"] (spChain K))
    (Of : Own P w K mg base CX0 1 "_law_flat" f3 d3 ["pieces", "rest"] (spFlat K)) (Oa : Own P w K mg base CX0 103 "_law_answer" f4 d4 ["shape", "mapping"] (spAns K)) (m_range : mg "range" = none) : FnOk P w K mg base CX0 104 f fd ["tape"] (spEdge K) := by
  refine F.ok scLawEdge (fun vs H Q E h => ?_) (fun cdv A outer s H vs Q E hr h => ?_)
  · obtain ⟨T, ts, rfl, _⟩ := h
    rfl
  obtain ⟨T, ts, rfl, hT, hp, q⟩ := h
  have hr1 : Room 1 (A.deeper (envOfC "_law_edge" (defScope sLawEdge) s.heap.objs.size f cdv)) := hr.mono (by decide)
  refine ⟨_, pss_cons (ps_if (pt_cmpR op_eq (pe_call Op.ok hr1 rfl Op.at_ Op.kp Op.bd .nil pass0 (pa_cons (pv 0) (pa_cons pe_int (pa_cons pe_int pa_nil)))) pe_int (nomark _)) (pss_cons (ps_set (i := 1) scLawEdge.nd rfl (.inl rfl) (pe_op op_add pe_int (pe_call Op.ok hr1 rfl Op.at_ Op.kp Op.bd .nil pass0 (pa_cons (pv 0) (pa_cons pe_int (pa_cons pe_int pa_nil))))))
      (pss_cons (ps_set (i := 2) scLawEdge.nd rfl (.inl rfl) (pe_op op_add pe_int (pe_call Op.ok hr1 rfl Op.at_ Op.kp Op.bd .nil pass0 (pa_cons (pv 0) (pa_cons pe_int (pa_cons pe_int pa_nil))))))
      (pss_cons (ps_set (i := 3) scLawEdge.nd rfl (.inl rfl) (pe_call Oc.ok hr1 rfl Oc.at_ Oc.kp Oc.bd .nil pass0 (pa_cons (pe_op op_sub (pe_op op_add (pv 1) (pv 2)) pe_int) (pa_cons (pe_tup (pa_cons pe_str (pa_cons pe_int (pa_cons (pe_tup pa_nil) pa_nil)))) pa_nil))))
      (pss_cons (ps_set (i := 4) scLawEdge.nd rfl (.inl rfl) (pe_call Oa.ok hr rfl Oa.at_ Oa.kp Oa.bd .nil pass0 (pa_cons (pe_call Oc.ok hr1 rfl Oc.at_ Oc.kp Oc.bd .nil pass0 (pa_cons (pv 1) (pa_cons (pe_tup (pa_cons pe_str (pa_cons pe_int pa_nil))) pa_nil))) (pa_cons (pe_disp (pps_cons pe_int (pe_call Oc.ok hr1 rfl Oc.at_ Oc.kp Oc.bd .nil pass0 (pa_cons (pv 2) (pa_cons (pe_tup (pa_cons pe_str (pa_cons pe_int (pa_cons (pe_tup pa_nil) pa_nil)))) pa_nil))) pps_nil) (by rfl) (by rfl) (fun z => by cases z) (by decide)) pa_nil))))
      (pss_cons (ps_if (pt_cmpR op_gt (pe_op op_sub (pe_op op_add (pv 1) (pv 2)) pe_int) pe_int (nomark _)) (pss_one (ps_ret (pe_cmpR op_isN (pv 4) pe_non (nomark _)))) pss_nil)
      (pss_one (ps_ret (pe_cmpR (op_eqP (hu200 hr)) (pv 4) (pv 3) (nomark _))))))))) pss_nil)
      (pss_cons (ps_set (i := 5) scLawEdge.nd rfl (.inl rfl) (pe_op op_add pe_int (pe_call Op.ok hr1 rfl Op.at_ Op.kp Op.bd .nil pass0 (pa_cons (pv 0) (pa_cons pe_int (pa_cons pe_int pa_nil))))))
      (pss_cons (ps_set (i := 6) scLawEdge.nd rfl (.inl rfl) (pe_tup (pa_cons pe_str (pa_cons pe_int (pa_cons (pe_tup pa_nil) pa_nil)))))
      (pss_cons (ps_for PassesOwn.never rfl (pi_range1 rfl m_range (pa_cons (pe_op op_add pe_int (pe_call Op.ok hr1 rfl Op.at_ Op.kp Op.bd .nil pass0 (pa_cons (pv 0) (pa_cons pe_int (pa_cons pe_int pa_nil))))) pa_nil)) (pg_name (i := 7) scLawEdge.nd rfl (.inl rfl)) (pss_one (ps_set (i := 6) scLawEdge.nd rfl (.inl rfl) (pe_tup (pa_cons pe_str (pa_cons (pe_tup (pa_cons pe_str (pa_cons (pe_tup (pa_cons (pe_tup (pa_cons pe_str (pa_cons pe_int (pa_cons (pe_tup pa_nil) pa_nil)))) (pa_cons (pe_tup (pa_cons pe_str (pa_cons pe_int (pa_cons (pe_tup pa_nil) pa_nil)))) pa_nil))) pa_nil))) (pa_cons (pv 6) pa_nil)))))))
      (pss_cons (ps_set (i := 8) scLawEdge.nd rfl (.inl rfl) (pe_op op_add pe_int (pe_op op_mul pe_int (pe_op op_add pe_int (pe_call Op.ok hr1 rfl Op.at_ Op.kp Op.bd .nil pass0 (pa_cons (pv 0) (pa_cons pe_int (pa_cons pe_int pa_nil))))))))
      (pss_cons (ps_set (i := 9) scLawEdge.nd rfl (.inl rfl) (pe_op op_add (pe_op op_add (pe_op op_add pe_int pe_int) (pv 5)) (pe_op op_mul (pv 5) (pv 8))))
      (pss_cut (ps_if (pt_cmpR op_eq (pe_call Op.ok hr1 rfl Op.at_ Op.kp Op.bd .nil pass0 (pa_cons (pv 0) (pa_cons pe_int (pa_cons pe_int pa_nil)))) pe_int (nomark _)) (pss_cons (ps_set (i := 6) scLawEdge.nd rfl (.inl rfl) (pe_tup (pa_cons pe_str (pa_cons (pe_tup (pa_cons pe_str (pa_cons pe_int (pa_cons (pe_tup pa_nil) pa_nil)))) (pa_cons (pv 6) pa_nil)))))
      (pss_one (ps_set (i := 9) scLawEdge.nd rfl (.inl rfl) (pe_op op_add (pv 9) (pe_op op_mul pe_int (pv 5)))))) pss_nil)
      (pss_cons (ps_set (i := 4) scLawEdge.nd rfl (.inl rfl) (pe_call Oa.ok hr rfl Oa.at_ Oa.kp Oa.bd .nil pass0 (pa_cons (pe_call Of.ok hr1 rfl Of.at_ Of.kp Of.bd .nil pass0 (pa_cons (pv 5) (pa_cons (pe_tup (pa_cons pe_str (pa_cons pe_int (pa_cons (pe_tup pa_nil) pa_nil)))) pa_nil))) (pa_cons (pe_disp (pps_cons pe_int (pv 6) pps_nil) (by rfl) (by rfl) (fun z => by cases z) (by decide)) pa_nil))))
      (pss_cons (ps_if (pt_cmpR op_gt (pv 9) pe_int (nomark _)) (pss_one (ps_ret (pe_cmpR op_isN (pv 4) pe_non (nomark _)))) pss_nil)
      (pss_one (ps_ret (pe_cmpR op_notN (pv 4) pe_non (nomark _)))))))))))), ?_⟩
  refine ⟨_, rfl, T, ts, _, _, rfl, hT, hp, by decide, rfl, _, rfl, ite2 (fun c1 => ?_) (fun c1 => ?_)⟩
  · -- chains
    refine ⟨_, rfl, T, ts, _, _, rfl, hT, hp, by decide, _, _, rfl, rfl, ?_⟩
    have a0 := pk_lo (ts := ts) (a := 1) (show (0 : Int) < 21 by decide)
    have a1 := pk_hi (ts := ts) (a := 1) (show (0 : Int) < 21 by decide)
    generalize pk ts 1 21 = ra at a0 a1
    refine ⟨_, rfl, T, ts, _, _, rfl, hT, hp, by decide, _, _, rfl, rfl, ?_⟩
    have b0 := pk_lo (ts := ts) (a := 2) (show (0 : Int) < 21 by decide)
    have b1 := pk_hi (ts := ts) (a := 2) (show (0 : Int) < 21 by decide)
    generalize pk ts 2 21 = rb at b0 b1
    refine ⟨_, rfl, _, rfl, _, _, rfl, rfl, _, _, rfl, rfl, zz 0, fun p1 h1 => ⟨zz 3, fun p2 h2 => ?_⟩⟩
    have S12 := (same_upd h1 (o := .tup [])).trans (same_upd h2 (o := .tup [.str "c", .int 1, .ref p1]))
    refine ⟨_, .c 1 [], _, rfl, .c (.of upd_same) (.of (same_upd h2 _ _ upd_same)) .nil, by omega, by omega, fun H1 v1 S1 R1 => ?_⟩
    -- actual
    refine ⟨_, rfl, zz 2, fun p3 h3 => ?_⟩
    have S3 := same_upd h3 (o := .tup [.str "v", .int 1000000])
    refine ⟨_, .v 1000000, _, rfl, .v (.of upd_same), by omega, by omega, fun H2 v2 S2 R2 => ?_⟩
    refine fun m hm => ?_
    have Sm := same_upd hm (o := .dK [])
    refine ⟨_, rfl, zz 0, fun p4 h4 => ⟨zz 3, fun p5 h5 => ?_⟩⟩
    have S45 := (same_upd h4 (o := .tup [])).trans (same_upd h5 (o := .tup [.str "c", .int 1, .ref p4]))
    refine ⟨_, .c 1 [], _, rfl, .c (.of upd_same) (.of (same_upd h5 _ _ upd_same)) .nil, by omega, by omega, fun H3 v3 S6 R3 => ?_⟩
    have hm3 := S6 _ _ (S45 _ _ (upd_same (H := H2) (a := m) (o := .dK [])))
    refine ⟨hm3, [(.inl 1000000, v3)], rfl, (by show 1 ≤ 15; decide), ?_⟩
    have X7 : ST H3 (upd H3 m (.dK (mergeK [] [(.inl 1000000, v3)]))) := ST.dct hm3 _
    have XX := (ST.same (Sm.trans (S45.trans S6))).trans X7
    have sa : (chainD (40 + ra - 1).toNat (.v 1000000)).sub (lk [(1000000, chainD (40 + rb - 1).toNat (.c 1 []))]) = chainD ((40 + ra) + (40 + rb) - 1 - 1).toNat (.c 1 []) := by
      rw [chain_sub, sub_size_v (lk_one _ _), chain_add]
      exact congrArg (fun z => chainD z (.c 1 [])) (by omega)
    have dep := chain_depth ((40 + ra) + (40 + rb) - 1 - 1).toNat (.c 1 [])
    have siz := chain_size ((40 + ra) + (40 + rb) - 1 - 1).toNat (.c 1 [])
    have dc : (D.c 1 []).depth = 1 := by simp only [D.depth, D.depthL]
    have sc : (D.c 1 []).size = 1 := by simp only [D.size, D.sizeL]
    rw [dc] at dep
    rw [sc] at siz
    refine ⟨v2, _, m, [(1000000, chainD (40 + rb - 1).toNat (.c 1 []))], rfl, R2.mono XX, ⟨_, upd_same, .cons (R3.mono X7) .nil⟩, ?_, fun n e hn => ?_, fun hb H4 S7 => ?_, fun nb H4 v4 S7 R4 => ?_⟩
    · rw [chain_size]
      show 2 * _ + 1 ≤ _
      omega
    · have hmem := lk_mem hn
      rw [List.mem_singleton] at hmem
      cases hmem
      rw [chain_size, sc]
      omega
    · rw [sa] at hb
      have hb' : ((40 + ra) + (40 + rb) - 1 - 1).toNat + 1 > 100 := by
        rcases hb with h | h <;> omega
      refine ⟨_, rfl, _, rfl, _, _, rfl, rfl, _, _, rfl, rfl, _, _, rfl, rfl, _, rfl, ite2 (fun c2 => ?_) (fun c2 => ?_)⟩
      · exact ⟨_, rfl, rfl, q _⟩
      · exact absurd (decide_eq_true (by omega)) c2
    · rw [sa] at nb R4
      have nb' : ¬ ((40 + ra) + (40 + rb) - 1 - 1).toNat + 1 > 100 := fun z => nb (.inr (by omega))
      refine ⟨_, rfl, _, rfl, _, _, rfl, rfl, _, _, rfl, rfl, _, _, rfl, rfl, _, rfl, ite2 (fun c2 => ?_) (fun c2 => ?_)⟩
      · have c2' : (100 : Int) < 40 + ra + (40 + rb) - 1 := of_decide_eq_true c2
        exact absurd c2' (by omega)
      · have R1' := R1.mono ((ST.same S3).trans ((ST.same S2).trans (XX.trans (ST.same S7))))
        have dpy := py_depth (chainD ((40 + ra) + (40 + rb) - 1 - 1).toNat (.c 1 []))
        refine ⟨_, rfl, _, rfl, _, _, R4.dp, R1'.dp, py_lay _, py_lay _, by omega, ?_⟩
        rw [py_self]
        exact q _
  · -- flat tuples
    refine ⟨_, rfl, T, ts, _, _, rfl, hT, hp, by decide, _, _, rfl, rfl, ?_⟩
    have a0 := pk_lo (ts := ts) (a := 3) (show (0 : Int) < 3 by decide)
    have a1 := pk_hi (ts := ts) (a := 3) (show (0 : Int) < 3 by decide)
    generalize pk ts 3 3 = rp at a0 a1
    obtain ⟨pn, hpn⟩ : ∃ pn : Nat, 19 + rp = (pn : Int) := ⟨(19 + rp).toNat, by omega⟩
    have pb : 19 ≤ pn ∧ pn ≤ 21 := by omega
    refine ⟨zz 0, fun p1 h1 => ⟨zz 3, fun p2 h2 => ?_⟩⟩
    have S0 := (same_upd h1 (o := .tup [])).trans (same_upd h2 (o := .tup [.str "c", .int 0, .ref p1]))
    have b0 := pk_lo (ts := ts) (a := 4) (show (0 : Int) < 4 by decide)
    have b1 := pk_hi (ts := ts) (a := 4) (show (0 : Int) < 4 by decide)
    refine ⟨_, rfl, T, ts, _, _, rfl, S0.seq hT, hp, by decide, _, _, rfl, rfl, 23 + pk ts 4 4, rfl, by omega, by omega, ?_⟩
    refine for_range (n := (23 + pk ts 4 4).toNat) (fun i σ H' => ∃ v y1 y2 y3 y4 y7 y8 y9, σ = [some (.ref T), y1, y2, y3, y4, some (.int (19 + rp)), some v, y7, y8, y9] ∧ Same H H' ∧ Rp K H' v (innerD i))
      ⟨_, _, _, _, _, _, _, _, rfl, S0, .c (.of upd_same) (.of (same_upd h2 _ _ upd_same)) .nil⟩ (fun i σ H' hi h => ?_) (fun σ H' h => ?_)
    · obtain ⟨v, y1, y2, y3, y4, y7, y8, y9, rfl, S1, R1⟩ := h
      refine ⟨zz 0, fun q1 g1 => ⟨zz 3, fun q2 g2 => ⟨zz 0, fun q3 g3 => ⟨zz 3, fun q4 g4 => ⟨zz 2, fun q5 g5 => ⟨zz 2, fun q6 g6 => ⟨_, rfl, zz 3, fun q7 g7 => ?_⟩⟩⟩⟩⟩⟩⟩
      have T7 := same_upd g7 (o := .tup [.str "f", .ref q6, v])
      have T6 := (same_upd g6 (o := .tup [.str "t", .ref q5])).trans T7
      have T5 := (same_upd g5 (o := .tup [.ref q2, .ref q4])).trans T6
      have T4 := (same_upd g4 (o := .tup [.str "c", .int 1, .ref q3])).trans T5
      have T3 := (same_upd g3 (o := .tup [])).trans T4
      have T2 := (same_upd g2 (o := .tup [.str "c", .int 0, .ref q1])).trans T3
      have T1 := (same_upd g1 (o := .tup [])).trans T2
      exact ⟨.ref q7, _, _, _, _, _, _, _, rfl, S1.trans T1, .f (.of upd_same) (.t (.of (T7 _ _ upd_same)) (.of (T6 _ _ upd_same)) (.cons (.c (.of (T3 _ _ upd_same)) (.of (T2 _ _ upd_same)) .nil) (.cons (.c (.of (T5 _ _ upd_same)) (.of (T4 _ _ upd_same)) .nil) .nil))) (R1.same T1)⟩
    · obtain ⟨v, y1, y2, y3, y4, y7, y8, y9, rfl, S1, R1⟩ := h
      have is := inner_size (23 + pk ts 4 4).toNat
      have id := inner_depth (23 + pk ts 4 4).toNat
      generalize innerD (23 + pk ts 4 4).toNat = e at R1 is id
      have me : 1 + 4 * (23 + pk ts 4 4) = (e.size : Int) := by omega
      refine ⟨_, rfl, T, ts, _, _, rfl, S1.seq hT, hp, by decide, _, _, rfl, rfl, _, _, rfl, rfl, .inl ⟨by decide, by decide⟩, _, _, rfl, rfl, ?_⟩
      refine ⟨_, _, rfl, rfl, _, rfl, _, _, rfl, rfl, _, rfl, _, rfl, _, _, rfl, rfl, (.inl ⟨(by show -(2 ^ 64 : Int) < 19 + rp; omega), (by show 19 + rp < (2 ^ 64 : Int); omega)⟩), _, _, rfl, rfl, ?_⟩
      refine ⟨fun σ' H2 => ∃ (v2 : V) (e2 : D) (tot : Int) (y1 y2 y3 y4 y7 y8 : Option V), σ' = [some (.ref T), y1, y2, y3, y4, some (.int (19 + rp)), some v2, y7, y8, some (.int tot)] ∧ Same H H2 ∧ Rp K H2 v2 e2 ∧ tot = 3 + (pn : Int) + (pn : Int) * (e2.size : Int) ∧ e2.size ≤ 120 ∧ e2.depth ≤ 31, ?_, ?_⟩
      · refine ⟨_, rfl, T, ts, _, _, rfl, S1.seq hT, hp, by decide, rfl, _, rfl, ite2 (fun c2 => ?_) (fun c2 => ?_)⟩
        · refine ⟨zz 0, fun q1 g1 => ⟨zz 3, fun q2 g2 => ⟨_, rfl, zz 3, fun q3 g3 => ?_⟩⟩⟩
          have T3 := same_upd g3 (o := .tup [.str "f", .ref q2, v])
          have T2 := (same_upd g2 (o := .tup [.str "c", .int 0, .ref q1])).trans T3
          have T1 := (same_upd g1 (o := .tup [])).trans T2
          refine ⟨_, rfl, _, rfl, _, _, rfl, rfl, .inl ⟨by decide, by decide⟩, _, _, rfl, rfl, ?_⟩
          refine ⟨.ref q3, .f (.c 0 []) e, _, _, _, _, _, _, _, rfl, S1.trans T1, .f (.of upd_same) (.c (.of (T3 _ _ upd_same)) (.of (T2 _ _ upd_same)) .nil) (R1.same T1), ?_, ?_, ?_⟩
          · have e3 : (((D.c 0 []).f e).size : Int) = (e.size : Int) + 2 := by
              simp only [D.size, D.sizeL]
              omega
            show 2 + 1 + (19 + rp) + (19 + rp) * (1 + 4 * (23 + pk ts 4 4)) + 2 * (19 + rp) = _
            rw [hpn, me, e3, Int.mul_add]
            omega
          · simp only [D.size, D.sizeL]
            omega
          · simp only [D.depth, D.depthL]
            omega
        · refine ⟨v, e, _, _, _, _, _, _, _, rfl, S1, R1, ?_, by omega, by omega⟩
          show 2 + 1 + (19 + rp) + (19 + rp) * (1 + 4 * (23 + pk ts 4 4)) = _
          rw [hpn, me]
          omega
      · rintro σ' H2 ⟨v2, e2, tot, y1, y2, y3, y4, y7, y8, rfl, S2, R2, ht, z1, z2⟩
        refine ⟨_, rfl, zz 0, fun q1 g1 => ⟨zz 3, fun q2 g2 => ?_⟩⟩
        have T2 := same_upd g2 (o := .tup [.str "c", .int 4, .ref q1])
        have T1 := (same_upd g1 (o := .tup [])).trans T2
        refine ⟨_, .c 4 [], _, rfl, .c (.of upd_same) (.of (T2 _ _ upd_same)) .nil, by omega, by omega, fun H3 v3 S3 R3 => ?_⟩
        rw [show (19 + rp).toNat = pn by omega] at R3
        refine fun m hm => ?_
        have Sm := same_upd hm (o := .dK [])
        refine ⟨_, rfl, upd_same, [(.inl 1000000, v2)], rfl, (by show 1 ≤ 15; decide), ?_⟩
        have X7 : ST (upd H3 m (.dK [])) (upd (upd H3 m (.dK [])) m (.dK (mergeK [] [(.inl 1000000, v2)]))) := ST.dct upd_same _
        have XX := (ST.same Sm).trans X7
        have sb : (D.t [flatD (.v 1000000) pn, .c 4 []]).sub (lk [(1000000, e2)]) = .t [flatD e2 pn, .c 4 []] := by
          simp only [D.sub, D.subL]
          rw [flat_sub, sub_size_v (lk_one _ _)]
        have fs := flat_size e2 pn
        have fd := flat_depth e2 pn
        have f0 := flat_size (.v 1000000) pn
        have v1 : (D.v 1000000).size = 1 := by simp only [D.size]
        rw [v1] at f0
        have bs : (D.t [flatD e2 pn, .c 4 []]).size = 3 + pn + pn * e2.size := by
          simp only [D.size, D.sizeL]
          rw [fs, Nat.mul_add]
          omega
        have bd : (D.t [flatD e2 pn, .c 4 []]).depth ≤ 100 := by
          simp only [D.depth, D.depthL]
          omega
        have tn : tot = ((3 + pn + pn * e2.size : Nat) : Int) := by
          rw [ht, Int.natCast_add, Int.natCast_add, Int.natCast_mul]
          rfl
        refine ⟨v3, _, m, [(1000000, e2)], rfl, R3.mono XX, ⟨_, upd_same, .cons (R2.mono ((ST.same T1).trans ((ST.same S3).trans XX))) .nil⟩, ?_, fun n e' hn => ?_, fun hb H4 S7 => ?_, fun nb H4 v4 S7 R4 => ?_⟩
        · simp only [D.size, D.sizeL]
          omega
        · have hmem := lk_mem hn
          rw [List.mem_singleton] at hmem
          cases hmem
          omega
        · rw [sb] at hb
          have hb' : (D.t [flatD e2 pn, .c 4 []]).size > 2000 := by
            rcases hb with h | h
            · exact h
            · omega
          refine ⟨_, rfl, _, _, rfl, rfl, _, rfl, ite2 (fun c2 => ?_) (fun c2 => ?_)⟩
          · exact ⟨_, rfl, rfl, q _⟩
          · exact absurd (decide_eq_true (by omega)) c2
        · rw [sb] at nb
          have nb' : ¬ (D.t [flatD e2 pn, .c 4 []]).size > 2000 := fun z => nb (.inl z)
          refine ⟨_, rfl, _, _, rfl, rfl, _, rfl, ite2 (fun c2 => ?_) (fun c2 => ?_)⟩
          · have c2' : (2000 : Int) < tot := of_decide_eq_true c2
            exact absurd c2' (by omega)
          · obtain ⟨p4, rfl⟩ := R4.ref
            exact ⟨_, rfl, rfl, q _⟩
def spLaw (K : PySem.W.Frag) : Sp := fun vs H Q _ => ∃ (a : Addr) (ns : List Int), vs = [.ref a] ∧ SqL K H a (ns.map V.int) ∧ ns.length ≤ 63 ∧ ∀ H', Q (.bl true) H'
theorem putK_last {kvs : List (Key × V)} {ms : List (Int × D)} {K : PySem.W.Frag} {H : Hp} (h : MpL K H kvs ms) {n : Int} (hn : ∀ p ∈ ms, p.1 < n) (v : V) : putK kvs (.inl n) v = kvs ++ [(.inl n, v)] := by
  refine putK_new v ?_
  rcases h.get n with ⟨g, _⟩ | ⟨v', e, _, g, _⟩
  · exact g
  · have := hn _ (lk_mem g)
    exact absurd this (Int.lt_irrefl n)
theorem ok_law {f f1 f2 f3 f4 f5 f6 C : Addr} {fd d1 d2 d3 d4 d5 d6 : FuncData} (F : Fun K "law" "law" sLaw f fd) (Ot : Own P w K mg base CX0 1 "_law_tape" f1 d1 ["script", "many"] (spTape K)) (Op : Own P w K mg base CX0 1 "_law_pick" f2 d2 ["tape", "at", "many"] (spPick K))
    (Oe : Own P w K mg base CX0 104 "_law_edge" f3 d3 ["tape"] (spEdge K)) (Os : Own P w K mg base CX0 6 "_law_shape" f4 d4 ["tape", "at", "level", "free"] (spShape K 4)) (Ou : Own P w K mg base (L2.CX P w) 102 "substitute" f5 d5 ["shape", "mapping"] (spSubst K C))
    (Oa : Own P w K mg base CX0 11 "_law_apply" f6 d6 ["shape", "pairs"] (spApply K 10)) (m_range : mg "range" = none) (m_len : mg "len" = none) : FnOk P w K mg base CX0 105 f fd ["script"] (spLaw K) := by
  refine F.ok scLaw (fun vs H Q E h => ?_) (fun cdv A outer s H vs Q E hr h => ?_)
  · obtain ⟨a, ns, rfl, _⟩ := h
    rfl
  obtain ⟨a, ns, rfl, hS, hlen, q⟩ := h
  have hr1 : Room 1 (A.deeper (envOfC "law" (defScope sLaw) s.heap.objs.size f cdv)) := hr.mono (by decide)
  have hr6 : Room 6 (A.deeper (envOfC "law" (defScope sLaw) s.heap.objs.size f cdv)) := hr.mono (by decide)
  have hr11 : Room 11 (A.deeper (envOfC "law" (defScope sLaw) s.heap.objs.size f cdv)) := hr.mono (by decide)
  have hr102 : Room 102 (A.deeper (envOfC "law" (defScope sLaw) s.heap.objs.size f cdv)) := hr.mono (by decide)
  refine ⟨_, pss_cons (ps_set (i := 1) scLaw.nd rfl (.inl rfl) (pe_call Ot.ok hr1 rfl Ot.at_ Ot.kp Ot.bd .nil pass0 (pa_cons (pv 0) (pa_cons pe_int pa_nil))))
      (pss_cons (ps_if (pt_cmpR op_lt (pe_call Op.ok hr1 rfl Op.at_ Op.kp Op.bd .nil pass0 (pa_cons (pv 1) (pa_cons pe_int (pa_cons pe_int pa_nil)))) pe_int (nomark _)) (pss_one (ps_ret (pe_call Oe.ok hr rfl Oe.at_ Oe.kp Oe.bd .nil pass0 (pa_cons (pv 1) pa_nil)))) pss_nil)
      (pss_cons (ps_asg (pe_call Os.ok hr6 rfl Os.at_ Os.kp Os.bd .nil pass0 (pa_cons (pv 1) (pa_cons pe_int (pa_cons pe_int (pa_cons (pe_lst (pa_cons pe_int (pa_cons pe_int (pa_cons pe_int (pa_cons pe_int pa_nil))))) pa_nil))))) (pg_tup rfl (pgs_cons (pg_name (i := 2) scLaw.nd rfl (.inl rfl)) (pgs_cons (pg_name (i := 3) scLaw.nd rfl (.inl rfl)) pgs_nil))))
      (pss_cons (ps_set (i := 4) scLaw.nd rfl (.inl rfl) (pe_lst pa_nil))
      (pss_cons (ps_set (i := 5) scLaw.nd rfl (.inl rfl) pe_dnewK)
      (pss_cons (ps_for PassesOwn.never rfl (pi_range1 rfl m_range (pa_cons (pe_op op_add pe_int (pe_call Op.ok hr1 rfl Op.at_ Op.kp Op.bd .nil pass0 (pa_cons (pv 1) (pa_cons pe_int (pa_cons pe_int pa_nil))))) pa_nil)) (pg_name (i := 6) scLaw.nd rfl (.inl rfl)) (pss_cons (ps_asg (pe_call Os.ok hr6 rfl Os.at_ Os.kp Os.bd .nil pass0 (pa_cons (pv 1) (pa_cons (pv 3) (pa_cons pe_int (pa_cons (pe_lst (pa_cons pe_int (pa_cons pe_int (pa_cons pe_int pa_nil)))) pa_nil))))) (pg_tup rfl (pgs_cons (pg_name (i := 7) scLaw.nd rfl (.inl rfl)) (pgs_cons (pg_name (i := 3) scLaw.nd rfl (.inl rfl)) pgs_nil))))
      (pss_cons (ps_expr (pe_bm PySem.F.plainAttrs_list PySem.F.slot_list_append PySem.F.type_list_append mt_append (pv 4) (pa_cons (pe_tup (pa_cons (pe_op op_add pe_int (pv 6)) (pa_cons (pv 7) pa_nil))) pa_nil)))
      (pss_one (ps_dput (hu_of hr) (pv 5) (pe_op op_add pe_int (pv 6)) (pv 7) rfl)))))
      (pss_cons (ps_set (i := 8) scLaw.nd rfl (.inl rfl) (pe_call Ou.ok hr102 rfl Ou.at_ Ou.kp Ou.bd .nil passL (pa_cons (pv 2) (pa_cons (pv 5) pa_nil))))
      (pss_cons (ps_if (pt_cmpR (op_neD hr.units) (pe_call Ou.ok hr102 rfl Ou.at_ Ou.kp Ou.bd .nil passL (pa_cons (pv 2) (pa_cons pe_dnewK pa_nil))) (pv 2) (nomark _)) (pss_one (ps_ret pe_bl)) pss_nil)
      (pss_cons (ps_if (PW.pt (pw_or (pt_cmpR (op_neD hr.units) (pv 8) (pe_call Oa.ok hr11 rfl Oa.at_ Oa.kp Oa.bd .nil pass0 (pa_cons (pv 2) (pa_cons (pv 4) pa_nil))) (nomark _)) (pw_or1 (pt_cmpR op_ne (pe_callB call_lenD (by rfl) m_len PySem.boot_len (pa_cons (pv 5) pa_nil)) (pe_callB call_len_seq (by rfl) m_len PySem.boot_len (pa_cons (pv 4) pa_nil)) (nomark _))))) (pss_one (ps_ret pe_bl)) pss_nil)
      (pss_cons (ps_for PassesOwn.never rfl (pi_list (pv 4)) (pg_tup rfl (pgs_cons (pg_name (i := 9) scLaw.nd rfl (.inl rfl)) (pgs_cons (pg_name (i := 7) scLaw.nd rfl (.inl rfl)) pgs_nil))) (pss_one (ps_if (pt_cmpR (op_neD hr.units) (pe_dget (hu_of hr) (pv 5) (pv 9) (fun _ _ => rfl)) (pv 7) (nomark _)) (pss_one (ps_ret pe_bl)) pss_nil)))
      (pss_one (ps_ret pe_bl))))))))))), ?_⟩
  refine ⟨_, rfl, a, ns, 160, rfl, hS, by decide, by decide, fun H1 tp ts S1 htp lts _ => ?_⟩
  have tpos : 0 < ts.length := by
    rw [lts]
    decide
  refine ⟨_, rfl, tp, ts, _, _, rfl, SqL.of htp, tpos, by decide, _, _, rfl, rfl, _, rfl, ite2 (fun c1 => ?_) (fun c1 => ?_)⟩
  · exact ⟨_, rfl, tp, ts, rfl, SqL.of htp, tpos, fun H' => q H'⟩
  -- the shape
  refine ⟨_, rfl, zz 4, fun fr hfr => ?_⟩
  have Sf := same_upd hfr (o := .lst [.int 1000000, .int 1000001, .int 1000002, .int 1000009])
  refine ⟨tp, fr, ts, [1000000, 1000001, 1000002, 1000009], 7, 3, rfl, by decide, SqL.of (Sf _ _ htp), tpos, SqL.of upd_same, fun H2 r x d at1 S2 e1 R1 g1 => ?_⟩
  refine ⟨r, _, rfl, SqT.of e1, rfl, _, _, rfl, _, _, rfl, rfl, ?_⟩
  have htp2 := S2 _ _ (Sf _ _ htp)
  have dsz := g1.size
  have ddp := g1.depth
  have e85 : sizeOf' 3 = 85 := rfl
  have e21 : sizeOf' 2 = 21 := rfl
  refine ⟨Nat.zero_le _, fun L hL => fun M hM => ?_⟩
  have SL := same_upd hL (o := .lst [])
  have SM := same_upd hM (o := .dK [])
  have nLM : L ≠ M := ne_of_none upd_same hM
  refine ⟨_, rfl, tp, ts, _, _, rfl, SqL.of (SM _ _ (SL _ _ htp2)), tpos, by decide, _, _, rfl, rfl, ?_⟩
  have b0 := pk_lo (ts := ts) (a := 6) (show (0 : Int) < 3 by decide)
  have b1 := pk_hi (ts := ts) (a := 6) (show (0 : Int) < 3 by decide)
  refine ⟨1 + pk ts 6 3, rfl, by omega, by omega, ?_⟩
  refine for_range (n := (1 + pk ts 6 3).toNat) (fun i σ H' => ∃ at' y6 y7 y8 y9 ws kvs ms, σ = [some (.ref a), some (.ref tp), some x, some (.int at'), some (.ref L), some (.ref M), y6, y7, y8, y9] ∧ Same H2 H' ∧ H' L = some (.lst ws) ∧ H' M = some (.dK kvs) ∧ PrL K H' ws ms ∧ MpL K H' kvs ms ∧ ms.length = i ∧
      (∀ j p, ms[j]? = some p → p.1 = 1000000 + ((0 + j : Nat) : Int)) ∧ ∀ p ∈ ms, p.2.size ≤ 21 ∧ p.2.depth ≤ 3)
    ⟨_, _, _, _, _, [], [], [], rfl, SL.trans SM, SM _ _ upd_same, upd_same, .nil, .nil, rfl, fun j p h => (by cases h), fun p h => (by cases h)⟩ (fun i σ H' hi h => ?_) (fun σ H' h => ?_)
  · obtain ⟨at', y6, y7, y8, y9, ws, kvs, ms, rfl, S3, hL3, hM3, PL, ML, lms, keys, small⟩ := h
    have htp3 := S3 _ _ htp2
    refine ⟨_, rfl, _, rfl, zz 3, fun f2 hf2 => ?_⟩
    have Sf2 := same_upd hf2 (o := .lst [.int 1000000, .int 1000001, .int 1000002])
    refine ⟨tp, f2, ts, [1000000, 1000001, 1000002], at', 2, rfl, by decide, SqL.of (Sf2 _ _ htp3), tpos, SqL.of upd_same, fun H4 r4 x4 d4 at4 S4 e4 R4 g4 => ?_⟩
    refine ⟨r4, _, rfl, SqT.of e4, rfl, _, _, rfl, _, _, rfl, rfl, ?_⟩
    have T4 := Sf2.trans S4
    have hL4 := T4 _ _ hL3
    have hM4 := T4 _ _ hM3
    have lw := PL.len
    have lk' := ML.len
    refine ⟨_, rfl, .inl ⟨rfl, _, SqL.of hL4⟩, _, rfl, _, _, rfl, rfl, _, rfl, zz 2, fun p hp1 => ?_⟩
    have Sp := same_upd hp1 (o := .tup [.int (1000000 + (0 + (i : Int))), x4])
    have hL5 := Sp _ _ hL4
    refine ⟨L, _, _, rfl, rfl, hL5, small1000 (by omega), ?_⟩
    have X6 := ST.lst hL5 (.lst (ws ++ [.ref p]))
    have hM6 : upd (upd H4 p (.tup [.int (1000000 + (0 + (i : Int))), x4])) L (.lst (ws ++ [.ref p])) M = some (.dK kvs) := by
      rw [upd_ne nLM.symm]
      exact Sp _ _ hM4
    refine ⟨_, rfl, _, rfl, _, rfl, _, _, rfl, rfl, M, _, rfl, DPut.k (k := Sum.inl (1000000 + (0 + (i : Int)))) hM6 (zbig (n := kvs.length) (by omega)), ?_⟩
    have X7 := ST.dct hM6 (.dK (putK kvs (Sum.inl (1000000 + (0 + (i : Int)))) x4))
    have XX := (ST.same T4).trans ((ST.same Sp).trans (X6.trans X7))
    have X47 := (ST.same Sp).trans (X6.trans X7)
    have nL2 : H2 L = none := hL
    have nM2 : H2 M = none := SL.free hM
    have fresh : ∀ p ∈ ms, p.1 < 1000000 + (0 + (i : Int)) := by
      intro p hp2
      obtain ⟨j, hj⟩ := List.getElem?_of_mem hp2
      have := keys j p hj
      have lj := (List.getElem?_eq_some_iff.mp hj).1
      omega
    refine ⟨at4, _, _, _, _, ws ++ [.ref p], kvs ++ [(Sum.inl (1000000 + (0 + (i : Int))), x4)], ms ++ [(1000000 + (0 + (i : Int)), d4)], rfl, same_skip (same_skip (S3.trans (T4.trans Sp)) nL2) nM2, ?_, ?_, ?_, ?_, ?_, ?_, ?_⟩
    · rw [upd_ne nLM, upd_same]
    · rw [upd_same, putK_last ML fresh]
    · exact (PL.mono XX).app (.cons ((X6.trans X7) _ _ upd_same) (R4.mono X47) .nil)
    · exact (ML.mono XX).app (.cons (R4.mono X47) .nil)
    · rw [List.length_append, lms]
      rfl
    · intro j p hj
      by_cases hji : j < ms.length
      · rw [List.getElem?_append_left hji] at hj
        exact keys j p hj
      · rw [List.getElem?_append_right (by omega)] at hj
        have hz : j - ms.length = 0 := by
          have := (List.getElem?_eq_some_iff.mp hj).1
          rw [List.length_singleton] at this
          omega
        rw [hz] at hj
        cases hj
        show 1000000 + (0 + (i : Int)) = _
        omega
    · intro p hp2
      rcases List.mem_append.mp hp2 with h | h
      · exact small p h
      · rw [List.mem_singleton.mp h]
        have s1 := g4.size
        have s2 := g4.depth
        exact ⟨by show d4.size ≤ 21; omega, by show d4.depth ≤ 3; omega⟩
  · obtain ⟨at', y6, y7, y8, y9, ws, kvs, ms, rfl, S3, hL3, hM3, PL, ML, lms, keys, small⟩ := h
    have Rx := R1.same S3
    have mb : ∀ n e, lk ms n = some e → e.size ≤ 21 := fun n e h => (small _ (lk_mem h)).1
    have md : ∀ n e, lk ms n = some e → e.depth ≤ 3 := fun n e h => (small _ (lk_mem h)).2
    have sz := size_sub_le (lk ms) 21 (by decide) mb d
    have dz := depth_sub_le (lk ms) 3 md d
    have nb : ¬ big (d.sub (lk ms)) := by
      intro hb
      rcases hb with h | h
      · have : d.size * 21 ≤ 85 * 21 := Nat.mul_le_mul_right _ (by omega)
        omega
      · omega
    refine ⟨_, rfl, _, rfl, x, d, M, ms, rfl, Rx, ⟨kvs, hM3, ML⟩, by omega, fun n e h => by have := mb n e h; omega, fun hb => absurd hb nb, fun _ H4 v4 S4 R4 => ?_⟩
    -- the empty substitution
    refine ⟨_, rfl, fun m0 hm0 => ?_⟩
    have Sm := same_upd hm0 (o := .dK [])
    have nb0 : ¬ big (d.sub (lk [])) := by
      rw [sub_none (lk []) (fun n => rfl)]
      intro hb
      rcases hb with h | h <;> omega
    refine ⟨x, d, m0, [], rfl, (Rx.same S4).same Sm, ⟨[], upd_same, .nil⟩, by omega, fun n e h => (by cases h), fun hb => absurd hb nb0, fun _ H5 v5 S5 R5 => ?_⟩
    rw [sub_none (lk []) (fun n => rfl)] at R5
    have S45 := S4.trans (Sm.trans S5)
    obtain ⟨q1, q2, q3⟩ := R5.eqd (by omega)
    obtain ⟨w1, w2, w3⟩ := (Rx.same S45).eqd (by omega)
    refine ⟨_, rfl, _, _, q1, w1, q2, w2, _, rfl, ?_⟩
    rw [q3]
    refine iteF ?_
    -- against the law's own
    have R4' := R4.same (Sm.trans S5)
    refine ⟨_, rfl, _, rfl, _, rfl, x, d, L, ws, ms, rfl, Rx.same S45, SqL.of (S45 _ _ hL3), PL.mono (ST.same S45), by omega, by omega, fun H6 v6 S6 R6 => ?_⟩
    obtain ⟨r1, r2, r3⟩ := (R4'.same S6).eqd (by omega)
    obtain ⟨t1, t2, t3⟩ := R6.eqd (by omega)
    refine ⟨_, _, r1, t1, r2, t2, _, rfl, ?_⟩
    rw [r3]
    refine iteF ?_
    have S46 := S45.trans S6
    have hM6 := S46 _ _ hM3
    have hL6 := S46 _ _ hL3
    refine ⟨_, rfl, M, kvs, rfl, hM6, _, rfl, L, ws, rfl, .inl (SqL.of hL6), rfl, _, rfl, ?_⟩
    have le : kvs.length = ws.length := by rw [ML.len, PL.len]
    rw [le]
    refine ite2 (fun z => ?_) (fun _ => ?_)
    · rw [decide_eq_true rfl] at z
      cases z
    refine ⟨_, rfl, L, rfl, ⟨_, SqL.of hL6⟩, ?_⟩
    have PL6 := PL.mono (ST.same S46)
    have ML6 := ML.mono (ST.same S46)
    refine for_list (K := K) (a := L) (xs := ws) (fun i σ H' => H' = H6 ∧ ∃ y3 y6 y7 y8 y9, σ = [some (.ref a), some (.ref tp), some x, y3, some (.ref L), some (.ref M), y6, y7, y8, y9])
      ⟨rfl, _, _, _, _, _, rfl⟩ (fun i σ H' _ h => by rw [h.1]; exact SqL.of hL6) (fun i z σ H' hz h => ?_) (fun σ H' h => q H')
    obtain ⟨rfl, y3, y6, y7, y8, y9, rfl⟩ := h
    obtain ⟨p, num, y, dd, rfl, hm, ht, Ry⟩ := PL6.get hz
    refine ⟨p, _, rfl, SqT.of ht, rfl, _, _, rfl, _, _, rfl, rfl, ?_⟩
    have lkn := lk_at keys hm
    have sm := small _ (lk_mem lkn)
    have sm2 : dd.depth ≤ 3 := sm.2
    rcases ML6.get num with ⟨_, g⟩ | ⟨v, e, g1, g2, Re⟩
    · rw [lkn] at g
      cases g
    · have ee : e = dd := Option.some.inj (g2.symm.trans lkn)
      subst ee
      have dg : DGet H' M (.int num) (some v) := by
        have g := DGet.k (k := Sum.inl num) hM6
        rw [g1] at g
        exact g
      obtain ⟨a1, a2, a3⟩ := Re.eqd (by omega)
      obtain ⟨b1, b2, b3⟩ := Ry.eqd (by omega)
      refine ⟨_, rfl, _, rfl, M, _, rfl, dg, _, rfl, _, _, a1, b1, a2, b2, _, rfl, ?_⟩
      rw [a3]
      refine iteF ?_
      exact ⟨rfl, _, _, _, _, _, rfl⟩
end
end Vs

set_option Elab.async false
set_option linter.all false
set_option maxRecDepth 100000
namespace Vs
open PySem PySem.Spec PyProof.Rows L2 RT StX
open C8 (pss_cut tCut)
theorem all_mk {l : PySem.W.OpenLaw} {w : World} {K : PySem.W.Frag} {h : Heap} {mg : Str → Option Value} {fa f1 f2 f3 f4 f5 f6 f7 f8 f9 f10 f11 f12 f13 f14 f15 f16 f17 f18 : Addr} (X : K.In h) (G : h.Ns mainGlobals mg) (hfa : mg "law" = some (.ref fa))
    {od1 an1 od2 an2 od3 an3 od4 an4 od5 an5 od6 an6 od7 an7 od8 an8 od9 an9 od10 an10 od11 an11 od12 an12 od13 an13 od14 an14 od15 an15 od16 an16 od17 an17 od18 an18 : Option Addr} {sl1 sl2 sl3 sl4 sl5 sl6 sl7 sl8 sl9 sl10 sl11 sl12 sl13 sl14 sl15 sl16 sl17 sl18 : Array (Option Value)} {oc1 kV1 dc1 pm1 cd1 ct1 oc2 kV2 dc2 pm2 cd2 ct2 oc3 kV3 dc3 pm3 cd3 ct3 oc4 kV4 dc4 pm4 cd4 ct4 oc5 kV5 dc5 pm5 cd5 ct5 oc6 kV6 dc6 pm6 cd6 ct6 oc7 kV7 dc7 pm7 cd7 ct7 oc8 kV8 dc8 pm8 cd8 ct8 oc9 kV9 dc9 pm9 cd9 ct9 oc10 kV10 dc10 pm10 cd10 ct10 oc11 kV11 dc11 pm11 cd11 ct11 oc12 kV12 dc12 pm12 cd12 ct12 oc13 kV13 dc13 pm13 cd13 ct13 oc14 kV14 dc14 pm14 cd14 ct14 oc15 kV15 dc15 pm15 cd15 ct15 oc16 kV16 dc16 pm16 cd16 ct16 oc17 kV17 dc17 pm17 cd17 ct17 oc18 kV18 dc18 pm18 cd18 ct18 : Value}
    (a1 : PySem.W.nsIn K mainGlobals "parts_of_shape" = some (some (.ref f1))) (l1 : K.lookup f1 = some ⟨oc1, od1, .func (PySem.W.fnOf "parts_of_shape" "parts_of_shape" (defArgs sPartsOfShape) (defBody sPartsOfShape) (defScope sPartsOfShape) .none kV1 dc1 pm1 an1 cd1 ct1), sl1⟩) (c1 : PySem.W.codeIn K cd1 "parts_of_shape" = true) (k1 : PySem.W.keepIn K (.ref f1) = true)
    (a2 : PySem.W.nsIn K mainGlobals "with_parts" = some (some (.ref f2))) (l2 : K.lookup f2 = some ⟨oc2, od2, .func (PySem.W.fnOf "with_parts" "with_parts" (defArgs sWithParts) (defBody sWithParts) (defScope sWithParts) .none kV2 dc2 pm2 an2 cd2 ct2), sl2⟩) (c2 : PySem.W.codeIn K cd2 "with_parts" = true) (k2 : PySem.W.keepIn K (.ref f2) = true)
    (a3 : PySem.W.nsIn K mainGlobals "measures" = some (some (.ref f3))) (l3 : K.lookup f3 = some ⟨oc3, od3, .func (PySem.W.fnOf "measures" "measures" (defArgs sMeasures) (defBody sMeasures) (defScope sMeasures) .none kV3 dc3 pm3 an3 cd3 ct3), sl3⟩) (c3 : PySem.W.codeIn K cd3 "measures" = true) (k3 : PySem.W.keepIn K (.ref f3) = true)
    (a4 : PySem.W.nsIn K mainGlobals "substitute" = some (some (.ref f4))) (l4 : K.lookup f4 = some ⟨oc4, od4, .func (PySem.W.fnOf "substitute" "substitute" (defArgs sSubstitute) (defBody sSubstitute) (defScope sSubstitute) .none kV4 dc4 pm4 an4 cd4 ct4), sl4⟩) (c4 : PySem.W.codeIn K cd4 "substitute" = true) (k4 : PySem.W.keepIn K (.ref f4) = true)
    (a5 : PySem.W.nsIn K mainGlobals "check_result" = some (some (.ref f5))) (l5 : K.lookup f5 = some ⟨oc5, od5, .func (PySem.W.fnOf "check_result" "check_result" (defArgs sCheckResult) (defBody sCheckResult) (defScope sCheckResult) .none kV5 dc5 pm5 an5 cd5 ct5), sl5⟩) (c5 : PySem.W.codeIn K cd5 "check_result" = true) (k5 : PySem.W.keepIn K (.ref f5) = true)
    (a6 : PySem.W.nsIn K mainGlobals "replaced" = some (some (.ref f6))) (l6 : K.lookup f6 = some ⟨oc6, od6, .func (PySem.W.fnOf "replaced" "replaced" (defArgs sReplaced) (defBody sReplaced) (defScope sReplaced) .none kV6 dc6 pm6 an6 cd6 ct6), sl6⟩) (c6 : PySem.W.codeIn K cd6 "replaced" = true) (k6 : PySem.W.keepIn K (.ref f6) = true)
    (a7 : PySem.W.nsIn K mainGlobals "_law_tape" = some (some (.ref f7))) (l7 : K.lookup f7 = some ⟨oc7, od7, .func (PySem.W.fnOf "_law_tape" "_law_tape" (defArgs sLawTape) (defBody sLawTape) (defScope sLawTape) .none kV7 dc7 pm7 an7 cd7 ct7), sl7⟩) (c7 : PySem.W.codeIn K cd7 "_law_tape" = true) (k7 : PySem.W.keepIn K (.ref f7) = true)
    (a8 : PySem.W.nsIn K mainGlobals "_law_pick" = some (some (.ref f8))) (l8 : K.lookup f8 = some ⟨oc8, od8, .func (PySem.W.fnOf "_law_pick" "_law_pick" (defArgs sLawPick) (defBody sLawPick) (defScope sLawPick) .none kV8 dc8 pm8 an8 cd8 ct8), sl8⟩) (c8 : PySem.W.codeIn K cd8 "_law_pick" = true) (k8 : PySem.W.keepIn K (.ref f8) = true)
    (a9 : PySem.W.nsIn K mainGlobals "_law_leaf" = some (some (.ref f9))) (l9 : K.lookup f9 = some ⟨oc9, od9, .func (PySem.W.fnOf "_law_leaf" "_law_leaf" (defArgs sLawLeaf) (defBody sLawLeaf) (defScope sLawLeaf) .none kV9 dc9 pm9 an9 cd9 ct9), sl9⟩) (c9 : PySem.W.codeIn K cd9 "_law_leaf" = true) (k9 : PySem.W.keepIn K (.ref f9) = true)
    (a10 : PySem.W.nsIn K mainGlobals "_law_shape" = some (some (.ref f10))) (l10 : K.lookup f10 = some ⟨oc10, od10, .func (PySem.W.fnOf "_law_shape" "_law_shape" (defArgs sLawShape) (defBody sLawShape) (defScope sLawShape) .none kV10 dc10 pm10 an10 cd10 ct10), sl10⟩) (c10 : PySem.W.codeIn K cd10 "_law_shape" = true) (k10 : PySem.W.keepIn K (.ref f10) = true)
    (a11 : PySem.W.nsIn K mainGlobals "_law_parts" = some (some (.ref f11))) (l11 : K.lookup f11 = some ⟨oc11, od11, .func (PySem.W.fnOf "_law_parts" "_law_parts" (defArgs sLawParts) (defBody sLawParts) (defScope sLawParts) .none kV11 dc11 pm11 an11 cd11 ct11), sl11⟩) (c11 : PySem.W.codeIn K cd11 "_law_parts" = true) (k11 : PySem.W.keepIn K (.ref f11) = true)
    (a12 : PySem.W.nsIn K mainGlobals "_law_rebuilt" = some (some (.ref f12))) (l12 : K.lookup f12 = some ⟨oc12, od12, .func (PySem.W.fnOf "_law_rebuilt" "_law_rebuilt" (defArgs sLawRebuilt) (defBody sLawRebuilt) (defScope sLawRebuilt) .none kV12 dc12 pm12 an12 cd12 ct12), sl12⟩) (c12 : PySem.W.codeIn K cd12 "_law_rebuilt" = true) (k12 : PySem.W.keepIn K (.ref f12) = true)
    (a13 : PySem.W.nsIn K mainGlobals "_law_apply" = some (some (.ref f13))) (l13 : K.lookup f13 = some ⟨oc13, od13, .func (PySem.W.fnOf "_law_apply" "_law_apply" (defArgs sLawApply) (defBody sLawApply) (defScope sLawApply) .none kV13 dc13 pm13 an13 cd13 ct13), sl13⟩) (c13 : PySem.W.codeIn K cd13 "_law_apply" = true) (k13 : PySem.W.keepIn K (.ref f13) = true)
    (a14 : PySem.W.nsIn K mainGlobals "_law_chain" = some (some (.ref f14))) (l14 : K.lookup f14 = some ⟨oc14, od14, .func (PySem.W.fnOf "_law_chain" "_law_chain" (defArgs sLawChain) (defBody sLawChain) (defScope sLawChain) .none kV14 dc14 pm14 an14 cd14 ct14), sl14⟩) (c14 : PySem.W.codeIn K cd14 "_law_chain" = true) (k14 : PySem.W.keepIn K (.ref f14) = true)
    (a15 : PySem.W.nsIn K mainGlobals "_law_flat" = some (some (.ref f15))) (l15 : K.lookup f15 = some ⟨oc15, od15, .func (PySem.W.fnOf "_law_flat" "_law_flat" (defArgs sLawFlat) (defBody sLawFlat) (defScope sLawFlat) .none kV15 dc15 pm15 an15 cd15 ct15), sl15⟩) (c15 : PySem.W.codeIn K cd15 "_law_flat" = true) (k15 : PySem.W.keepIn K (.ref f15) = true)
    (a16 : PySem.W.nsIn K mainGlobals "_law_answer" = some (some (.ref f16))) (l16 : K.lookup f16 = some ⟨oc16, od16, .func (PySem.W.fnOf "_law_answer" "_law_answer" (defArgs sLawAnswer) (defBody sLawAnswer) (defScope sLawAnswer) .none kV16 dc16 pm16 an16 cd16 ct16), sl16⟩) (c16 : PySem.W.codeIn K cd16 "_law_answer" = true) (k16 : PySem.W.keepIn K (.ref f16) = true)
    (a17 : PySem.W.nsIn K mainGlobals "_law_edge" = some (some (.ref f17))) (l17 : K.lookup f17 = some ⟨oc17, od17, .func (PySem.W.fnOf "_law_edge" "_law_edge" (defArgs sLawEdge) (defBody sLawEdge) (defScope sLawEdge) .none kV17 dc17 pm17 an17 cd17 ct17), sl17⟩) (c17 : PySem.W.codeIn K cd17 "_law_edge" = true) (k17 : PySem.W.keepIn K (.ref f17) = true)
    (a18 : PySem.W.nsIn K mainGlobals "law" = some (some (.ref f18))) (l18 : K.lookup f18 = some ⟨oc18, od18, .func (PySem.W.fnOf "law" "law" (defArgs sLaw) (defBody sLaw) (defScope sLaw) .none kV18 dc18 pm18 an18 cd18 ct18), sl18⟩) (c18 : PySem.W.codeIn K cd18 "law" = true) (k18 : PySem.W.keepIn K (.ref f18) = true)
    (z1 : PySem.W.nsIn K mainGlobals "abs" = some none) (z2 : PySem.W.nsIn K mainGlobals "max" = some none) (z3 : PySem.W.nsIn K mainGlobals "len" = some none) (z4 : PySem.W.nsIn K mainGlobals "range" = some none) (z5 : PySem.W.nsIn K mainGlobals "int" = some none) (z6 : PySem.W.nsIn K mainGlobals "tuple" = some none)
    {C : Addr} {u1 u2 : Tok} (y1 : PySem.W.nsIn K mainGlobals "TooLarge" = some (some (.ref C))) (y2 : PySem.W.excIn K C [.type "ValueError", .type "Exception", .type "BaseException", .type "object"] "ValueError.__new__" = true) (y3 : PySem.W.keepIn K (.ref C) = true) (y4 : PySem.W.subIn K (.ref C) (.type "BaseException") = some true)
    (y5 : PySem.W.typeIn K (.ref C) = some (.type "type")) (y6 : PySem.W.isClsIn K C = true) (y7 : PySem.W.subIn K (.ref C) (.ref C) = some true) (y8 : PySem.W.nsIn K mainGlobals "MAX_SIZE" = some (some (.int 2000 u1))) (y9 : PySem.W.nsIn K mainGlobals "MAX_DEPTH" = some (some (.int 100 u2)))
    : ∃ fd : FuncData, (∀ (s : Shared) (v : Value), BindsTo s fd ⟨[v], []⟩ [("script", v)]) ∧ ∀ base : Heap, K.In base → base.Ns mainGlobals mg → FnOk l.prog w K mg base CX0 105 fa fd ["script"] (spLaw K) := by
  have e := hfa.symm.trans (PySem.W.mg_of X G a18)
  cases e
  have F1 := fun_mk (st := sPartsOfShape) l1 c1 k1
  have b1 := F1.binds (ps := ["shape"]) fun _ _ _ _ _ _ us hl => match us, hl with | [_], _ => rfl
  have g1 := PySem.W.mg_of X G a1
  have F2 := fun_mk (st := sWithParts) l2 c2 k2
  have b2 := F2.binds (ps := ["shape", "parts"]) fun _ _ _ _ _ _ us hl => match us, hl with | [_, _], _ => rfl
  have g2 := PySem.W.mg_of X G a2
  have F3 := fun_mk (st := sMeasures) l3 c3 k3
  have b3 := F3.binds (ps := ["shape"]) fun _ _ _ _ _ _ us hl => match us, hl with | [_], _ => rfl
  have g3 := PySem.W.mg_of X G a3
  have F4 := fun_mk (st := sSubstitute) l4 c4 k4
  have b4 := F4.binds (ps := ["shape", "mapping"]) fun _ _ _ _ _ _ us hl => match us, hl with | [_, _], _ => rfl
  have g4 := PySem.W.mg_of X G a4
  have F5 := fun_mk (st := sCheckResult) l5 c5 k5
  have b5 := F5.binds (ps := ["shape", "mapping"]) fun _ _ _ _ _ _ us hl => match us, hl with | [_, _], _ => rfl
  have g5 := PySem.W.mg_of X G a5
  have F6 := fun_mk (st := sReplaced) l6 c6 k6
  have b6 := F6.binds (ps := ["shape", "mapping"]) fun _ _ _ _ _ _ us hl => match us, hl with | [_, _], _ => rfl
  have g6 := PySem.W.mg_of X G a6
  have F7 := fun_mk (st := sLawTape) l7 c7 k7
  have b7 := F7.binds (ps := ["script", "many"]) fun _ _ _ _ _ _ us hl => match us, hl with | [_, _], _ => rfl
  have g7 := PySem.W.mg_of X G a7
  have F8 := fun_mk (st := sLawPick) l8 c8 k8
  have b8 := F8.binds (ps := ["tape", "at", "many"]) fun _ _ _ _ _ _ us hl => match us, hl with | [_, _, _], _ => rfl
  have g8 := PySem.W.mg_of X G a8
  have F9 := fun_mk (st := sLawLeaf) l9 c9 k9
  have b9 := F9.binds (ps := ["tape", "at", "free"]) fun _ _ _ _ _ _ us hl => match us, hl with | [_, _, _], _ => rfl
  have g9 := PySem.W.mg_of X G a9
  have F10 := fun_mk (st := sLawShape) l10 c10 k10
  have b10 := F10.binds (ps := ["tape", "at", "level", "free"]) fun _ _ _ _ _ _ us hl => match us, hl with | [_, _, _, _], _ => rfl
  have g10 := PySem.W.mg_of X G a10
  have F11 := fun_mk (st := sLawParts) l11 c11 k11
  have b11 := F11.binds (ps := ["shape"]) fun _ _ _ _ _ _ us hl => match us, hl with | [_], _ => rfl
  have g11 := PySem.W.mg_of X G a11
  have F12 := fun_mk (st := sLawRebuilt) l12 c12 k12
  have b12 := F12.binds (ps := ["shape", "parts"]) fun _ _ _ _ _ _ us hl => match us, hl with | [_, _], _ => rfl
  have g12 := PySem.W.mg_of X G a12
  have F13 := fun_mk (st := sLawApply) l13 c13 k13
  have b13 := F13.binds (ps := ["shape", "pairs"]) fun _ _ _ _ _ _ us hl => match us, hl with | [_, _], _ => rfl
  have g13 := PySem.W.mg_of X G a13
  have F14 := fun_mk (st := sLawChain) l14 c14 k14
  have b14 := F14.binds (ps := ["level", "end"]) fun _ _ _ _ _ _ us hl => match us, hl with | [_, _], _ => rfl
  have g14 := PySem.W.mg_of X G a14
  have F15 := fun_mk (st := sLawFlat) l15 c15 k15
  have b15 := F15.binds (ps := ["pieces", "rest"]) fun _ _ _ _ _ _ us hl => match us, hl with | [_, _], _ => rfl
  have g15 := PySem.W.mg_of X G a15
  have F16 := fun_mk (st := sLawAnswer) l16 c16 k16
  have b16 := F16.binds (ps := ["shape", "mapping"]) fun _ _ _ _ _ _ us hl => match us, hl with | [_, _], _ => rfl
  have g16 := PySem.W.mg_of X G a16
  have F17 := fun_mk (st := sLawEdge) l17 c17 k17
  have b17 := F17.binds (ps := ["tape"]) fun _ _ _ _ _ _ us hl => match us, hl with | [_], _ => rfl
  have g17 := PySem.W.mg_of X G a17
  have F18 := fun_mk (st := sLaw) l18 c18 k18
  have m_abs := PySem.W.mg_none_of X G z1
  have m_max := PySem.W.mg_none_of X G z2
  have m_len := PySem.W.mg_none_of X G z3
  have m_range := PySem.W.mg_none_of X G z4
  have m_int := PySem.W.mg_none_of X G z5
  have m_tuple := PySem.W.mg_none_of X G z6
  refine ⟨PySem.W.fnOf "law" "law" (defArgs sLaw) (defBody sLaw) (defScope sLaw) .none kV18 dc18 pm18 an18 cd18 ct18, fun s v => .of_eq rfl, fun base _ _ => ?_⟩
  have T : ExcT K mg "TooLarge" C := ⟨PySem.W.mg_of X G y1, y2, y3, y4, y5, y6, y7⟩
  have Oq : Own l.prog w K mg base CX0 1 "parts_of_shape" _ _ ["shape"] (spParts K) := ⟨ok_parts (k := 0) F1, b1, F1.kp, g1⟩
  have Ow : Own l.prog w K mg base CX0 1 "with_parts" _ _ ["shape", "parts"] (spWith K) := ⟨ok_with (k := 0) F2 m_tuple, b2, F2.kp, g2⟩
  have Om : Own l.prog w K mg base CX0 2 "measures" _ _ ["shape"] (spMeas K) := ⟨ok_meas F3 Oq m_max, b3, F3.kp, g3⟩
  have Oq2 : Own l.prog w K mg base CX0 2 "parts_of_shape" _ _ ["shape"] (spParts K) := ⟨ok_parts (k := 1) F1, b1, F1.kp, g1⟩
  have Oc : Own l.prog w K mg base (L2.CX l.prog w) 3 "check_result" _ _ ["shape", "mapping"] (spCheck K C) := ⟨ok_check F5 Oq2 Om T (PySem.W.mg_of X G y8) (PySem.W.mg_of X G y9), b5, F5.kp, g5⟩
  have Orp : Own l.prog w K mg base CX0 101 "replaced" _ _ ["shape", "mapping"] (spRepl K 100) := ⟨repl_all F6 b6 g6 Oq Ow 100, b6, F6.kp, g6⟩
  have Ou : Own l.prog w K mg base (L2.CX l.prog w) 102 "substitute" _ _ ["shape", "mapping"] (spSubst K C) := ⟨ok_subst F4 Oc (by decide) Orp, b4, F4.kp, g4⟩
  have Ot : Own l.prog w K mg base CX0 1 "_law_tape" _ _ ["script", "many"] (spTape K) := ⟨ok_tape (k := 0) F7 m_abs m_max m_len m_range m_int, b7, F7.kp, g7⟩
  have Op : Own l.prog w K mg base CX0 1 "_law_pick" _ _ ["tape", "at", "many"] (spPick K) := ⟨ok_pick (k := 0) F8 m_int m_len, b8, F8.kp, g8⟩
  have Ol : Own l.prog w K mg base CX0 2 "_law_leaf" _ _ ["tape", "at", "free"] (spLeaf K) := ⟨ok_leaf F9 Op m_len, b9, F9.kp, g9⟩
  have Os : Own l.prog w K mg base CX0 6 "_law_shape" _ _ ["tape", "at", "level", "free"] (spShape K 4) := ⟨shape_all F10 b10 g10 Op Ol m_range m_tuple 4, b10, F10.kp, g10⟩
  have Olp : Own l.prog w K mg base CX0 1 "_law_parts" _ _ ["shape"] (spParts K) := ⟨ok_lparts (k := 0) F11, b11, F11.kp, g11⟩
  have Olr : Own l.prog w K mg base CX0 1 "_law_rebuilt" _ _ ["shape", "parts"] (spWith K) := ⟨ok_lreb (k := 0) F12 m_tuple, b12, F12.kp, g12⟩
  have Oa : Own l.prog w K mg base CX0 11 "_law_apply" _ _ ["shape", "pairs"] (spApply K 10) := ⟨apply_all F13 b13 g13 Olp Olr 10, b13, F13.kp, g13⟩
  have Och : Own l.prog w K mg base CX0 1 "_law_chain" _ _ ["level", "end"] (spChain K) := ⟨ok_chain (k := 0) F14 m_range, b14, F14.kp, g14⟩
  have Ofl : Own l.prog w K mg base CX0 1 "_law_flat" _ _ ["pieces", "rest"] (spFlat K) := ⟨ok_flat (k := 0) F15 m_range, b15, F15.kp, g15⟩
  have Oan : Own l.prog w K mg base CX0 103 "_law_answer" _ _ ["shape", "mapping"] (spAns K) := ⟨ok_ans F16 T Ou, b16, F16.kp, g16⟩
  have Oe : Own l.prog w K mg base CX0 104 "_law_edge" _ _ ["tape"] (spEdge K) := ⟨ok_edge F17 Op Och Ofl Oan m_range, b17, F17.kp, g17⟩
  exact ok_law F18 Ot Op Oe Os Ou Oa m_range m_len
end Vs
open PySem PySem.W PyProof.Rows
set_option maxHeartbeats 0 in
theorem PySem.Challenge.cw_shapewright_k11_substitution_holds : PySem.Challenge.rw_shapewright_k11_substitution.Holds := by
  w_on; o_law; k_head; (case hw => w_witness2)
  k_fill
  refine L2.walk_of (l := PySem.Challenge.rw_shapewright_k11_substitution) (n := 63) (k := 105) (x := "script") (CX := fun _ => L2.CX0) (sp := fun w => Vs.spLaw _) rfl (by decide) rfl ⟨rfl, by decide, by decide⟩ (fun w h Y => PySem.W.kIn_of Y) ?F (fun _ _ a ns hl _ hS => ⟨a, ns, rfl, hS, hl, fun _ => rfl⟩) (fun _ _ _ _ _ h => h)
  case F =>
    intro w mg fa h KX G hmg
    refine' Vs.all_mk KX G hmg ?a1 ?l1 ?c1 ?k1 ?a2 ?l2 ?c2 ?k2 ?a3 ?l3 ?c3 ?k3 ?a4 ?l4 ?c4 ?k4 ?a5 ?l5 ?c5 ?k5 ?a6 ?l6 ?c6 ?k6 ?a7 ?l7 ?c7 ?k7 ?a8 ?l8 ?c8 ?k8 ?a9 ?l9 ?c9 ?k9 ?a10 ?l10 ?c10 ?k10 ?a11 ?l11 ?c11 ?k11 ?a12 ?l12 ?c12 ?k12 ?a13 ?l13 ?c13 ?k13 ?a14 ?l14 ?c14 ?k14 ?a15 ?l15 ?c15 ?k15 ?a16 ?l16 ?c16 ?k16 ?a17 ?l17 ?c17 ?k17 ?a18 ?l18 ?c18 ?k18 ?z1 ?z2 ?z3 ?z4 ?z5 ?z6 ?y1 ?y2 ?y3 ?y4 ?y5 ?y6 ?y7 ?y8 ?y9
    (case a1 => k_is)
    (case l1 => k_is)
    (case c1 => k_is)
    (case k1 => k_is)
    (case a2 => k_is)
    (case l2 => k_is)
    (case c2 => k_is)
    (case k2 => k_is)
    (case a3 => k_is)
    (case l3 => k_is)
    (case c3 => k_is)
    (case k3 => k_is)
    (case a4 => k_is)
    (case l4 => k_is)
    (case c4 => k_is)
    (case k4 => k_is)
    (case a5 => k_is)
    (case l5 => k_is)
    (case c5 => k_is)
    (case k5 => k_is)
    (case a6 => k_is)
    (case l6 => k_is)
    (case c6 => k_is)
    (case k6 => k_is)
    (case a7 => k_is)
    (case l7 => k_is)
    (case c7 => k_is)
    (case k7 => k_is)
    (case a8 => k_is)
    (case l8 => k_is)
    (case c8 => k_is)
    (case k8 => k_is)
    (case a9 => k_is)
    (case l9 => k_is)
    (case c9 => k_is)
    (case k9 => k_is)
    (case a10 => k_is)
    (case l10 => k_is)
    (case c10 => k_is)
    (case k10 => k_is)
    (case a11 => k_is)
    (case l11 => k_is)
    (case c11 => k_is)
    (case k11 => k_is)
    (case a12 => k_is)
    (case l12 => k_is)
    (case c12 => k_is)
    (case k12 => k_is)
    (case a13 => k_is)
    (case l13 => k_is)
    (case c13 => k_is)
    (case k13 => k_is)
    (case a14 => k_is)
    (case l14 => k_is)
    (case c14 => k_is)
    (case k14 => k_is)
    (case a15 => k_is)
    (case l15 => k_is)
    (case c15 => k_is)
    (case k15 => k_is)
    (case a16 => k_is)
    (case l16 => k_is)
    (case c16 => k_is)
    (case k16 => k_is)
    (case a17 => k_is)
    (case l17 => k_is)
    (case c17 => k_is)
    (case k17 => k_is)
    (case a18 => k_is)
    (case l18 => k_is)
    (case c18 => k_is)
    (case k18 => k_is)
    (case z1 => k_is)
    (case z2 => k_is)
    (case z3 => k_is)
    (case z4 => k_is)
    (case z5 => k_is)
    (case z6 => k_is)
    (case y1 => k_is)
    (case y2 => first | k_exc | k_is)
    (case y3 => k_is)
    (case y4 => k_is)
    (case y5 => k_is)
    (case y6 => k_is)
    (case y7 => first | rfl | k_is)
    (case y8 => k_is)
    (case y9 => k_is)
