import PyProof.Rows.All
import Wide.All
import OpenK.AllK
import Wide.FinOn
import HandS.ForMost
import HandS.ForExc
import HandS.Rev
import HandS.TupAny
import HandS.More
import HandS.Star
import HandS.Codes
import HandS.DictComp
import HandS.SetKeys
import HandS.Zip
import HandS.IsInst
import HandS.Wide
import HandS.Flow
import HandS.FStr
import HandS.Deep
import HandS.Nested
import HandS.Style
import HandS.TupMul
import KE.KDictList
import KE.GoesMore
import HandS.SortInts
import HandS.Zip0
import HandS.Sort
import HandS.TryOnly
import HandS.Iter
import HandS.Dict
import HandS.ExcIs
import PySem.Challenge.RW_shapewright_k72_blocks_of_the_heap
set_option Elab.async false
set_option linter.all false
set_option maxRecDepth 100000
namespace Mir
open PySem PySem.Spec PyProof.Rows L2

inductive W where
  | non
  | bl (b : Bool)
  | int (i : Int)
  | str (x : Str)
  | tup (ws : List W)
  | lro (ws : List W)
  | ref (n : Nat)
  | fn (x : Str)
  | xob (a : Addr)
structure LamA where
  qual : Str
  params : Arguments
  body : Expr
  scope : Scope
  ps : List Str
  fr : List Str
inductive O where
  | lst (ws : List W)
  | dct (kvs : List (Key × W))
  | dtt (kvs : List (List Key × W))
  | lam (A : LamA) (caps : List W)
  | tab (P : Addr) (q : Str)
  | dead
  | frd (kvs : List (Key × W))
  | ins (c : Str) (fs : List (Str × W))
abbrev Sto := List O
abbrev EnvM := List (Option W)

def TuA (K : PySem.W.Frag) (H : Hp) (a : Addr) (xs : List V) : Prop :=
  H a = some (.tup xs) ∨ ∃ (o : Obj) (its : Array Value) (n : Nat), K.lookup a = some o ∧ o.cls = .type "tuple" ∧ o.data = .seq its n ∧ its.size ≤ sizeLine ∧ Vals xs its.toList
def LiA (K : PySem.W.Frag) (H : Hp) (a : Addr) (xs : List V) : Prop :=
  (∃ o, H a = some (.frz o (.lst xs))) ∨ ∃ (o : Obj) (its : Array Value) (n : Nat), K.lookup a = some o ∧ o.cls = .type "list" ∧ o.dict = none ∧ o.data = .seq its n ∧ its.size ≤ sizeLine ∧ Vals xs its.toList
theorem TuA.of {K : PySem.W.Frag} {H : Hp} {a : Addr} {xs : List V} (h : H a = some (.tup xs)) : TuA K H a xs := .inl h
theorem TuA.sq {K : PySem.W.Frag} {H : Hp} {a : Addr} {xs : List V} (h : TuA K H a xs) : SqT K H a xs := by
  rcases h with h | h
  · exact .inl (.inl h)
  · exact .inr h
theorem LiA.sq {K : PySem.W.Frag} {H : Hp} {a : Addr} {xs : List V} (h : LiA K H a xs) : SqL K H a xs := by
  rcases h with h | h
  · exact .inl (.inr h)
  · exact .inr h
mutual
inductive R (K : PySem.W.Frag) (m : List Addr) (H : Hp) : W → V → Prop
  | non : R K m H .non .non
  | bl (b : Bool) : R K m H (.bl b) (.bl b)
  | int (i : Int) : R K m H (.int i) (.int i)
  | str (x : Str) : R K m H (.str x) (.str x)
  | tup {p : Addr} {vs : List V} {ws : List W} : TuA K H p vs → RL K m H ws vs → R K m H (.tup ws) (.ref p)
  | lro {p : Addr} {vs : List V} {ws : List W} : LiA K H p vs → RL K m H ws vs → R K m H (.lro ws) (.ref p)
  | ref {n : Nat} {a : Addr} : m[n]? = some a → R K m H (.ref n) (.ref a)
  | fn {x : Str} {a : Addr} : PySem.W.nsIn K mainGlobals x = some (some (.ref a)) → R K m H (.fn x) (.ref a)
  | xob (a : Addr) : R K m H (.xob a) (.ref a)
inductive RL (K : PySem.W.Frag) (m : List Addr) (H : Hp) : List W → List V → Prop
  | nil : RL K m H [] []
  | cons {w : W} {v : V} {ws : List W} {vs : List V} : R K m H w v → RL K m H ws vs → RL K m H (w :: ws) (v :: vs)
end
inductive RK (K : PySem.W.Frag) (m : List Addr) (H : Hp) : List (Key × W) → List (Key × V) → Prop
  | nil : RK K m H [] []
  | cons {k : Key} {w : W} {v : V} {ws : List (Key × W)} {vs : List (Key × V)} : R K m H w v → RK K m H ws vs → RK K m H ((k, w) :: ws) ((k, v) :: vs)
inductive RF (K : PySem.W.Frag) (m : List Addr) (H : Hp) : List (Str × W) → List (Str × V) → Prop
  | nil : RF K m H [] []
  | cons {k : Str} {w : W} {v : V} {ws : List (Str × W)} {vs : List (Str × V)} : R K m H w v → RF K m H ws vs → RF K m H ((k, w) :: ws) ((k, v) :: vs)
inductive RKT (K : PySem.W.Frag) (m : List Addr) (H : Hp) : List (List Key × W) → List (List Key × V) → Prop
  | nil : RKT K m H [] []
  | cons {k : List Key} {w : W} {v : V} {ws : List (List Key × W)} {vs : List (List Key × V)} : R K m H w v → RKT K m H ws vs → RKT K m H ((k, w) :: ws) ((k, v) :: vs)
structure Adv (m : List Addr) (H : Hp) (m' : List Addr) (H' : Hp) : Prop where
  pre : ∃ t, m' = m ++ t
  same : ∀ a o, H a = some o → a ∉ m → H' a = some o
  new : ∀ a, a ∈ m' → a ∈ m ∨ H a = none
  tup : ∀ a xs, H a = some (.tup xs) → H' a = some (.tup xs)
  frz : ∀ a o u, H a = some (.frz o u) → H' a = some (.frz o u)
theorem Adv.refl (m : List Addr) (H : Hp) : Adv m H m H := ⟨⟨[], by simp⟩, fun _ _ h _ => h, fun _ h => .inl h, fun _ _ h => h, fun _ _ _ h => h⟩
theorem Adv.trans {m m1 m2 : List Addr} {H H1 H2 : Hp} (a : Adv m H m1 H1) (b : Adv m1 H1 m2 H2) : Adv m H m2 H2 := by
  refine ⟨?_, fun x o h n => ?_, fun x h => ?_, fun x xs h => b.tup x xs (a.tup x xs h), fun x o u h => b.frz x o u (a.frz x o u h)⟩
  · obtain ⟨t, rfl⟩ := a.pre
    obtain ⟨t', rfl⟩ := b.pre
    exact ⟨t ++ t', by rw [List.append_assoc]⟩
  · refine b.same x o (a.same x o h n) fun q => ?_
    rcases a.new x q with q | q
    · exact n q
    · rw [h] at q; cases q
  · rcases b.new x h with q | q
    · exact a.new x q
    · by_cases hm : x ∈ m
      · exact .inl hm
      · cases e : H x with
        | none => exact .inr rfl
        | some o =>
          rw [a.same x o e hm] at q
          cases q
structure Ext (m : List Addr) (H : Hp) (m' : List Addr) (H' : Hp) : Prop where
  pre : ∃ t, m' = m ++ t
  tup : ∀ a xs, H a = some (.tup xs) → H' a = some (.tup xs)
  frz : ∀ a o u, H a = some (.frz o u) → H' a = some (.frz o u)
theorem Adv.ext {m m' : List Addr} {H H' : Hp} (a : Adv m H m' H') : Ext m H m' H' := ⟨a.pre, a.tup, a.frz⟩
theorem Ext.get {m m' : List Addr} {H H' : Hp} (a : Ext m H m' H') {n : Nat} {x : Addr} (h : m[n]? = some x) : m'[n]? = some x := by
  obtain ⟨t, rfl⟩ := a.pre
  rw [List.getElem?_append_left (List.getElem?_eq_some_iff.mp h).1]
  exact h
theorem Adv.get {m m' : List Addr} {H H' : Hp} (a : Adv m H m' H') {n : Nat} {x : Addr} (h : m[n]? = some x) : m'[n]? = some x := by
  obtain ⟨t, rfl⟩ := a.pre
  rw [List.getElem?_append_left (List.getElem?_eq_some_iff.mp h).1]
  exact h
section
variable {K : PySem.W.Frag} {m m' : List Addr} {H H' : Hp}
theorem TuA.ext {a : Addr} {xs : List V} (A : Ext m H m' H') (h : TuA K H a xs) : TuA K H' a xs := by
  rcases h with h | h
  · exact .inl (A.tup _ _ h)
  · exact .inr h
theorem LiA.ext {a : Addr} {xs : List V} (A : Ext m H m' H') (h : LiA K H a xs) : LiA K H' a xs := by
  rcases h with ⟨o, h⟩ | h
  · exact .inl ⟨o, A.frz _ _ _ h⟩
  · exact .inr h
mutual
theorem R.ext (A : Ext m H m' H') : ∀ {w : W} {v : V}, R K m H w v → R K m' H' w v
  | .non, _, h => by cases h; exact .non
  | .bl _, _, h => by cases h; exact .bl _
  | .int _, _, h => by cases h; exact .int _
  | .str _, _, h => by cases h; exact .str _
  | .tup ws, _, h => by
    cases h with
    | tup h1 h2 => exact .tup (h1.ext A) (RL.ext A h2)
  | .lro ws, _, h => by
    cases h with
    | lro h1 h2 => exact .lro (h1.ext A) (RL.ext A h2)
  | .ref _, _, h => by
    cases h with
    | ref h1 => exact .ref (A.get h1)
  | .fn _, _, h => by
    cases h with
    | fn h1 => exact .fn h1
  | .xob _, _, h => by
    cases h with
    | xob => exact .xob _
theorem RL.ext (A : Ext m H m' H') : ∀ {ws : List W} {vs : List V}, RL K m H ws vs → RL K m' H' ws vs
  | [], _, h => by cases h; exact .nil
  | w :: ws, _, h => by
    cases h with
    | cons h1 h2 => exact .cons (R.ext A h1) (RL.ext A h2)
end
theorem RK.ext (A : Ext m H m' H') : ∀ {ws : List (Key × W)} {vs : List (Key × V)}, RK K m H ws vs → RK K m' H' ws vs
  | [], _, h => by cases h; exact .nil
  | w :: ws, _, h => by
    cases h with
    | cons h1 h2 => exact .cons (h1.ext A) (RK.ext A h2)
theorem R.adv (A : Adv m H m' H') {w : W} {v : V} (h : R K m H w v) : R K m' H' w v := R.ext A.ext h
theorem RL.adv (A : Adv m H m' H') {w : List W} {v : List V} (h : RL K m H w v) : RL K m' H' w v := RL.ext A.ext h
theorem RK.adv (A : Adv m H m' H') {w : List (Key × W)} {v : List (Key × V)} (h : RK K m H w v) : RK K m' H' w v := RK.ext A.ext h
theorem RKT.ext (A : Ext m H m' H') : ∀ {ws : List (List Key × W)} {vs : List (List Key × V)}, RKT K m H ws vs → RKT K m' H' ws vs
  | [], _, h => by cases h; exact .nil
  | w :: ws, _, h => by
    cases h with
    | cons h1 h2 => exact .cons (h1.ext A) (RKT.ext A h2)
theorem RKT.adv (A : Adv m H m' H') {w : List (List Key × W)} {v : List (List Key × V)} (h : RKT K m H w v) : RKT K m' H' w v := RKT.ext A.ext h
theorem RF.ext (A : Ext m H m' H') : ∀ {ws : List (Str × W)} {vs : List (Str × V)}, RF K m H ws vs → RF K m' H' ws vs
  | [], _, h => by cases h; exact .nil
  | w :: ws, _, h => by
    cases h with
    | cons h1 h2 => exact .cons (h1.ext A) (RF.ext A h2)
theorem RF.adv (A : Adv m H m' H') {w : List (Str × W)} {v : List (Str × V)} (h : RF K m H w v) : RF K m' H' w v := RF.ext A.ext h
theorem RL.len : ∀ {ws : List W} {vs : List V}, RL K m H ws vs → vs.length = ws.length
  | [], _, h => by cases h; rfl
  | w :: ws, _, h => by
    cases h with
    | cons h1 h2 => rw [List.length_cons, List.length_cons, RL.len h2]
theorem RL.get : ∀ {ws : List W} {vs : List V} {i : Nat} {v : V}, RL K m H ws vs → vs[i]? = some v → ∃ w, ws[i]? = some w ∧ R K m H w v
  | [], _, i, x, h, e => by cases h; cases e
  | d :: r, _, 0, x, h, e => by
    cases h with
    | cons h1 h2 => cases e; exact ⟨_, rfl, h1⟩
  | d :: r, _, i + 1, x, h, e => by
    cases h with
    | cons h1 h2 => exact RL.get (i := i) h2 e
theorem RL.at : ∀ {ws : List W} {vs : List V} {i : Nat} {w : W}, RL K m H ws vs → ws[i]? = some w → ∃ v, vs[i]? = some v ∧ R K m H w v
  | [], _, i, x, h, e => by cases e
  | d :: r, _, 0, x, h, e => by
    cases h with
    | cons h1 h2 => cases e; exact ⟨_, rfl, h1⟩
  | d :: r, _, i + 1, x, h, e => by
    cases h with
    | cons h1 h2 => exact RL.at (i := i) h2 e
theorem RL.app : ∀ {ws ws' : List W} {vs vs' : List V}, RL K m H ws vs → RL K m H ws' vs' → RL K m H (ws ++ ws') (vs ++ vs')
  | [], _, _, _, h, g => by cases h; exact g
  | d :: r, _, _, _, h, g => by
    cases h with
    | cons h1 h2 => exact .cons h1 (RL.app h2 g)
theorem RL.take : ∀ {ws : List W} {vs : List V} (n : Nat), RL K m H ws vs → RL K m H (ws.take n) (vs.take n)
  | [], _, n, h => by cases h; rw [List.take_nil, List.take_nil]; exact .nil
  | d :: r, _, 0, h => by rw [List.take_zero, List.take_zero]; exact .nil
  | d :: r, _, n + 1, h => by
    cases h with
    | cons h1 h2 => exact .cons h1 (RL.take n h2)
theorem RL.drop : ∀ {ws : List W} {vs : List V} (n : Nat), RL K m H ws vs → RL K m H (ws.drop n) (vs.drop n)
  | [], _, n, h => by cases h; rw [List.drop_nil, List.drop_nil]; exact .nil
  | d :: r, _, 0, h => h
  | d :: r, _, n + 1, h => by
    cases h with
    | cons h1 h2 => exact RL.drop n h2
theorem RL.set : ∀ {ws : List W} {vs : List V} (n : Nat) {w : W} {v : V}, RL K m H ws vs → R K m H w v → RL K m H (ws.set n w) (vs.set n v)
  | [], _, n, _, _, h, g => by cases h; exact .nil
  | d :: r, _, 0, _, _, h, g => by
    cases h with
    | cons h1 h2 => exact .cons g h2
  | d :: r, _, n + 1, _, _, h, g => by
    cases h with
    | cons h1 h2 => exact .cons h1 (RL.set n h2 g)
theorem RL.dropLast {ws : List W} {vs : List V} (h : RL K m H ws vs) : RL K m H ws.dropLast vs.dropLast := by
  rw [List.dropLast_eq_take, List.dropLast_eq_take, h.len]
  exact h.take _
theorem RL.one {w : W} {v : V} (h : R K m H w v) : RL K m H [w] [v] := .cons h .nil
theorem RL.at_of {ws : List W} {vs : List V} {i : Int} {w : W} (h : RL K m H ws vs) (e : atI ws i = some w) : ∃ v, atI vs i = some v ∧ R K m H w v := by
  unfold atI at e ⊢
  rw [h.len]
  cases q : ixN ws.length i with
  | none => rw [q] at e; cases e
  | some j =>
    rw [q] at e
    exact h.at e
theorem RL.cut {ws : List W} {vs : List V} (h : RL K m H ws vs) (lo hi : Option Int) :
    RL K m H ((ws.drop (HT.sIx ws.length 0 lo)).take (HT.sIx ws.length ws.length hi - HT.sIx ws.length 0 lo)) (cutV vs lo hi) := by
  unfold cutV
  rw [h.len]
  exact (h.drop _).take _

def CodeP (H : Hp) (c : Addr) (q : Str) : Prop := ∃ (oc : Obj) (u : HO) (vs : Array Value) (t : Tok), H c = some (.frz oc u) ∧ oc.data = .fields vs ∧ vs[1]? = some (.str q t)
structure ClO (H : Hp) (cl : List (Str × Addr)) (fr : List Str) (cvs : List V) : Prop where
  len : cvs.length = fr.length
  dom : ∀ y k, cl.lookup y = some k → y ∈ fr
  inj : ∀ x y k, cl.lookup x = some k → cl.lookup y = some k → x = y
  at_ : ∀ (i : Nat) (y : Str), fr[i]? = some y → ∃ (k : Addr) (ok : Obj) (uv : Value) (v : V), cvs[i]? = some v ∧ cl.lookup y = some k ∧ H k = some (.frz ok (.own 0)) ∧ ok.data = .cell (some uv) ∧ RelV v uv
def LamP (K : PySem.W.Frag) (m : List Addr) (H : Hp) (a : Addr) (A : LamA) (caps : List W) : Prop :=
  ∃ (cl : List (Str × Addr)) (c : Addr) (pm ctv : Value) (cvs : List V), H a = some (.frz (PySem.W.kla_obj "<lambda>" A.qual A.params A.body A.scope cl pm c ctv) (.own 0)) ∧ CodeP H c A.qual ∧ ClO H cl A.fr cvs ∧ RL K m H caps cvs
def TabP (H : Hp) (P : Addr) (q : Str) : Prop := ∃ ps : Array Value, H P = some (.tbl ps) ∧ TriplesOk ps.toList ∧ ∀ (pos : Pos) (cv : Value), codeAmong pos ps.toList = some cv → ∃ c, cv = .ref c ∧ CodeP H c q
theorem CodeP.ext (A : Ext m H m' H') {c : Addr} {q : Str} (h : CodeP H c q) : CodeP H' c q := by
  obtain ⟨oc, u, vs, t, h1, h2, h3⟩ := h
  exact ⟨oc, u, vs, t, A.frz _ _ _ h1, h2, h3⟩
theorem ClO.ext (A : Ext m H m' H') {cl : List (Str × Addr)} {fr : List Str} {cvs : List V} (h : ClO H cl fr cvs) : ClO H' cl fr cvs :=
  ⟨h.len, h.dom, h.inj, fun i y e => by
    obtain ⟨k, ok, uv, v, h1, h2, h3, h4⟩ := h.at_ i y e
    exact ⟨k, ok, uv, v, h1, h2, A.frz _ _ _ h3, h4⟩⟩
theorem LamP.ext (A : Ext m H m' H') {a : Addr} {L : LamA} {caps : List W} (h : LamP K m H a L caps) : LamP K m' H' a L caps := by
  obtain ⟨cl, c, pm, ctv, cvs, h1, h2, h3, h4⟩ := h
  exact ⟨cl, c, pm, ctv, cvs, A.frz _ _ _ h1, h2.ext A, h3.ext A, h4.ext A⟩
theorem TabP.ext (A : Ext m H m' H') {P : Addr} {q : Str} (h : TabP H P q) (e : H' P = H P) : TabP H' P q := by
  obtain ⟨ps, h1, h2, h3⟩ := h
  refine ⟨ps, by rw [e]; exact h1, h2, fun pos cv hc => ?_⟩
  obtain ⟨c, e1, e2⟩ := h3 pos cv hc
  exact ⟨c, e1, e2.ext A⟩
def OR (K : PySem.W.Frag) (m : List Addr) (H : Hp) (a : Addr) : O → Prop
  | .lst ws => ∃ vs, H a = some (.lst vs) ∧ RL K m H ws vs
  | .dct kvs => ∃ vs, H a = some (.dK vs) ∧ RK K m H kvs vs
  | .dtt kvs => ∃ vs, H a = some (.dT vs) ∧ RKT K m H kvs vs
  | .lam A caps => LamP K m H a A caps
  | .tab P q => a = P ∧ TabP H P q
  | .dead => ∃ o, H a = some (.frz o (.own 0)) ∧ ∀ v, o.data ≠ .cell v
  | .frd kvs => ∃ o vs, H a = some (.frz o (.dK vs)) ∧ RK K m H kvs vs
  | .ins c fs => ∃ C dx vs, H a = some (.ins C dx vs) ∧ PySem.W.nsIn K mainGlobals c = some (some (.ref C)) ∧ RF K m H fs vs
structure SR (K : PySem.W.Frag) (m : List Addr) (H : Hp) (st : Sto) : Prop where
  len : m.length = st.length
  nd : m.Nodup
  ok : ∀ (n : Nat) (a : Addr) (o : O), m[n]? = some a → st[n]? = some o → OR K m H a o
def hoOk : O → HO → Prop
  | .lst _, .lst _ => True
  | .dct _, .dK _ => True
  | _, _ => False
theorem SR.at {st : Sto} (S : SR K m H st) {n : Nat} {o : O} (h : st[n]? = some o) : ∃ a, m[n]? = some a ∧ OR K m H a o := by
  have hl : n < m.length := by rw [S.len]; exact (List.getElem?_eq_some_iff.mp h).1
  exact ⟨m[n], List.getElem?_eq_getElem hl, S.ok n _ o (List.getElem?_eq_getElem hl) h⟩
theorem SR.there {st : Sto} (S : SR K m H st) {a : Addr} (h : a ∈ m) : ∃ u, H a = some u ∧ ((∃ vs, u = .lst vs) ∨ (∃ vs, u = .dK vs) ∨ (∃ o x, u = .frz o x) ∨ (∃ ps, u = .tbl ps) ∨ (∃ vs, u = .dT vs) ∨ ∃ C dx vs, u = .ins C dx vs) := by
  obtain ⟨n, hn, rfl⟩ := List.mem_iff_getElem.mp h
  have hl : n < st.length := by rw [← S.len]; exact hn
  have q := S.ok n m[n] st[n] (List.getElem?_eq_getElem hn) (List.getElem?_eq_getElem hl)
  cases e : st[n] with
  | lst ws => rw [e] at q; obtain ⟨vs, q, _⟩ := q; exact ⟨_, q, .inl ⟨_, rfl⟩⟩
  | dct ws => rw [e] at q; obtain ⟨vs, q, _⟩ := q; exact ⟨_, q, .inr (.inl ⟨_, rfl⟩)⟩
  | lam A caps => rw [e] at q; obtain ⟨cl, c, pm, ctv, cvs, q, _⟩ := q; exact ⟨_, q, .inr (.inr (.inl ⟨_, _, rfl⟩))⟩
  | tab P qn => rw [e] at q; obtain ⟨e1, ps, q, _⟩ := q; rw [e1]; exact ⟨_, q, .inr (.inr (.inr (.inl ⟨_, rfl⟩)))⟩
  | dtt ws => rw [e] at q; obtain ⟨vs, q, _⟩ := q; exact ⟨_, q, .inr (.inr (.inr (.inr (.inl ⟨_, rfl⟩))))⟩
  | ins c fs => rw [e] at q; obtain ⟨C, dx, vs, q, _⟩ := q; exact ⟨_, q, .inr (.inr (.inr (.inr (.inr ⟨_, _, _, rfl⟩))))⟩
  | dead => rw [e] at q; obtain ⟨o, q, _⟩ := q; exact ⟨_, q, .inr (.inr (.inl ⟨_, _, rfl⟩))⟩
  | frd kvs => rw [e] at q; obtain ⟨o, vs, q, _⟩ := q; exact ⟨_, q, .inr (.inr (.inl ⟨_, _, rfl⟩))⟩
theorem OR.ext (A : Ext m H m' H') {a : Addr} {o : O} (h : OR K m H a o) (e : H' a = H a) : OR K m' H' a o := by
  cases o with
  | lst ws => obtain ⟨vs, q, r⟩ := h; exact ⟨vs, by rw [e]; exact q, r.ext A⟩
  | dct ws => obtain ⟨vs, q, r⟩ := h; exact ⟨vs, by rw [e]; exact q, r.ext A⟩
  | dtt ws => obtain ⟨vs, q, r⟩ := h; exact ⟨vs, by rw [e]; exact q, r.ext A⟩
  | lam L caps => exact LamP.ext A h
  | tab P q => obtain ⟨e1, t⟩ := h; subst e1; exact ⟨rfl, t.ext A e⟩
  | dead => obtain ⟨o, q, n⟩ := h; exact ⟨o, by rw [e]; exact q, n⟩
  | frd kvs => obtain ⟨o, vs, q, r⟩ := h; exact ⟨o, vs, by rw [e]; exact q, r.ext A⟩
  | ins c fs => obtain ⟨C, dx, vs, q, n, r⟩ := h; exact ⟨C, dx, vs, by rw [e]; exact q, n, r.ext A⟩
theorem OR.adv (A : Adv m H m' H') {a : Addr} {o : O} (h : OR K m H a o) (e : H' a = H a) : OR K m' H' a o := h.ext A.ext e
theorem Ext.join (D : Addr) : Ext m H (m ++ [D]) H := ⟨⟨[D], rfl⟩, fun _ _ h => h, fun _ _ _ h => h⟩
theorem SR.join {st : Sto} (S : SR K m H st) {p : Addr} {u : O} (hpm : p ∉ m) (h : OR K m H p u) : SR K (m ++ [p]) H (st ++ [u]) := by
  refine ⟨by rw [List.length_append, List.length_append, S.len]; rfl, List.nodup_append.mpr ⟨S.nd, by simp, fun a ha b hb => ?_⟩, fun n a o' h1 h2 => ?_⟩
  · rw [List.mem_singleton.mp hb]
    rintro rfl
    exact hpm ha
  · by_cases hn : n < m.length
    · rw [List.getElem?_append_left hn] at h1
      rw [List.getElem?_append_left (by rw [← S.len]; exact hn)] at h2
      exact (S.ok n a o' h1 h2).ext (Ext.join p) rfl
    · have e : n = m.length := by
        have := (List.getElem?_eq_some_iff.mp h1).1
        rw [List.length_append, List.length_singleton] at this
        omega
      subst e
      rw [List.getElem?_append_right (Nat.le_refl _), Nat.sub_self] at h1
      rw [S.len, List.getElem?_append_right (Nat.le_refl _), Nat.sub_self] at h2
      cases h1
      cases h2
      exact h.ext (Ext.join p) rfl
theorem Ext.off {D : Addr} {xs : List V} {o : HO} (h : H D = some (.lst xs)) : Ext m H m (upd H D o) :=
  ⟨⟨[], by simp⟩, fun a ys e => by rw [upd_ne (ne_of e h (fun z => by cases z))]; exact e, fun a u y e => by rw [upd_ne (ne_of e h (fun z => by cases z))]; exact e⟩
theorem SR.off {st : Sto} (S : SR K m H st) {D : Addr} {xs : List V} {o : HO} (hD : D ∉ m) (h : H D = some (.lst xs)) : SR K m (upd H D o) st :=
  ⟨S.len, S.nd, fun n a u h1 h2 => (S.ok n a u h1 h2).ext (Ext.off h) (upd_ne fun z => hD (by rw [← z]; exact List.mem_of_getElem? h1))⟩
theorem Adv.fresh {p : Addr} {o : HO} (hp : H p = none) : Adv m H m (upd H p o) :=
  ⟨⟨[], by simp⟩, fun a u h _ => by rw [upd_ne (ne_of_none h hp)]; exact h, fun _ h => .inl h, fun a xs h => by rw [upd_ne (ne_of_none h hp)]; exact h, fun a o u h => by rw [upd_ne (ne_of_none h hp)]; exact h⟩
theorem SR.fresh {st : Sto} (S : SR K m H st) {p : Addr} {o : HO} (hp : H p = none) : SR K m (upd H p o) st :=
  ⟨S.len, S.nd, fun n a u h1 h2 => by
    refine (S.ok n a u h1 h2).adv (Adv.fresh hp) ?_
    obtain ⟨u', h, _⟩ := S.there (List.mem_of_getElem? h1)
    rw [upd_ne (ne_of_none h hp)]⟩
theorem Adv.alloc {p : Addr} {o : HO} (hp : H p = none) : Adv m H (m ++ [p]) (upd H p o) :=
  ⟨⟨[p], rfl⟩, fun a u h _ => by rw [upd_ne (ne_of_none h hp)]; exact h, fun a h => by
    rcases List.mem_append.mp h with h | h
    · exact .inl h
    · rw [List.mem_singleton.mp h]; exact .inr hp, fun a xs h => by rw [upd_ne (ne_of_none h hp)]; exact h, fun a o u h => by rw [upd_ne (ne_of_none h hp)]; exact h⟩
theorem SR.alloc {st : Sto} (S : SR K m H st) {p : Addr} {o : HO} {u : O} (hp : H p = none) (h : OR K (m ++ [p]) (upd H p o) p u) : SR K (m ++ [p]) (upd H p o) (st ++ [u]) := by
  have hpm : p ∉ m := fun q => by
    obtain ⟨u, e, _⟩ := S.there q
    rw [hp] at e; cases e
  refine ⟨by rw [List.length_append, List.length_append, S.len]; rfl, List.nodup_append.mpr ⟨S.nd, by simp, fun a ha b hb => ?_⟩, fun n a o' h1 h2 => ?_⟩
  · rw [List.mem_singleton.mp hb]
    rintro rfl
    exact hpm ha
  · by_cases hn : n < m.length
    · rw [List.getElem?_append_left hn] at h1
      rw [List.getElem?_append_left (by rw [← S.len]; exact hn)] at h2
      refine (S.ok n a o' h1 h2).adv (Adv.alloc hp) ?_
      obtain ⟨u', h, _⟩ := S.there (List.mem_of_getElem? h1)
      rw [upd_ne (ne_of_none h hp)]
    · have e : n = m.length := by
        have := (List.getElem?_eq_some_iff.mp h1).1
        rw [List.length_append, List.length_singleton] at this
        omega
      subst e
      rw [List.getElem?_append_right (Nat.le_refl _), Nat.sub_self] at h1
      rw [S.len, List.getElem?_append_right (Nat.le_refl _), Nat.sub_self] at h2
      cases h1
      cases h2
      exact h
theorem alloc_at {st : Sto} (S : SR K m H st) {p : Addr} {H' : Hp} : R K (m ++ [p]) H' (.ref st.length) (.ref p) := by
  refine .ref ?_
  rw [← S.len, List.getElem?_append_right (Nat.le_refl _), Nat.sub_self]
  rfl
def WrK (H : Hp) (a : Addr) : Prop := ∃ u, H a = some u ∧ ((∃ vs, u = .lst vs) ∨ (∃ vs, u = .dK vs))
theorem Adv.write {st : Sto} (S : SR K m H st) {n : Nat} {a : Addr} {o : HO} (h : m[n]? = some a) (wk : WrK H a) : Adv m H m (upd H a o) := by
  have ha := List.mem_of_getElem? h
  obtain ⟨u, e, k⟩ := wk
  refine ⟨⟨[], by simp⟩, fun b u h n => ?_, fun _ h => .inl h, fun b xs h => ?_, fun b o u h => ?_⟩
  · rw [upd_ne (fun z => n (by rw [z]; exact ha))]; exact h
  · rw [upd_ne (fun z => ?_)]
    · exact h
    · rw [z, e] at h
      rcases k with ⟨_, rfl⟩ | ⟨_, rfl⟩ <;> cases h
  · rw [upd_ne (fun z => ?_)]
    · exact h
    · rw [z, e] at h
      rcases k with ⟨_, rfl⟩ | ⟨_, rfl⟩ <;> cases h
theorem SR.write {st : Sto} (S : SR K m H st) {n : Nat} {a : Addr} {o : HO} {u : O} (h : m[n]? = some a) (wk : WrK H a) (hu : OR K m (upd H a o) a u) : SR K m (upd H a o) (st.set n u) := by
  refine ⟨by rw [List.length_set]; exact S.len, S.nd, fun j b o' h1 h2 => ?_⟩
  by_cases e : n = j
  · subst e
    rw [h] at h1
    cases h1
    have hl : n < st.length := by rw [← S.len]; exact (List.getElem?_eq_some_iff.mp h).1
    rw [List.getElem?_set_self hl] at h2
    cases h2
    exact hu
  · rw [List.getElem?_set_ne e] at h2
    have hne : b ≠ a := fun z => by
      subst z
      obtain ⟨l1, e1⟩ := List.getElem?_eq_some_iff.mp h
      obtain ⟨l2, e2⟩ := List.getElem?_eq_some_iff.mp h1
      exact e ((List.getElem_inj S.nd).mp (e1.trans e2.symm))
    exact (S.ok j b o' h1 h2).adv (Adv.write S h wk) (upd_ne hne)
def EQ (K : PySem.W.Frag) (m : List Addr) (H : Hp) : Option W → Option V → Prop
  | some w, some v => R K m H w v
  | none, _ => True
  | some _, none => False
inductive ER (K : PySem.W.Frag) (m : List Addr) (H : Hp) : EnvM → List (Option V) → Prop
  | nil : ER K m H [] []
  | cons {x : Option W} {y : Option V} {ρ : EnvM} {σ : List (Option V)} : EQ K m H x y → ER K m H ρ σ → ER K m H (x :: ρ) (y :: σ)
theorem EQ.adv (A : Adv m H m' H') : ∀ {x : Option W} {y : Option V}, EQ K m H x y → EQ K m' H' x y
  | some _, some _, h => R.adv A h
  | none, _, _ => trivial
  | some _, none, h => h
theorem ER.adv (A : Adv m H m' H') : ∀ {ρ : EnvM} {σ : List (Option V)}, ER K m H ρ σ → ER K m' H' ρ σ
  | _, _, .nil => .nil
  | _, _, .cons h t => .cons (h.adv A) (t.adv A)
theorem ER.get : ∀ {ρ : EnvM} {σ : List (Option V)} {i : Nat} {w : W}, ER K m H ρ σ → ρ[i]? = some (some w) → ∃ v, σ[i]? = some (some v) ∧ R K m H w v
  | _, _, _, _, .nil, e => by cases e
  | _, _, 0, w, .cons (x := x) (y := y) h t, e => by
    cases e
    cases y with
    | none => exact False.elim h
    | some v => exact ⟨v, rfl, h⟩
  | _, _, i + 1, w, .cons h t, e => ER.get (i := i) t e
theorem ER.set : ∀ {ρ : EnvM} {σ : List (Option V)} (i : Nat) {w : W} {v : V}, ER K m H ρ σ → R K m H w v → ER K m H (ρ.set i (some w)) (σ.set i (some v))
  | _, _, _, _, _, .nil, r => .nil
  | _, _, 0, w, _, .cons h t, r => .cons r t
  | _, _, i + 1, w, _, .cons h t, r => .cons h (ER.set i t r)
theorem ER.forget : ∀ {ρ : EnvM} {σ : List (Option V)} (i : Nat), ER K m H ρ σ → ER K m H (ρ.set i none) (σ.set i none)
  | _, _, _, .nil => .nil
  | _, _, 0, .cons h t => .cons trivial t
  | _, _, i + 1, .cons h t => .cons h (ER.forget i t)
theorem ER.len : ∀ {ρ : EnvM} {σ : List (Option V)}, ER K m H ρ σ → ρ.length = σ.length
  | _, _, .nil => rfl
  | _, _, .cons h t => by rw [List.length_cons, List.length_cons, ER.len t]
theorem ER.nones (n : Nat) : ER K m H (List.replicate n none) (List.replicate n none) := by
  induction n with
  | zero => exact .nil
  | succ n ih => exact .cons trivial ih
theorem ER.app : ∀ {ρ ρ' : EnvM} {σ σ' : List (Option V)}, ER K m H ρ σ → ER K m H ρ' σ' → ER K m H (ρ ++ ρ') (σ ++ σ')
  | _, _, _, _, .nil, g => g
  | _, _, _, _, .cons h t, g => .cons h (ER.app t g)
theorem RL.env : ∀ {ws : List W} {vs : List V}, RL K m H ws vs → ER K m H (ws.map some) (vs.map some)
  | [], _, h => by cases h; exact .nil
  | w :: ws, _, h => by
    cases h with
    | cons h1 h2 => exact .cons h1 (RL.env h2)
end
end Mir

set_option Elab.async false
set_option linter.all false
set_option maxRecDepth 100000
namespace Mir
open PySem PySem.Spec PyProof.Rows L2

abbrev Rz (α : Type) := Option (α × Sto)
def bd {α β : Type} (x : Rz α) (f : α → Sto → Rz β) : Rz β := match x with
  | some (a, s) => f a s
  | none => none
theorem bd_some {α β : Type} {a : α} {s : Sto} {f : α → Sto → Rz β} : bd (some (a, s)) f = f a s := rfl
theorem bd_none {α β : Type} {f : α → Sto → Rz β} : bd (none : Rz α) f = none := rfl
theorem bd_inv {α β : Type} {x : Rz α} {f : α → Sto → Rz β} {r : β × Sto} (h : bd x f = some r) : ∃ a s, x = some (a, s) ∧ f a s = some r := by
  cases x with
  | none => cases h
  | some p => exact ⟨p.1, p.2, rfl, h⟩
abbrev FE := EnvM → Sto → Rz W
abbrev FT := EnvM → Sto → Rz Bool
abbrev FA := EnvM → Sto → Rz (List W)
abbrev FP := EnvM → Sto → Rz (Option Int)
inductive Out where
  | nx (ρ : EnvM)
  | rt (w : W)
  | bk (ρ : EnvM)
  | ct (ρ : EnvM)
abbrev FS := EnvM → Sto → Rz Out

def wE (K : PySem.W.Frag) (m : List Addr) (H : Hp) (r : Rz W) (Q : VK) : Prop := ∃ w s, r = some (w, s) ∧ ∀ m' H' v, Adv m H m' H' → SR K m' H' s → R K m' H' w v → Q v H'
def wT (K : PySem.W.Frag) (m : List Addr) (H : Hp) (r : Rz Bool) (Q : Bool → Hp → Prop) : Prop := ∃ b s, r = some (b, s) ∧ ∀ m' H', Adv m H m' H' → SR K m' H' s → Q b H'
def wA (K : PySem.W.Frag) (m : List Addr) (H : Hp) (r : Rz (List W)) (Q : List V → Hp → Prop) : Prop := ∃ ws s, r = some (ws, s) ∧ ∀ m' H' vs, Adv m H m' H' → SR K m' H' s → RL K m' H' ws vs → Q vs H'
def wP (K : PySem.W.Frag) (m : List Addr) (H : Hp) (r : Rz (Option Int)) (Q : Option Int → Hp → Prop) : Prop := ∃ i s, r = some (i, s) ∧ ∀ m' H', Adv m H m' H' → SR K m' H' s → Q i H'
def outE (K : PySem.W.Frag) (m : List Addr) (H : Hp) (s : Sto) (D : Ends) : Out → Prop
  | .nx ρ => ∀ m' H' σ', Adv m H m' H' → SR K m' H' s → ER K m' H' ρ σ' → D.nx σ' H'
  | .bk ρ => ∀ m' H' σ', Adv m H m' H' → SR K m' H' s → ER K m' H' ρ σ' → D.bk σ' H'
  | .ct ρ => ∀ m' H' σ', Adv m H m' H' → SR K m' H' s → ER K m' H' ρ σ' → D.ct σ' H'
  | .rt w => ∀ m' H' v, Adv m H m' H' → SR K m' H' s → R K m' H' w v → D.rt v H'
def wS (K : PySem.W.Frag) (m : List Addr) (H : Hp) (r : Rz Out) (D : Ends) : Prop := ∃ o s, r = some (o, s) ∧ outE K m H s D o
def tF (K : PySem.W.Frag) (f : FE) : TE := fun σ H Q => ∃ m ρ s, ER K m H ρ σ ∧ SR K m H s ∧ wE K m H (f ρ s) Q
def tT (K : PySem.W.Frag) (f : FT) : TT := fun σ H Q => ∃ m ρ s, ER K m H ρ σ ∧ SR K m H s ∧ wT K m H (f ρ s) Q
def tA (K : PySem.W.Frag) (f : FA) : TA := fun σ H Q => ∃ m ρ s, ER K m H ρ σ ∧ SR K m H s ∧ wA K m H (f ρ s) Q
def tP (K : PySem.W.Frag) (f : FP) : TO := fun σ H Q => ∃ m ρ s, ER K m H ρ σ ∧ SR K m H s ∧ wP K m H (f ρ s) Q
def tS (K : PySem.W.Frag) (f : FS) : TS := fun D σ H => ∃ m ρ s, ER K m H ρ σ ∧ SR K m H s ∧ wS K m H (f ρ s) D
def OpF (K : PySem.W.Frag) (r : R2) (g : W → W → Sto → Rz W) : Prop := ∀ m H s x y v u Q, SR K m H s → R K m H x v → R K m H y u → wE K m H (g x y s) Q → r v u H Q
def UnF (K : PySem.W.Frag) (r : V → Hp → VK → Prop) (g : W → Sto → Rz W) : Prop := ∀ m H s x v Q, SR K m H s → R K m H x v → wE K m H (g x s) Q → r v H Q
def CallF (K : PySem.W.Frag) (r : List V → Hp → VK → Prop) (g : List W → Sto → Rz W) : Prop := ∀ m H s ws vs Q, SR K m H s → RL K m H ws vs → wE K m H (g ws s) Q → r vs H Q
def MtF (K : PySem.W.Frag) (r : V → List V → Hp → VK → Prop) (g : W → List W → Sto → Rz W) : Prop := ∀ m H s x v ws vs Q, SR K m H s → R K m H x v → RL K m H ws vs → wE K m H (g x ws s) Q → r v vs H Q
def SlF (K : PySem.W.Frag) (r : V → Option Int → Option Int → Hp → VK → Prop) (g : W → Option Int → Option Int → Sto → Rz W) : Prop := ∀ m H s x v lo hi Q, SR K m H s → R K m H x v → wE K m H (g x lo hi s) Q → r v lo hi H Q

section
variable {X : Cx}
theorem _root_.L2.PE.imp {e : Expr} {t t' : TE} (h : PE X e t) (q : ∀ σ H Q, t' σ H Q → t σ H Q) : PE X e t' := ⟨fun pins s σ H Q I r => h.run pins s σ H Q I (q _ _ _ r)⟩
theorem _root_.L2.PT.imp {e : Expr} {t t' : TT} (h : PT X e t) (q : ∀ σ H Q, t' σ H Q → t σ H Q) : PT X e t' := ⟨fun pins s σ H Q I r => h.run pins s σ H Q I (q _ _ _ r)⟩
theorem _root_.L2.PW.imp {e : Expr} {t t' : TT} (h : PW X e t) (q : ∀ σ H Q, t' σ H Q → t σ H Q) : PW X e t' := ⟨fun whole pins s σ H Q I r => h.run whole pins s σ H Q I (q _ _ _ r)⟩
theorem _root_.L2.PA.imp {e : List Expr} {t t' : TA} (h : PA X e t) (q : ∀ σ H Q, t' σ H Q → t σ H Q) : PA X e t' := ⟨fun pos pins s σ H Q I r => h.run pos pins s σ H Q I (q _ _ _ r)⟩
theorem _root_.L2.PS.imp {st : Stmt} {t t' : TS} (h : PS X st t) (q : ∀ D σ H, t' D σ H → t D σ H) : PS X st t' := ⟨fun pins s σ H D I r => h.run pins s σ H D I (q _ _ _ r)⟩
theorem _root_.L2.PSs.imp {st : List Stmt} {t t' : TS} (h : PSs X st t) (q : ∀ D σ H, t' D σ H → t D σ H) : PSs X st t' := ⟨fun pins s σ H D I r => h.run pins s σ H D I (q _ _ _ r)⟩
theorem _root_.L2.PO.imp {e : Option Expr} {t t' : TO} (h : PO X e t) (q : ∀ σ H Q, t' σ H Q → t σ H Q) : PO X e t' := by
  cases h with
  | mk run => exact ⟨fun pins s σ H Q I r => run pins s σ H Q I (q _ _ _ r)⟩
theorem wE.adv {K : PySem.W.Frag} {m m1 : List Addr} {H H1 : Hp} {r : Rz W} {Q : VK} (h : wE K m H r Q) (A : Adv m H m1 H1) : wE K m1 H1 r Q := by
  obtain ⟨w, s, e, q⟩ := h
  exact ⟨w, s, e, fun m' H' v A' => q m' H' v (A.trans A')⟩
theorem wT.adv {K : PySem.W.Frag} {m m1 : List Addr} {H H1 : Hp} {r : Rz Bool} {Q : Bool → Hp → Prop} (h : wT K m H r Q) (A : Adv m H m1 H1) : wT K m1 H1 r Q := by
  obtain ⟨w, s, e, q⟩ := h
  exact ⟨w, s, e, fun m' H' A' => q m' H' (A.trans A')⟩
theorem wA.adv {K : PySem.W.Frag} {m m1 : List Addr} {H H1 : Hp} {r : Rz (List W)} {Q : List V → Hp → Prop} (h : wA K m H r Q) (A : Adv m H m1 H1) : wA K m1 H1 r Q := by
  obtain ⟨w, s, e, q⟩ := h
  exact ⟨w, s, e, fun m' H' v A' => q m' H' v (A.trans A')⟩
theorem outE.adv {K : PySem.W.Frag} {m m1 : List Addr} {H H1 : Hp} {s : Sto} {D : Ends} {o : Out} (h : outE K m H s D o) (A : Adv m H m1 H1) : outE K m1 H1 s D o := by
  cases o with
  | nx ρ => exact fun m' H' σ' A' => h m' H' σ' (A.trans A')
  | bk ρ => exact fun m' H' σ' A' => h m' H' σ' (A.trans A')
  | ct ρ => exact fun m' H' σ' A' => h m' H' σ' (A.trans A')
  | rt w => exact fun m' H' σ' A' => h m' H' σ' (A.trans A')
theorem wS.adv {K : PySem.W.Frag} {m m1 : List Addr} {H H1 : Hp} {r : Rz Out} {D : Ends} (h : wS K m H r D) (A : Adv m H m1 H1) : wS K m1 H1 r D := by
  obtain ⟨o, s, e, q⟩ := h
  exact ⟨o, s, e, q.adv A⟩
def eVar (i : Nat) : FE := fun ρ s => match ρ[i]? with
  | some (some w) => some (w, s)
  | _ => none
def eC (w : W) : FE := fun _ s => some (w, s)
theorem eVar_inv {i : Nat} {ρ : EnvM} {s : Sto} {r : W × Sto} (h : eVar i ρ s = some r) : ρ[i]? = some (some r.1) ∧ s = r.2 := by
  unfold eVar at h
  cases e : ρ[i]? with
  | none => rw [e] at h; cases h
  | some o =>
    cases o with
    | none => rw [e] at h; cases h
    | some w => rw [e] at h; cases h; exact ⟨rfl, rfl⟩
variable {e a b : Expr} {es : List Expr} {pos : Pos}
theorem m_var (i : Nat) {x : Str} (hN : X.N[i]? = some x := by rfl) (hv : Vis X.env.scope x := by first | exact Or.inl rfl | exact Or.inr (Or.inl rfl) | exact Or.inr (Or.inr rfl)) (hd : (x == ("__debug__" : Str)) = false := by decide)
    (hcd : (x == ("__classdict__" : Str)) = false := by decide) : PE X (.Name x pos) (tF X.K (eVar i)) := (pe_var hN hv hd hcd).imp fun σ H Q ⟨m, ρ, s, er, sr, w, s', h, q⟩ => by
  obtain ⟨h1, h2⟩ := eVar_inv h
  obtain ⟨v, hv, r⟩ := er.get h1
  have h2 : s = s' := h2
  subst h2
  exact ⟨v, hv, q m H v (Adv.refl m H) sr r⟩
theorem m_c {v : V} {w : W} (h : PE X e (tC v)) (r : ∀ m H, R X.K m H w v) : PE X e (tF X.K (eC w)) := h.imp fun σ H Q ⟨m, ρ, s, er, sr, w', s', e', q⟩ => by
  cases e'
  exact q m H v (Adv.refl m H) sr (r m H)
theorem m_int {i j} : PE X (.Constant (.int i) j pos) (tF X.K (eC (.int i))) := m_c pe_int fun _ _ => .int _
theorem m_bl {i j} : PE X (.Constant (.bool i) j pos) (tF X.K (eC (.bl i))) := m_c pe_bl fun _ _ => .bl _
def eOp (g : W → W → Sto → Rz W) (a b : FE) : FE := fun ρ s => bd (a ρ s) fun x s1 => bd (b ρ s1) fun y s2 => g x y s2
def eUn (g : W → Sto → Rz W) (a : FE) : FE := fun ρ s => bd (a ρ s) fun x s1 => g x s1
def aNil : FA := fun _ s => some ([], s)
def aCons (a : FE) (r : FA) : FA := fun ρ s => bd (a ρ s) fun x s1 => bd (r ρ s1) fun xs s2 => some (x :: xs, s2)
def eFn (g : List W → Sto → Rz W) (a : FA) : FE := fun ρ s => bd (a ρ s) fun xs s1 => g xs s1
def eMt (c : W → Sto → Bool) (g : W → List W → Sto → Rz W) (o : FE) (a : FA) : FE := fun ρ s => bd (o ρ s) fun x s1 => if c x s1 = true then bd (a ρ s1) fun xs s2 => g x xs s2 else none
theorem tF_op {K : PySem.W.Frag} {r : R2} {g : W → W → Sto → Rz W} {fa fb : FE} (hg : OpF K r g) : ∀ σ H Q, tF K (eOp g fa fb) σ H Q → tOp r (tF K fa) (tF K fb) σ H Q := by
  rintro σ H Q ⟨m, ρ, s, er, sr, w, s', e, q⟩
  obtain ⟨x, s1, e1, e⟩ := bd_inv e
  obtain ⟨y, s2, e2, e⟩ := bd_inv e
  exact ⟨m, ρ, s, er, sr, x, s1, e1, fun m1 H1 v A1 S1 r1 => ⟨m1, ρ, s1, er.adv A1, S1, y, s2, e2, fun m2 H2 u A2 S2 r2 =>
    hg m2 H2 s2 x y v u Q S2 (r1.adv A2) r2 ⟨w, s', e, fun m3 H3 z A3 => q m3 H3 z ((A1.trans A2).trans A3)⟩⟩⟩
theorem tF_un {K : PySem.W.Frag} {r : V → Hp → VK → Prop} {g : W → Sto → Rz W} {fa : FE} (hg : UnF K r g) : ∀ σ H Q, tF K (eUn g fa) σ H Q → tUn r (tF K fa) σ H Q := by
  rintro σ H Q ⟨m, ρ, s, er, sr, w, s', e, q⟩
  obtain ⟨x, s1, e1, e⟩ := bd_inv e
  exact ⟨m, ρ, s, er, sr, x, s1, e1, fun m1 H1 v A1 S1 r1 => hg m1 H1 s1 x v Q S1 r1 ⟨w, s', e, fun m3 H3 z A3 => q m3 H3 z (A1.trans A3)⟩⟩
theorem tF_fn {K : PySem.W.Frag} {r : List V → Hp → VK → Prop} {g : List W → Sto → Rz W} {fa : FA} (hg : CallF K r g) : ∀ σ H Q, tF K (eFn g fa) σ H Q → (fun σ H Q => tA K fa σ H fun vs H1 => r vs H1 Q : TE) σ H Q := by
  rintro σ H Q ⟨m, ρ, s, er, sr, w, s', e, q⟩
  obtain ⟨x, s1, e1, e⟩ := bd_inv e
  exact ⟨m, ρ, s, er, sr, x, s1, e1, fun m1 H1 v A1 S1 r1 => hg m1 H1 s1 x v Q S1 r1 ⟨w, s', e, fun m3 H3 z A3 => q m3 H3 z (A1.trans A3)⟩⟩
theorem m_op {op : Operator} {r : R2} {g : W → W → Sto → Rz W} {fa fb : FE} (ho : OpR X (binaryOp op) r) (hg : OpF X.K r g) (ha : PE X a (tF X.K fa)) (hb : PE X b (tF X.K fb)) : PE X (.BinOp a op b pos) (tF X.K (eOp g fa fb)) := (pe_op ho ha hb).imp (tF_op hg)
theorem m_un {op : UnaryOp} {r : V → Hp → VK → Prop} {g : W → Sto → Rz W} {fa : FE} (ho : UnR X (unaryOp op) r) (hg : UnF X.K r g) (ha : PE X a (tF X.K fa)) : PE X (.UnaryOp op a pos) (tF X.K (eUn g fa)) := (pe_un ho ha).imp (tF_un hg)
theorem m_ix {r : R2} {g : W → W → Sto → Rz W} {fa fb : FE} (hr : IxR X r) (hg : OpF X.K r g) (ha : PE X a (tF X.K fa)) (hb : PE X b (tF X.K fb)) (hs : PlainIx b) : PE X (.Subscript a b pos) (tF X.K (eOp g fa fb)) := (pe_ix hr ha hb hs).imp (tF_op hg)
theorem m_cmp {op : CmpOp} {r : R2} {g : W → W → Sto → Rz W} {fa fb : FE} (ho : OpR X (compareOp op) r) (hg : OpF X.K r g) (ha : PE X a (tF X.K fa)) (hb : PE X b (tF X.K fb)) (hm : behindInMarks op b = false) : PE X (.Compare a [op] [b] pos) (tF X.K (eOp g fa fb)) :=
  (pe_cmpR ho ha hb hm).imp (tF_op hg)
theorem ma_nil : PA X [] (tA X.K aNil) := pa_nil.imp fun σ H Q ⟨m, ρ, s, er, sr, ws, s', e, q⟩ => by
  cases e
  exact q m H [] (Adv.refl m H) sr .nil
theorem ma_cons {fa : FE} {fr : FA} (ha : PE X e (tF X.K fa)) (hr : PA X es (tA X.K fr)) (hs : starEach (e :: es) X.env = (false, eval e X.env) :: starEach es X.env := by rfl) : PA X (e :: es) (tA X.K (aCons fa fr)) :=
  (pa_cons ha hr hs).imp fun σ H Q ⟨m, ρ, s, er, sr, ws, s', e, q⟩ => by
    obtain ⟨x, s1, e1, e⟩ := bd_inv e
    obtain ⟨y, s2, e2, e⟩ := bd_inv e
    cases e
    exact ⟨m, ρ, s, er, sr, x, s1, e1, fun m1 H1 v A1 S1 r1 => ⟨m1, ρ, s1, er.adv A1, S1, y, _, e2, fun m2 H2 u A2 S2 r2 => q m2 H2 (v :: u) (A1.trans A2) S2 (.cons (r1.adv A2) r2)⟩⟩
def seqOf (x : W) (s : Sto) : Option (List W) := match x with
  | .tup ws => some ws
  | .lro ws => some ws
  | .ref n => match s[n]? with
    | some (.lst ws) => some ws
    | _ => none
  | _ => none
theorem seq_of {K : PySem.W.Frag} {m : List Addr} {H : Hp} {s : Sto} {x : W} {v : V} {ws : List W} (S : SR K m H s) (r : R K m H x v) (h : seqOf x s = some ws) : ∃ p vs, v = .ref p ∧ (SqT K H p vs ∨ SqL K H p vs) ∧ RL K m H ws vs := by
  cases r with
  | non => cases h
  | bl => cases h
  | int => cases h
  | str => cases h
  | fn => cases h
  | xob => cases h
  | tup h1 h2 => cases h; exact ⟨_, _, rfl, .inl h1.sq, h2⟩
  | lro h1 h2 => cases h; exact ⟨_, _, rfl, .inr h1.sq, h2⟩
  | @ref n a h1 =>
    cases e : s[n]? with
    | none => simp only [seqOf, e] at h; cases h
    | some o =>
      cases o with
      | dct _ => simp only [seqOf, e] at h; cases h
      | dtt _ => simp only [seqOf, e] at h; cases h
      | lam _ _ => simp only [seqOf, e] at h; cases h
      | tab _ _ => simp only [seqOf, e] at h; cases h
      | dead => simp only [seqOf, e] at h; cases h
      | frd _ => simp only [seqOf, e] at h; cases h
      | ins _ _ => simp only [seqOf, e] at h; cases h
      | lst ws' =>
        simp only [seqOf, e] at h
        cases h
        obtain ⟨a', h2, vs, h3, h4⟩ := S.at e
        rw [h1] at h2
        cases h2
        exact ⟨_, _, rfl, .inr (SqL.of h3), h4⟩
def aStar (a : FE) (r : FA) : FA := fun ρ s => bd (a ρ s) fun x s1 => match seqOf x s1 with
  | some ws => bd (r ρ s1) fun xs s2 => some (ws ++ xs, s2)
  | none => none
theorem ma_star {p : Pos} {fa : FE} {fr : FA} (ha : PE X e (tF X.K fa)) (hr : PA X es (tA X.K fr)) (hs : starEach (.Starred e p :: es) X.env = (true, eval e X.env) :: starEach es X.env := by rfl) : PA X (.Starred e p :: es) (tA X.K (aStar fa fr)) :=
  (StX.pa_star ha hr hs).imp fun σ H Q ⟨m, ρ, s, er, sr, ws, s', e, q⟩ => by
    obtain ⟨x, s1, e1, e⟩ := bd_inv e
    cases es : seqOf x s1 with
    | none => rw [es] at e; cases e
    | some zs =>
      rw [es] at e
      obtain ⟨y, s2, e2, e⟩ := bd_inv e
      cases e
      refine ⟨m, ρ, s, er, sr, x, s1, e1, fun m1 H1 v A1 S1 r1 => ?_⟩
      obtain ⟨p, vs, e3, h3, r3⟩ := seq_of S1 r1 es
      exact ⟨p, vs, e3, h3, m1, ρ, s1, er.adv A1, S1, y, _, e2, fun m2 H2 u A2 S2 r2 => q m2 H2 (vs ++ u) (A1.trans A2) S2 ((r3.adv A2).app r2)⟩
theorem m_callB {id : String} {x : Str} {p : Pos} {r : List V → Hp → VK → Prop} {g : List W → Sto → Rz W} {fa : FA} (hc : CallR X (.builtin id) r) (hg' : CallF X.K r g) (hg : Gl X x) (hm : X.mg x = none) (hv : bootBuiltins x = some (.builtin id)) (ha : PA X (e :: es) (tA X.K fa)) (hn : x ≠ "__name__" := by decide) (hdb : (x == ("__debug__" : Str)) = false := by decide)
    (he : starEach (e :: es) X.env = (false, eval e X.env) :: starEach es X.env := by rfl) (hpl : (backTo pos (starEach es X.env)).any (·.1) = false := by rfl) : PE X (.Call (.Name x p) (e :: es) [] pos) (tF X.K (eFn g fa)) := (pe_callB hc hg hm hv ha hn hdb he hpl).imp (tF_fn hg')
theorem m_callTy {T : String} {x : Str} {p : Pos} {r : List V → Hp → VK → Prop} {g : List W → Sto → Rz W} {fa : FA} (hc : CallR X (.type T) r) (hg' : CallF X.K r g) (hg : Gl X x) (hm : X.mg x = none) (hv : bootBuiltins x = some (.type T)) (ha : PA X (e :: es) (tA X.K fa)) (hn : x ≠ "__name__" := by decide) (hdb : (x == ("__debug__" : Str)) = false := by decide)
    (he : starEach (e :: es) X.env = (false, eval e X.env) :: starEach es X.env := by rfl) (hpl : (backTo pos (starEach es X.env)).any (·.1) = false := by rfl) : PE X (.Call (.Name x p) (e :: es) [] pos) (tF X.K (eFn g fa)) := (pe_callTy hc hg hm hv ha hn hdb he hpl).imp (tF_fn hg')
end
end Mir

set_option Elab.async false
set_option linter.all false
set_option maxRecDepth 100000
namespace Mir
open PySem PySem.Spec PyProof.Rows L2
section
variable {X : Cx} {e a b c : Expr} {es : List Expr} {pos : Pos}
def bTest (f : FE) : FT := fun ρ s => bd (f ρ s) fun x s1 => match x with
  | .bl k => some (k, s1)
  | _ => none
theorem tT_test {K : PySem.W.Frag} {f : FE} : ∀ σ H Q, tT K (bTest f) σ H Q → (tF K f) σ H fun x H' => ∃ k, x = .bl k ∧ Q k H' := by
  rintro σ H Q ⟨m, ρ, s, er, sr, k, s', e, q⟩
  obtain ⟨x, s1, e1, e⟩ := bd_inv e
  cases x with
  | bl k' =>
    cases e
    exact ⟨m, ρ, s, er, sr, _, _, e1, fun m1 H1 v A1 S1 r1 => by cases r1; exact ⟨k, rfl, q m1 H1 A1 S1⟩⟩
  | _ => cases e
theorem mt_cmp {op : CmpOp} {r : R2} {g : W → W → Sto → Rz W} {fa fb : FE} (ho : OpR X (compareOp op) r) (hg : OpF X.K r g) (ha : PE X a (tF X.K fa)) (hb : PE X b (tF X.K fb)) (hm : behindInMarks op b = false) : PT X (.Compare a [op] [b] pos) (tT X.K (bTest (eOp g fa fb))) :=
  (pt_cmpR ho ha hb hm).imp fun σ H Q h => tF_op hg σ H _ (tT_test σ H Q h)
def truW (x : W) (s : Sto) : Option Bool := match x with
  | .non => some false
  | .bl b => some b
  | .int i => some (i != 0)
  | .str y => if y.length ≤ sizeLine then some ((y.length : Int) != 0) else none
  | .tup ws => some (!ws.isEmpty)
  | .lro ws => some (!ws.isEmpty)
  | .ref n => match s[n]? with
    | some (.lst ws) => some (!ws.isEmpty)
    | some (.dct kvs) => some (!kvs.isEmpty)
    | _ => none
  | .fn _ => none
  | .xob _ => none
theorem RL.emp {K : PySem.W.Frag} {m : List Addr} {H : Hp} {ws : List W} {vs : List V} (h : RL K m H ws vs) : vs.isEmpty = ws.isEmpty := by cases h <;> rfl
theorem RK.emp {K : PySem.W.Frag} {m : List Addr} {H : Hp} {ws : List (Key × W)} {vs : List (Key × V)} (h : RK K m H ws vs) : vs.isEmpty = ws.isEmpty := by cases h <;> rfl
theorem tru_of {K : PySem.W.Frag} {m : List Addr} {H : Hp} {s : Sto} {x : W} {v : V} {k : Bool} (S : SR K m H s) (r : R K m H x v) (h : truW x s = some k) : TruV K v H k := by
  cases r with
  | non => cases h; rfl
  | bl b => cases h; rfl
  | fn => cases h
  | xob => cases h
  | int i => cases h; rfl
  | str y =>
    simp only [truW] at h
    split at h
    · rename_i hl
      cases h
      exact ⟨hl, rfl⟩
    · cases h
  | tup h1 h2 => cases h; exact .inr (.inl ⟨_, h1.sq, by rw [h2.emp]⟩)
  | lro h1 h2 => cases h; exact .inl ⟨_, h1.sq, by rw [h2.emp]⟩
  | @ref n a h1 =>
    cases e : s[n]? with
    | none => simp only [truW, e] at h; cases h
    | some o =>
      obtain ⟨a', h2, h3⟩ := S.at e
      rw [h1] at h2
      cases h2
      cases o with
      | lst ws =>
        simp only [truW, e] at h
        cases h
        obtain ⟨vs, h3, h4⟩ := h3
        exact .inl ⟨_, SqL.of h3, by rw [h4.emp]⟩
      | dtt _ => simp only [truW, e] at h; cases h
      | dct ws =>
        simp only [truW, e] at h
        cases h
        obtain ⟨vs, h3, h4⟩ := h3
        exact .inr (.inr ⟨_, h3, by rw [h4.emp]⟩)
      | _ => simp only [truW, e] at h; cases h
def bTruth (f : FE) : FT := fun ρ s => bd (f ρ s) fun x s1 => match truW x s1 with
  | some k => some (k, s1)
  | none => none
theorem mt_truth {f : FE} (h : PE X e (tF X.K f)) (he : ∀ whole, isTrue e X.env whole = (do let v ← whole; standAt e.pos; holding [v] (truthy v)) := by intro _; rfl) : PT X e (tT X.K (bTruth f)) :=
  (pt_truth h he).imp fun σ H Q ⟨m, ρ, s, er, sr, k, s', e, q⟩ => by
    obtain ⟨x, s1, e1, e⟩ := bd_inv e
    cases et : truW x s1 with
    | none => simp only [et] at e; cases e
    | some k' =>
      simp only [et] at e
      cases e
      exact ⟨m, ρ, s, er, sr, x, _, e1, fun m1 H1 v A1 S1 r1 => ⟨_, tru_of S1 r1 et, q m1 H1 A1 S1⟩⟩
def bAnd (t u : FT) : FT := fun ρ s => bd (t ρ s) fun k s1 => if k = true then u ρ s1 else some (false, s1)
def bOr (t u : FT) : FT := fun ρ s => bd (t ρ s) fun k s1 => if k = true then some (true, s1) else u ρ s1
def bNot (t : FT) : FT := fun ρ s => bd (t ρ s) fun k s1 => some (!k, s1)

theorem mw_and1 {t : FT} (h : PT X a (tT X.K t)) : PW X (.BoolOp .And [a] pos) (tT X.K t) := pw_and1 h
theorem mw_or1 {t : FT} (h : PT X a (tT X.K t)) : PW X (.BoolOp .Or [a] pos) (tT X.K t) := pw_or1 h
theorem mw_and {t u : FT} {rest : List Expr} (ha : PT X a (tT X.K t)) (hb : PW X (.BoolOp .And (b :: rest) pos) (tT X.K u)) : PW X (.BoolOp .And (a :: b :: rest) pos) (tT X.K (bAnd t u)) :=
  (pw_and ha hb).imp fun σ H Q ⟨m, ρ, s, er, sr, k, s', e, q⟩ => by
    obtain ⟨c, s1, e1, e⟩ := bd_inv e
    refine ⟨m, ρ, s, er, sr, c, s1, e1, fun m1 H1 A1 S1 => ?_⟩
    cases c with
    | true =>
      rw [if_pos rfl] at e ⊢
      exact ⟨m1, ρ, s1, er.adv A1, S1, k, s', e, fun m2 H2 A2 => q m2 H2 (A1.trans A2)⟩
    | false =>
      rw [if_neg Bool.false_ne_true] at e ⊢
      cases e
      exact q m1 H1 A1 S1
theorem mw_or {t u : FT} {rest : List Expr} (ha : PT X a (tT X.K t)) (hb : PW X (.BoolOp .Or (b :: rest) pos) (tT X.K u)) : PW X (.BoolOp .Or (a :: b :: rest) pos) (tT X.K (bOr t u)) :=
  (pw_or ha hb).imp fun σ H Q ⟨m, ρ, s, er, sr, k, s', e, q⟩ => by
    obtain ⟨c, s1, e1, e⟩ := bd_inv e
    refine ⟨m, ρ, s, er, sr, c, s1, e1, fun m1 H1 A1 S1 => ?_⟩
    cases c with
    | false =>
      rw [if_neg Bool.false_ne_true] at e ⊢
      exact ⟨m1, ρ, s1, er.adv A1, S1, k, s', e, fun m2 H2 A2 => q m2 H2 (A1.trans A2)⟩
    | true =>
      rw [if_pos rfl] at e ⊢
      cases e
      exact q m1 H1 A1 S1
theorem mt_not {t : FT} (ha : PT X a (tT X.K t)) : PT X (.UnaryOp .Not a pos) (tT X.K (bNot t)) :=
  (pt_not ha).imp fun σ H Q ⟨m, ρ, s, er, sr, k, s', e, q⟩ => by
    obtain ⟨c, s1, e1, e⟩ := bd_inv e
    cases e
    exact ⟨m, ρ, s, er, sr, c, _, e1, fun m1 H1 A1 S1 => q m1 H1 A1 S1⟩
def eAnd (f g : FE) : FE := fun ρ s => bd (f ρ s) fun x s1 => match truW x s1 with
  | some k => if k = true then g ρ s1 else some (x, s1)
  | none => none
def eOr (f g : FE) : FE := fun ρ s => bd (f ρ s) fun x s1 => match truW x s1 with
  | some k => if k = true then some (x, s1) else g ρ s1
  | none => none
def eNot (f : FE) : FE := fun ρ s => bd (f ρ s) fun x s1 => match truW x s1 with
  | some k => some (.bl (!k), s1)
  | none => none
def eIf (t : FT) (f g : FE) : FE := fun ρ s => bd (t ρ s) fun k s1 => if k = true then f ρ s1 else g ρ s1
theorem m_one {op} {f : FE} (h : PE X a (tF X.K f)) : PE X (.BoolOp op [a] pos) (tF X.K f) := pe_one h
theorem m_and {f g : FE} {rest : List Expr} (ha : PE X a (tF X.K f)) (hb : PE X (.BoolOp .And (b :: rest) pos) (tF X.K g)) : PE X (.BoolOp .And (a :: b :: rest) pos) (tF X.K (eAnd f g)) :=
  (pe_andT ha hb).imp fun σ H Q ⟨m, ρ, s, er, sr, w, s', e, q⟩ => by
    obtain ⟨x, s1, e1, e⟩ := bd_inv e
    refine ⟨m, ρ, s, er, sr, x, s1, e1, fun m1 H1 v A1 S1 r1 => ?_⟩
    cases et : truW x s1 with
    | none => simp only [et] at e; cases e
    | some k =>
      refine ⟨k, tru_of S1 r1 et, ?_⟩
      cases k with
      | true =>
        simp only [et, if_true] at e
        rw [if_pos rfl]
        exact ⟨m1, ρ, s1, er.adv A1, S1, w, s', e, fun m2 H2 v A2 => q m2 H2 v (A1.trans A2)⟩
      | false =>
        simp only [et, Bool.false_eq_true, if_false] at e
        rw [if_neg Bool.false_ne_true]
        cases e
        exact q m1 H1 v A1 S1 r1
theorem m_not {f : FE} (ha : PE X a (tF X.K f)) : PE X (.UnaryOp .Not a pos) (tF X.K (eNot f)) :=
  (pe_notT ha).imp fun σ H Q ⟨m, ρ, s, er, sr, w, s', e, q⟩ => by
    obtain ⟨x, s1, e1, e⟩ := bd_inv e
    refine ⟨m, ρ, s, er, sr, x, s1, e1, fun m1 H1 v A1 S1 r1 => ?_⟩
    cases et : truW x s1 with
    | none => simp only [et] at e; cases e
    | some k =>
      simp only [et] at e
      cases e
      exact ⟨k, tru_of S1 r1 et, q m1 H1 _ A1 S1 (.bl _)⟩
theorem m_if {t : FT} {f g : FE} (hc : PT X c (tT X.K t)) (ha : PE X a (tF X.K f)) (hb : PE X b (tF X.K g)) : PE X (.IfExp c a b pos) (tF X.K (eIf t f g)) :=
  (pe_ifExp hc ha hb).imp fun σ H Q ⟨m, ρ, s, er, sr, w, s', e, q⟩ => by
    obtain ⟨k, s1, e1, e⟩ := bd_inv e
    refine ⟨m, ρ, s, er, sr, k, s1, e1, fun m1 H1 A1 S1 => ?_⟩
    cases k with
    | true =>
      rw [if_pos rfl] at e ⊢
      exact ⟨m1, ρ, s1, er.adv A1, S1, w, s', e, fun m2 H2 v A2 => q m2 H2 v (A1.trans A2)⟩
    | false =>
      rw [if_neg Bool.false_ne_true] at e ⊢
      exact ⟨m1, ρ, s1, er.adv A1, S1, w, s', e, fun m2 H2 v A2 => q m2 H2 v (A1.trans A2)⟩
def eTup (f : FA) : FE := fun ρ s => bd (f ρ s) fun ws s1 => if ws.length ≤ 100000 then some (.tup ws, s1) else none
def eLst (f : FA) : FE := fun ρ s => bd (f ρ s) fun ws s1 => if ws.length ≤ 100000 then some (.ref s1.length, s1 ++ [.lst ws]) else none
theorem szl {n : Nat} (h : n ≤ 100000) : n ≤ sizeLine := Nat.le_trans h (by decide)
theorem szt {n : Nat} (h : n ≤ 100000) : n < sizeLine := Nat.lt_of_le_of_lt h (by decide)
theorem new_tup {K : PySem.W.Frag} {m : List Addr} {H : Hp} {s : Sto} {ws : List W} {vs : List V} {p : Addr} {Q : VK} (S : SR K m H s) (r : RL K m H ws vs) (hp : H p = none) (q : ∀ m' H' v, Adv m H m' H' → SR K m' H' s → R K m' H' (.tup ws) v → Q v H') : Q (.ref p) (upd H p (.tup vs)) :=
  q m _ _ (Adv.fresh hp) (S.fresh hp) (.tup (.inl upd_same) (r.adv (Adv.fresh hp)))
theorem new_lst {K : PySem.W.Frag} {m : List Addr} {H : Hp} {s : Sto} {ws : List W} {vs : List V} {p : Addr} {Q : VK} (S : SR K m H s) (r : RL K m H ws vs) (hp : H p = none) (q : ∀ m' H' v, Adv m H m' H' → SR K m' H' (s ++ [.lst ws]) → R K m' H' (.ref s.length) v → Q v H') : Q (.ref p) (upd H p (.lst vs)) :=
  q (m ++ [p]) _ _ (Adv.alloc hp) (S.alloc hp ⟨vs, upd_same, r.adv (Adv.alloc hp)⟩) (alloc_at S)
theorem m_lst {f : FA} (h : PA X es (tA X.K f)) : PE X (.List es pos) (tF X.K (eLst f)) :=
  (pe_lst h).imp fun σ H Q ⟨m, ρ, s, er, sr, w, s', e, q⟩ => by
    obtain ⟨ws, s1, e1, e⟩ := bd_inv e
    refine ⟨m, ρ, s, er, sr, ws, s1, e1, fun m1 H1 vs A1 S1 r1 => ?_⟩
    split at e
    · rename_i hl
      cases e
      exact ⟨szl (by rw [r1.len]; exact hl), fun p hp => new_lst S1 r1 hp fun m2 H2 v A2 => q m2 H2 v (A1.trans A2)⟩
    · cases e
def eDnew : FE := fun _ s => some (.ref s.length, s ++ [.dct []])
theorem m_dnew : PE X (.Dict [] [] pos) (tF X.K eDnew) :=
  pe_dnewK.imp fun σ H Q ⟨m, ρ, s, er, sr, w, s', e, q⟩ => by
    cases e
    exact fun p hp => q (m ++ [p]) _ _ (Adv.alloc hp) (sr.alloc hp ⟨[], upd_same, .nil⟩) (alloc_at sr)
def pNo : FP := fun _ s => some (none, s)
def pAt (f : FE) : FP := fun ρ s => bd (f ρ s) fun x s1 => match x with
  | .int i => some (some i, s1)
  | _ => none
theorem mp_some {f : FE} (h : PE X e (tF X.K f)) : PO X (some e) (tP X.K (pAt f)) := (po_some h).imp fun σ H Q ⟨m, ρ, s, er, sr, w, s', e, q⟩ => by
  obtain ⟨x, s1, e1, e⟩ := bd_inv e
  refine ⟨m, ρ, s, er, sr, x, s1, e1, fun m1 H1 v A1 S1 r1 => ?_⟩
  cases r1 with
  | int i => cases e; exact ⟨i, rfl, q m1 H1 A1 S1⟩
  | _ => cases e
def eSl (g : W → Option Int → Option Int → Sto → Rz W) (f : FE) (lo hi : FP) : FE := fun ρ s => bd (f ρ s) fun x s1 => bd (lo ρ s1) fun l s2 => bd (hi ρ s2) fun u s3 => g x l u s3
theorem m_slice {r : V → Option Int → Option Int → Hp → VK → Prop} {g : W → Option Int → Option Int → Sto → Rz W} {f : FE} {l u : FP} {lo hi : Option Expr} {p2 : Pos} (hr : SlR X r) (hg : SlF X.K r g) (he : PE X e (tF X.K f)) (hl : PO X lo (tP X.K l)) (hu : PO X hi (tP X.K u)) : PE X (.Subscript e (.Slice lo hi none p2) pos) (tF X.K (eSl g f l u)) :=
  (pe_slice hr he hl hu).imp fun σ H Q ⟨m, ρ, s, er, sr, w, s', e, q⟩ => by
    obtain ⟨x, s1, e1, e⟩ := bd_inv e
    obtain ⟨y, s2, e2, e⟩ := bd_inv e
    obtain ⟨z, s3, e3, e⟩ := bd_inv e
    exact ⟨m, ρ, s, er, sr, x, s1, e1, fun m1 H1 v A1 S1 r1 => ⟨m1, ρ, s1, er.adv A1, S1, y, s2, e2, fun m2 H2 A2 S2 => ⟨m2, ρ, s2, (er.adv A1).adv A2, S2, z, s3, e3, fun m3 H3 A3 S3 =>
      hg m3 H3 s3 x v y z Q S3 ((r1.adv A2).adv A3) ⟨w, s', e, fun m4 H4 v4 A4 => q m4 H4 v4 (((A1.trans A2).trans A3).trans A4)⟩⟩⟩⟩
end
end Mir

set_option Elab.async false
set_option linter.all false
set_option maxRecDepth 100000
namespace Mir
open PySem PySem.Spec PyProof.Rows L2
inductive Tg where
  | name (i : Nat)
  | tup (ts : List Tg)
mutual
def tgT (K : PySem.W.Frag) : Tg → TG
  | .name i => gName i
  | .tup ts => gTup K ts.length (tgTs K ts)
def tgTs (K : PySem.W.Frag) : List Tg → TGs
  | [] => gNil
  | t :: ts => gCons (tgT K t) (tgTs K ts)
end
mutual
def tgM : Tg → W → EnvM → Option EnvM
  | .name i, w, ρ => some (ρ.set i (some w))
  | .tup ts, .tup ws, ρ => tgMs ts ws ρ
  | .tup _, _, _ => none
def tgMs : List Tg → List W → EnvM → Option EnvM
  | [], [], ρ => some ρ
  | t :: ts, w :: ws, ρ => match tgM t w ρ with
    | some ρ' => tgMs ts ws ρ'
    | none => none
  | _, _, _ => none
end
mutual
def Tg.names : Tg → List Nat
  | .name i => [i]
  | .tup ts => Tg.namesL ts
def Tg.namesL : List Tg → List Nat
  | [] => []
  | t :: ts => t.names ++ Tg.namesL ts
end
theorem wipe_set {σ : L2.St} {i : Nat} {x : Option V} : ∀ {vs : List Nat}, i ∈ vs → wipe (σ.set i x) vs = wipe σ vs := by
  intro vs
  induction vs with
  | nil => intro h; cases h
  | cons v vs ih =>
    intro h
    have comm : ∀ (vs : List Nat) (τ : L2.St), i ∉ vs → wipe (τ.set i x) vs = (wipe τ vs).set i x := by
      intro vs
      induction vs with
      | nil => intros; rfl
      | cons w ws ih2 =>
        intro τ h
        rw [List.mem_cons, not_or] at h
        show (wipe (τ.set i x) ws).set w none = ((wipe τ ws).set w none).set i x
        rw [ih2 τ h.2, List.set_comm _ _ h.1]
    show (wipe (σ.set i x) vs).set v none = (wipe σ vs).set v none
    by_cases hi : i ∈ vs
    · rw [ih hi]
    · rw [comm vs σ hi]
      have e : i = v := (List.mem_cons.mp h).resolve_right hi
      subst e
      rw [List.set_set]
section
variable {K : PySem.W.Frag} {m : List Addr} {H : Hp}
mutual
theorem tg_ok : ∀ (t : Tg) {w : W} {v : V} {ρ ρ' : EnvM} {σ : L2.St} {Q : L2.St → Hp → Prop}, ER K m H ρ σ → R K m H w v → tgM t w ρ = some ρ' →
    (∀ σ', ER K m H ρ' σ' → (∀ vs, (∀ i ∈ t.names, i ∈ vs) → wipe σ' vs = wipe σ vs) → Q σ' H) → tgT K t v σ H Q
  | .name i, w, v, ρ, ρ', σ, Q, er, r, e, q => by
    rw [tgM] at e
    cases e
    rw [tgT]
    exact q _ (er.set i r) fun vs h => wipe_set (h i (by rw [Tg.names]; exact List.mem_cons_self))
  | .tup ts, w, v, ρ, ρ', σ, Q, er, r, e, q => by
    rw [tgT]
    cases r with
    | tup h1 h2 =>
      rw [tgM] at e
      refine ⟨_, _, rfl, h1.sq, ?_, ?_⟩
      · exact (h2.len).trans (tgMs_len ts e).symm
      · exact tgs_ok ts er h2 e fun σ' er' h => q σ' er' fun vs hv => h vs (by rw [Tg.names] at hv; exact hv)
    | _ => simp only [tgM] at e <;> cases e
theorem tgs_ok : ∀ (ts : List Tg) {ws : List W} {vs : List V} {ρ ρ' : EnvM} {σ : L2.St} {Q : L2.St → Hp → Prop}, ER K m H ρ σ → RL K m H ws vs → tgMs ts ws ρ = some ρ' →
    (∀ σ', ER K m H ρ' σ' → (∀ vs, (∀ i ∈ Tg.namesL ts, i ∈ vs) → wipe σ' vs = wipe σ vs) → Q σ' H) → tgTs K ts vs σ H Q
  | [], ws, vs, ρ, ρ', σ, Q, er, r, e, q => by
    cases r with
    | nil =>
      rw [tgMs] at e
      cases e
      rw [tgTs]
      exact ⟨rfl, q _ er fun _ _ => rfl⟩
    | cons _ _ => simp only [tgMs] at e; cases e
  | t :: ts, ws, vs, ρ, ρ', σ, Q, er, r, e, q => by
    cases r with
    | nil => simp only [tgMs] at e; cases e
    | cons r1 r2 =>
      rw [tgMs] at e
      cases h1 : tgM t _ ρ with
      | none => rw [h1] at e; cases e
      | some ρ1 =>
        rw [h1] at e
        rw [tgTs]
        refine ⟨_, _, rfl, tg_ok t er r1 h1 fun σ1 er1 w1 => tgs_ok ts er1 r2 e fun σ2 er2 w2 => q σ2 er2 fun vs hv => ?_⟩
        rw [Tg.namesL] at hv
        rw [w2 vs fun i hi => hv i (List.mem_append_right _ hi), w1 vs fun i hi => hv i (List.mem_append_left _ hi)]
theorem tgMs_len : ∀ (ts : List Tg) {ws : List W} {ρ ρ' : EnvM}, tgMs ts ws ρ = some ρ' → ts.length = ws.length
  | [], [], _, _, _ => rfl
  | [], _ :: _, _, _, e => by simp only [tgMs] at e; cases e
  | _ :: _, [], _, _, e => by simp only [tgMs] at e; cases e
  | t :: ts, w :: ws, ρ, ρ', e => by
    rw [tgMs] at e
    cases h1 : tgM t w ρ with
    | none => rw [h1] at e; cases e
    | some ρ1 =>
      rw [h1] at e
      rw [List.length_cons, List.length_cons, tgMs_len ts e]
end
end
section
variable {X : Cx} {e a b c : Expr} {es : List Expr} {pos : Pos} {st : Stmt} {rest : List Stmt}
def sNil : FS := fun ρ s => some (.nx ρ, s)
def sCons (f g : FS) : FS := fun ρ s => bd (f ρ s) fun o s1 => match o with
  | .nx ρ1 => g ρ1 s1
  | o => some (o, s1)
def sSet (i : Nat) (f : FE) : FS := fun ρ s => bd (f ρ s) fun w s1 => some (.nx (ρ.set i (some w)), s1)
def sAsg (t : Tg) (f : FE) : FS := fun ρ s => bd (f ρ s) fun w s1 => match tgM t w ρ with
  | some ρ1 => some (.nx ρ1, s1)
  | none => none
def sDo (f : FE) : FS := fun ρ s => bd (f ρ s) fun _ s1 => some (.nx ρ, s1)
def sRet (f : FE) : FS := fun ρ s => bd (f ρ s) fun w s1 => some (.rt w, s1)
def sRetN : FS := fun _ s => some (.rt .non, s)
def sIf (t : FT) (f g : FS) : FS := fun ρ s => bd (t ρ s) fun k s1 => if k = true then f ρ s1 else g ρ s1
def sBrk : FS := fun ρ s => some (.bk ρ, s)
def sCnt : FS := fun ρ s => some (.ct ρ, s)
theorem mss_nil : PSs X [] (tS X.K sNil) := pss_nil.imp fun D σ H ⟨m, ρ, s, er, sr, o, s', e, q⟩ => by cases e; exact q m H σ (Adv.refl m H) sr er
theorem mss_one {f : FS} (h : PS X st (tS X.K f)) : PSs X [st] (tS X.K f) := pss_one h
theorem mss_cons {f g : FS} (h1 : PS X st (tS X.K f)) (h2 : PSs X rest (tS X.K g)) : PSs X (st :: rest) (tS X.K (sCons f g)) :=
  (pss_cons h1 h2).imp fun D σ H ⟨m, ρ, s, er, sr, o, s', e, q⟩ => by
    obtain ⟨o1, s1, e1, e⟩ := bd_inv e
    refine ⟨m, ρ, s, er, sr, o1, s1, e1, ?_⟩
    cases o1 with
    | nx ρ1 => exact fun m1 H1 σ1 A1 S1 er1 => ⟨m1, ρ1, s1, er1, S1, o, s', e, q.adv A1⟩
    | rt w => cases e; exact q
    | bk ρ1 => cases e; exact q
    | ct ρ1 => cases e; exact q
theorem ms_set {i : Nat} {x : Str} {pos' : Pos} {f : FE} (hN : X.N.Nodup) (hi : X.N[i]? = some x) (hx : Loc X.env.scope x) (he : PE X e (tF X.K f)) (hs : swapsWith e (some (.Name x pos')) pos.line X.env = pure false := by rfl) (hf : X.fn x = true ∨ X.env.scope.names.lookup x = some .local := by first | exact .inl rfl | exact .inr rfl | assumption) :
    PS X (.Assign [.Name x pos'] e pos) (tS X.K (sSet i f)) :=
  (ps_set hN hi hx he hs hf).imp fun D σ H ⟨m, ρ, s, er, sr, o, s', e, q⟩ => by
    obtain ⟨w, s1, e1, e⟩ := bd_inv e
    cases e
    exact ⟨m, ρ, s, er, sr, w, _, e1, fun m1 H1 v A1 S1 r1 => q m1 H1 _ A1 S1 ((er.adv A1).set i r1)⟩
theorem ms_expr {f : FE} (he : PE X e (tF X.K f)) (hs : swapsWith e none pos.line X.env = pure false := by rfl) : PS X (.Expr e pos) (tS X.K (sDo f)) :=
  (ps_expr he hs).imp fun D σ H ⟨m, ρ, s, er, sr, o, s', e, q⟩ => by
    obtain ⟨w, s1, e1, e⟩ := bd_inv e
    cases e
    exact ⟨m, ρ, s, er, sr, w, _, e1, fun m1 H1 v A1 S1 r1 => q m1 H1 _ A1 S1 (er.adv A1)⟩
theorem ms_ret {f : FE} (he : PE X e (tF X.K f)) : PS X (.Return (some e) pos) (tS X.K (sRet f)) :=
  (ps_ret he).imp fun D σ H ⟨m, ρ, s, er, sr, o, s', e, q⟩ => by
    obtain ⟨w, s1, e1, e⟩ := bd_inv e
    cases e
    exact ⟨m, ρ, s, er, sr, w, _, e1, fun m1 H1 v A1 S1 r1 => q m1 H1 _ A1 S1 r1⟩
theorem ms_if {t : FT} {f g : FS} {as bs : List Stmt} (hc : PT X c (tT X.K t)) (ha : PSs X as (tS X.K f)) (hb : PSs X bs (tS X.K g)) : PS X (.If c as bs pos) (tS X.K (sIf t f g)) :=
  (ps_if hc ha hb).imp fun D σ H ⟨m, ρ, s, er, sr, o, s', e, q⟩ => by
    obtain ⟨k, s1, e1, e⟩ := bd_inv e
    refine ⟨m, ρ, s, er, sr, k, s1, e1, fun m1 H1 A1 S1 => ?_⟩
    cases k with
    | true =>
      rw [if_pos rfl] at e ⊢
      exact ⟨m1, ρ, s1, er.adv A1, S1, o, s', e, q.adv A1⟩
    | false =>
      rw [if_neg Bool.false_ne_true] at e ⊢
      exact ⟨m1, ρ, s1, er.adv A1, S1, o, s', e, q.adv A1⟩
def setAt (o i w : W) (s : Sto) : Option Sto := match o, i with
  | .ref n, .int k => match s[n]? with
    | some (.lst ws) => match ixN ws.length k with
      | some j => some (s.set n (.lst (ws.set j w)))
      | none => none
    | _ => none
  | _, _ => none
def sPut (o i f : FE) : FS := fun ρ s => bd (f ρ s) fun w s1 => bd (o ρ s1) fun x s2 => bd (i ρ s2) fun y s3 => match setAt x y w s3 with
  | some s4 => some (.nx ρ, s4)
  | none => none
theorem ms_put {o i : Expr} {tpos : Pos} {fo fi f : FE} (he : PE X e (tF X.K f)) (ho : PE X o (tF X.K fo)) (hi : PE X i (tF X.K fi))
    (ha : ∀ v, assign (.Subscript o i tpos) X.env v = (do
      let ov ← holding [v] (eval o X.env)
      let iv ← holding [v, ov] (eval i X.env)
      standAt tpos
      holding [v, ov, iv] (setItem ov iv v)
      release [v, ov, iv] []) := by intro _; rfl)
    (hs : swapsWithSole [.Subscript o i tpos] e pos.line X.env = pure false := by rfl) (hw : swappedStores [.Subscript o i tpos] e X.env = pure none := by rfl)
    (h1 : (assignEach [.Subscript o i tpos] X.env).map (·.2) = [assign (.Subscript o i tpos) X.env] := by rfl) : PS X (.Assign [.Subscript o i tpos] e pos) (tS X.K (sPut fo fi f)) :=
  (ps_asg he (pg_sub ho hi set_list ha) hs hw h1).imp fun D σ H ⟨m, ρ, s, er, sr, oo, s', e, q⟩ => by
    obtain ⟨w, s1, e1, e⟩ := bd_inv e
    obtain ⟨x, s2, e2, e⟩ := bd_inv e
    obtain ⟨y, s3, e3, e⟩ := bd_inv e
    refine ⟨m, ρ, s, er, sr, w, s1, e1, fun m1 H1 v A1 S1 r1 => ⟨m1, ρ, s1, er.adv A1, S1, x, s2, e2, fun m2 H2 u A2 S2 r2 => ⟨m2, ρ, s2, (er.adv A1).adv A2, S2, y, s3, e3, fun m3 H3 z A3 S3 r3 => ?_⟩⟩⟩
    have r2' := r2.adv A3
    have r1' := (r1.adv A2).adv A3
    cases es : setAt x y w s3 with
    | none => simp only [es] at e; cases e
    | some s4 =>
      simp only [es] at e
      cases e
      cases r2' with
      | @ref n a hn =>
        cases r3 with
        | int k =>
          simp only [setAt] at es
          cases eo : s3[n]? with
          | none => simp only [eo] at es; cases es
          | some ob =>
            cases ob with
            | dct _ => simp only [eo] at es; cases es
            | dtt _ => simp only [eo] at es; cases es
            | lam _ _ => simp only [eo] at es; cases es
            | tab _ _ => simp only [eo] at es; cases es
            | dead => simp only [eo] at es; cases es
            | frd _ => simp only [eo] at es; cases es
            | ins _ _ => simp only [eo] at es; cases es
            | lst ws =>
              simp only [eo] at es
              cases ek : ixN ws.length k with
              | none => simp only [ek] at es; cases es
              | some j =>
                simp only [ek] at es
                cases es
                obtain ⟨a', h2, vs, h3, h4⟩ := S3.at eo
                rw [hn] at h2
                cases h2
                refine ⟨a, vs, k, j, rfl, rfl, h3, by rw [h4.len]; exact ek, ?_⟩
                have A4 : Adv m3 H3 m3 (upd H3 a (.lst (vs.set j v))) := Adv.write S3 hn ⟨_, h3, .inl ⟨_, rfl⟩⟩
                exact q m3 _ σ (((A1.trans A2).trans A3).trans A4) (S3.write hn ⟨_, h3, .inl ⟨_, rfl⟩⟩ ⟨_, upd_same, (h4.adv A4).set j (r1'.adv A4)⟩) ((((er.adv A1).adv A2).adv A3).adv A4)
        | _ => simp only [setAt] at es <;> cases es
      | _ => simp only [setAt] at es <;> cases es
def sAug (i : Nat) (g : W → W → Sto → Rz W) (f : FE) : FS := fun ρ s => match ρ[i]? with
  | some (some x) => bd (f ρ s) fun y s1 => bd (g x y s1) fun z s2 => some (.nx (ρ.set i (some z)), s2)
  | _ => none
theorem ms_aug {i : Nat} {x : Str} {op : Operator} {ti : TIp} {pos' : Pos} {g : W → W → Sto → Rz W} {f : FE} (hN : X.N.Nodup) (hi : X.N[i]? = some x) (hx : Loc X.env.scope x) (he : PE X e (tF X.K f)) (ho : PIp X op ti) (hg : OpF X.K ti g) (hf : X.fn x = true ∨ X.env.scope.names.lookup x = some .local := by first | exact .inl rfl | exact .inr rfl | assumption) :
    PS X (.AugAssign (.Name x pos') op e pos) (tS X.K (sAug i g f)) :=
  (ps_aug hN hi hx he ho hf).imp fun D σ H ⟨m, ρ, s, er, sr, o, s', e, q⟩ => by
    cases hx : ρ[i]? with
    | none => simp only [sAug, hx] at e; cases e
    | some ox =>
      cases ox with
      | none => simp only [sAug, hx] at e; cases e
      | some x =>
        simp only [sAug, hx] at e
        obtain ⟨y, s1, e1, e⟩ := bd_inv e
        obtain ⟨z, s2, e2, e⟩ := bd_inv e
        cases e
        obtain ⟨v, hv, r⟩ := er.get hx
        exact ⟨v, hv, m, ρ, s, er, sr, y, s1, e1, fun m1 H1 u A1 S1 r1 => hg m1 H1 s1 x y v u _ S1 (r.adv A1) r1 ⟨z, _, e2, fun m2 H2 zv A2 S2 r2 => q m2 H2 _ (A1.trans A2) S2 (((er.adv A1).adv A2).set i r2)⟩⟩
def wh (t : FT) (b : FS) : Nat → FS
  | 0, _, _ => none
  | n + 1, ρ, s => bd (t ρ s) fun k s1 => if k = true then bd (b ρ s1) fun o s2 => match o with
      | .nx ρ' => wh t b n ρ' s2
      | .ct ρ' => wh t b n ρ' s2
      | .bk ρ' => some (.nx ρ', s2)
      | .rt w => some (.rt w, s2)
    else some (.nx ρ, s1)
def sWh (n : EnvM → Sto → Nat) (t : FT) (b : FS) : FS := fun ρ s => wh t b (n ρ s) ρ s
def okc (c : Option (Nat × List W)) (s : Sto) : Prop := match c with
  | none => True
  | some (n, ws) => s[n]? = some (.lst ws)
structure ItOk (K : PySem.W.Frag) (J : It) (m0 : List Addr) (H0 : Hp) (xs : List W) (c : Option (Nat × List W)) : Prop where
  go : ∀ m H s i x, Adv m0 H0 m H → SR K m H s → okc c s → xs[i]? = some x → J.go i H ∧ ∀ v H', J.yld i H v H' → ∃ m', Adv m H m' H' ∧ SR K m' H' s ∧ R K m' H' x v
  stop : ∀ m H s, Adv m0 H0 m H → SR K m H s → okc c s → J.stop xs.length H
abbrev FI := EnvM → Sto → Rz (List W × Option (Nat × List W))
def tI (K : PySem.W.Frag) (f : FI) : TI := fun σ H Q => ∃ m ρ s, ER K m H ρ σ ∧ SR K m H s ∧ ∃ xs c s', f ρ s = some ((xs, c), s') ∧ ∀ m' H' J, Adv m H m' H' → SR K m' H' s' → ItOk K J m' H' xs c → Q J H'
theorem _root_.L2.PI.imp {tg iter : Expr} {t t' : TI} (h : PI X tg iter t) (q : ∀ σ H Q, t' σ H Q → t σ H Q) : PI X tg iter t' := ⟨fun pins s σ H Q I r => h.run pins s σ H Q I (q _ _ _ r)⟩
open Classical in
noncomputable def fo (t : Tg) (b : FS) (c : Option (Nat × List W)) : List W → FS
  | [], ρ, s => if okc c s then some (.nx ρ, s) else none
  | x :: r, ρ, s => if okc c s then match tgM t x ρ with
      | some ρ1 => bd (b ρ1 s) fun o s2 => match o with
        | .nx ρ' => fo t b c r ρ' s2
        | .ct ρ' => fo t b c r ρ' s2
        | .bk ρ' => some (.nx ρ', s2)
        | .rt w => some (.rt w, s2)
      | none => none
    else none
noncomputable def sFor (it : FI) (t : Tg) (b : FS) : FS := fun ρ s => bd (it ρ s) fun x s1 => fo t b x.2 x.1 ρ s1
theorem ms_for {it : FI} {t : Tg} {b : FS} {tg iter : Expr} {body : List Stmt} (hp : PassesOwn (model X.prog X.w) X.A X.env X.xe) (hc : X.calm = true) (hi : PI X tg iter (tI X.K it)) (hg : PG X tg (tgT X.K t)) (hb : PSs X body (tS X.K b))
    (hs : ∀ x, foldedSetIterable iter X.env x = pure x := by intro _; rfl) : PS X (.For tg iter body [] pos) (tS X.K (sFor it t b)) :=
  (ps_for hp hc hi hg hb hs).imp fun D σ H ⟨m, ρ, s, er, sr, o, s', e, q⟩ => by
    obtain ⟨⟨xs, c⟩, s1, e1, e⟩ := bd_inv e
    refine ⟨m, ρ, s, er, sr, xs, c, s1, e1, fun m1 H1 J A1 S1 ok => ?_⟩
    refine ⟨fun i μ σ2 H2 => ∃ m2 ρ2 s2, Adv m1 H1 m2 H2 ∧ ER X.K m2 H2 ρ2 σ2 ∧ SR X.K m2 H2 s2 ∧ i + μ = xs.length ∧ fo t b c (xs.drop i) ρ2 s2 = some (o, s'), ⟨xs.length, m1, ρ, s1, Adv.refl m1 H1, er.adv A1, S1, Nat.zero_add _, e⟩, ?_⟩
    rintro i μ σ2 H2 ⟨m2, ρ2, s2, A2, er2, S2, hi, e2⟩
    cases μ with
    | zero =>
      have hl : i = xs.length := by omega
      subst hl
      rw [List.drop_length, fo] at e2
      by_cases ho : okc c s2
      · rw [if_pos ho] at e2
        cases e2
        exact .inl ⟨ok.stop m2 H2 _ A2 S2 ho, q m2 H2 σ2 (A1.trans A2) S2 er2⟩
      · rw [if_neg ho] at e2
        cases e2
    | succ μ =>
      have hl : i < xs.length := by omega
      rw [List.drop_eq_getElem_cons hl, fo] at e2
      by_cases ho : okc c s2
      · rw [if_pos ho] at e2
        obtain ⟨g1, g2⟩ := ok.go m2 H2 s2 i xs[i] A2 S2 ho (List.getElem?_eq_getElem hl)
        refine .inr ⟨g1, fun σ' H' => ∃ m', m' < μ + 1 ∧ ∃ m2 ρ2 s2, Adv m1 H1 m2 H' ∧ ER X.K m2 H' ρ2 σ' ∧ SR X.K m2 H' s2 ∧ (i + 1) + m' = xs.length ∧ fo t b c (xs.drop (i + 1)) ρ2 s2 = some (o, s'), fun _ _ h => h, fun v H3 y => ?_⟩
        obtain ⟨m3, A3, S3, r3⟩ := g2 v H3 y
        cases et : tgM t xs[i] ρ2 with
        | none => simp only [et] at e2; cases e2
        | some ρ4 =>
          simp only [et] at e2
          obtain ⟨o5, s5, e5, e2⟩ := bd_inv e2
          refine tg_ok t (er2.adv A3) r3 et fun σ4 er4 _ => ⟨m3, ρ4, s2, er4, S3, o5, s5, e5, ?_⟩
          cases o5 with
          | nx ρ5 => exact fun m6 H6 σ6 A6 S6 er6 => ⟨μ, Nat.lt_succ_self μ, m6, ρ5, s5, (A2.trans A3).trans A6, er6, S6, by omega, e2⟩
          | ct ρ5 => exact fun m6 H6 σ6 A6 S6 er6 => ⟨μ, Nat.lt_succ_self μ, m6, ρ5, s5, (A2.trans A3).trans A6, er6, S6, by omega, e2⟩
          | bk ρ5 => cases e2; exact fun m6 H6 σ6 A6 S6 er6 => q m6 H6 σ6 (A1.trans ((A2.trans A3).trans A6)) S6 er6
          | rt w => cases e2; exact fun m6 H6 v A6 S6 r6 => q m6 H6 v (A1.trans ((A2.trans A3).trans A6)) S6 r6
      · rw [if_neg ho] at e2
        cases e2
theorem wipe_wipe (σ : L2.St) : ∀ vs : List Nat, wipe (wipe σ vs) vs = wipe σ vs
  | [] => rfl
  | v :: vs => by
    show wipe ((wipe σ vs).set v none) (v :: vs) = _
    rw [wipe_set List.mem_cons_self]
    show (wipe (wipe σ vs) vs).set v none = _
    rw [wipe_wipe σ vs]
    rfl
def wipeM (ρ : EnvM) : List Nat → EnvM
  | [] => ρ
  | v :: vs => (wipeM ρ vs).set v none
theorem ER.wipe {K : PySem.W.Frag} {m : List Addr} {H : Hp} {ρ : EnvM} {σ : L2.St} (h : ER K m H ρ σ) : ∀ vs, ER K m H (wipeM ρ vs) (L2.wipe σ vs)
  | [] => h
  | v :: vs => ER.forget v (ER.wipe h vs)
open Classical in
noncomputable def lcf (t : Tg) (u : FT) (f : FE) (c : Option (Nat × List W)) (ρ : EnvM) : List W → Sto → Rz (List W)
  | [], s => if okc c s then some ([], s) else none
  | x :: r, s => if okc c s then match tgM t x ρ with
      | some ρ1 => bd (u ρ1 s) fun k s1 => if k = true then bd (f ρ1 s1) fun w s2 => bd (lcf t u f c ρ r s2) fun ws s3 => some (w :: ws, s3) else lcf t u f c ρ r s1
      | none => none
    else none
noncomputable def eLc (vs : List Nat) (it : FI) (t : Tg) (u : FT) (f : FE) : FE := fun ρ s => bd (it ρ s) fun x s1 => if x.1.length ≤ 100000 then bd (lcf t u f x.2 (wipeM ρ vs) x.1 s1) fun ws s2 => some (.ref s2.length, s2 ++ [.lst ws]) else none
theorem tLc_of {K : PySem.W.Frag} {vs : List Nat} {it : FI} {t : Tg} {u : FT} {f : FE} (hv : ∀ i ∈ t.names, i ∈ vs) : ∀ σ H Q, tF K (eLc vs it t u f) σ H Q → tLc (tI K it) (tgT K t) (tT K u) (tF K f) vs σ H Q := by
  rintro σ H Q ⟨m, ρ, s, er, sr, w, s', e, q⟩
  obtain ⟨⟨xs, c⟩, s1, e1, e⟩ := bd_inv e
  by_cases hz : xs.length ≤ 100000
  · rw [if_pos hz] at e
    obtain ⟨ws, s2, e2, e⟩ := bd_inv e
    cases e
    refine ⟨m, ρ, s, er, sr, xs, c, s1, e1, fun m1 H1 J A1 S1 ok D hD => ?_⟩
    have hDm : D ∉ m1 := fun z => by
      obtain ⟨o, h, _⟩ := S1.there z
      rw [hD] at h; cases h
    have A2 : Adv m1 H1 m1 (upd H1 D (.lst [])) := Adv.fresh hD
    have S2 : SR K m1 (upd H1 D (.lst [])) s1 := S1.fresh hD
    -- the walk: D holds what has been made
    refine ⟨fun i μ H2 => ∃ m2 s2' acc accW rw, Adv m1 H1 m2 H2 ∧ D ∉ m2 ∧ SR K m2 H2 s2' ∧ H2 D = some (.lst acc) ∧ RL K m2 H2 accW acc ∧ i + μ = xs.length ∧ acc.length ≤ i ∧ lcf t u f c (wipeM ρ vs) (xs.drop i) s2' = some (rw, s2) ∧ accW ++ rw = ws,
      ⟨xs.length, m1, s1, [], [], ws, A2, hDm, S2, upd_same, .nil, Nat.zero_add _, Nat.le_refl _, e2, rfl⟩, ?_⟩
    rintro i μ H2 ⟨m2, s3, acc, accW, rw_, A3, hD3, S3, h3, r3, hi, hl, e3, ea⟩
    cases μ with
    | zero =>
      have hl2 : i = xs.length := by omega
      subst hl2
      rw [List.drop_length, lcf] at e3
      by_cases ho : okc c s3
      · rw [if_pos ho] at e3
        cases e3
        refine .inl ⟨ok.stop m2 H2 _ A3 S3 ho, ?_⟩
        rw [List.append_nil] at ea
        subst ea
        have A4 : Adv m1 H1 (m2 ++ [D]) H2 := by
          refine ⟨?_, A3.same, fun a h => ?_, A3.tup, A3.frz⟩
          · obtain ⟨t, rfl⟩ := A3.pre
            exact ⟨t ++ [D], by rw [List.append_assoc]⟩
          · rcases List.mem_append.mp h with h | h
            · exact A3.new a h
            · rw [List.mem_singleton.mp h]; exact .inr hD
        refine q (m2 ++ [D]) H2 (.ref D) (A1.trans A4) (S3.join hD3 ⟨acc, h3, r3⟩) (.ref ?_)
        rw [← S3.len, List.getElem?_append_right (Nat.le_refl _), Nat.sub_self]
        rfl
      · rw [if_neg ho] at e3
        cases e3
    | succ μ =>
      have hl2 : i < xs.length := by omega
      rw [List.drop_eq_getElem_cons hl2, lcf] at e3
      by_cases ho : okc c s3
      · rw [if_pos ho] at e3
        obtain ⟨g1, g2⟩ := ok.go m2 H2 s3 i xs[i] A3 S3 ho (List.getElem?_eq_getElem hl2)
        refine .inr ⟨g1, _, fun _ h => h, fun v H3 y => ?_⟩
        obtain ⟨m3, A5, S5, r5⟩ := g2 v H3 y
        have keepD : ∀ {m' H'}, Adv m2 H2 m' H' → D ∉ m' ∧ H' D = some (.lst acc) := fun {m' H'} A => by
          refine ⟨fun z => ?_, A.same D _ h3 hD3⟩
          rcases A.new D z with z | z
          · exact hD3 z
          · rw [h3] at z; cases z
        cases et : tgM t xs[i] (wipeM ρ vs) with
        | none => simp only [et] at e3; cases e3
        | some ρ4 =>
          simp only [et] at e3
          obtain ⟨k, s5, e5, e3⟩ := bd_inv e3
          have erw := ((er.adv A1).adv (A3.trans A5)).wipe vs
          refine tg_ok t erw r5 et fun σ4 er4 w4 => ⟨by rw [w4 vs hv, wipe_wipe], m3, ρ4, s3, er4, S5, k, s5, e5, fun m6 H6 A6 S6 => ?_⟩
          cases k with
          | false =>
            rw [if_neg Bool.false_ne_true] at e3 ⊢
            obtain ⟨n6, h6⟩ := keepD (A5.trans A6)
            exact ⟨μ, Nat.lt_succ_self μ, m6, s5, acc, accW, rw_, A3.trans (A5.trans A6), n6, S6, h6, r3.adv (A5.trans A6), by omega, by omega, e3, ea⟩
          | true =>
            rw [if_pos rfl] at e3 ⊢
            obtain ⟨w7, s7, e7, e3⟩ := bd_inv e3
            obtain ⟨ws8, s8, e8, e3⟩ := bd_inv e3
            cases e3
            refine ⟨m6, ρ4, s5, er4.adv A6, S6, w7, s7, e7, fun m7 H7 v7 A7 S7 r7 => ?_⟩
            have AA := A5.trans (A6.trans A7)
            obtain ⟨n7, h7⟩ := keepD AA
            have r3' := r3.adv AA
            refine ⟨acc, h7, szt (by omega), μ, Nat.lt_succ_self μ, m7, s7, acc ++ [v7], accW ++ [w7], ws8, ?_, n7, S7.off n7 h7, upd_same, (r3'.ext (Ext.off h7)).app (RL.one (r7.ext (Ext.off h7))), by omega, by rw [List.length_append, List.length_singleton]; omega, e8, by rw [List.append_assoc]; exact ea⟩
            have A8 := A3.trans AA
            refine ⟨A8.pre, fun a o h n => ?_, A8.new, fun a xs h => ?_, fun a o u h => ?_⟩
            · rw [upd_ne (ne_of_none h hD)]
              exact A8.same a o h n
            · rw [upd_ne (ne_of_none h hD)]
              exact A8.tup a xs h
            · rw [upd_ne (ne_of_none h hD)]
              exact A8.frz a o u h
      · rw [if_neg ho] at e3
        cases e3
  · rw [if_neg hz] at e
    cases e
theorem ms_setLc {i : Nat} {y : Str} {py : Pos} {elt tg iter : Expr} {ifs : List Expr} {scope : Scope} {own : List (Str × Nat)} {spos : Pos} {it : FI} {t : Tg} {u : FT} {f : FE} (hv : ∀ i ∈ t.names, i ∈ own.map (·.2)) (hc : X.calm = true) (hN : X.N.Nodup) (hy : X.N[i]? = some y) (hyl : X.env.scope.names.lookup y = some .local)
    (hsw : swapsWith (.ListComp elt [⟨tg, iter, ifs, 0⟩] scope pos) (some (.Name y py)) spos.line X.env = pure true) (hi : PI X tg iter (tI X.K it)) (ok : BlkOk X.N X.env.scope scope own)
    (hg : ∀ (s : Shared) (H : Hp) (C : Addr) (cl : List (Str × Addr)) (fp : List Addr), PG (X.blk s H scope (compEnvC scope cl C X.env) fp) tg (tgT X.K t)) (ht : ∀ (s : Shared) (H : Hp) (C : Addr) (cl : List (Str × Addr)) (fp : List Addr), PTs (X.blk s H scope (compEnvC scope cl C X.env) fp) ifs (tT X.K u))
    (he : ∀ (s : Shared) (H : Hp) (C : Addr) (cl : List (Str × Addr)) (fp : List Addr), PE (X.blk s H scope (compEnvC scope cl C X.env) fp) elt (tF X.K f)) (hs : ∀ x, foldedSetIterable iter X.env x = pure x := by intro _; rfl) :
    PS X (.Assign [.Name y py] (.ListComp elt [⟨tg, iter, ifs, 0⟩] scope pos) spos) (tS X.K (sSet i (eLc (own.map (·.2)) it t u f))) :=
  (ps_setLc hc hN hy hyl hsw hi ok hg ht he hs).imp fun D σ H ⟨m, ρ, s, er, sr, o, s', e, q⟩ => by
    obtain ⟨w, s1, e1, e⟩ := bd_inv e
    cases e
    exact tLc_of hv σ H _ ⟨m, ρ, s, er, sr, w, _, e1, fun m1 H1 v A1 S1 r1 => q m1 H1 _ A1 S1 ((er.adv A1).set i r1)⟩
def bYes : FT := fun _ s => some (true, s)
theorem mts_nil : PTs X [] (tT X.K bYes) := by
  have h := pts_nil (X := X)
  cases h with
  | mk run => exact ⟨fun pins s σ H Q I ⟨m, ρ, s1, er, sr, k, s', e, q⟩ => run pins s σ H Q I (by cases e; exact q m H (Adv.refl m H) sr)⟩
def spF (K : PySem.W.Frag) (n : Nat) (F : List W → Sto → Rz W) : Sp := fun vs H Q _ => vs.length = n ∧ ∃ m s ws, RL K m H ws vs ∧ SR K m H s ∧ wE K m H (F ws s) Q
def mkF (n N : Nat) (body : FS) : List W → Sto → Rz W := fun ws s => if ws.length = n then bd (body (ws.map some ++ List.replicate (N - ws.length) none) s) fun o s1 => match o with
  | .rt w => some (w, s1)
  | .nx _ => some (.non, s1)
  | _ => none
  else none
structure Own (P : Program) (w : World) (K : PySem.W.Frag) (mg : Str → Option Value) (base : Heap) (k : Nat) (x : Str) (ps : List Str) (F : List W → Sto → Rz W) : Prop where
  ex : ∃ (f : Addr) (fd : FuncData), FnOk P w K mg base CX0 k f fd ps (spF K ps.length F) ∧ Binds K fd ps [] ∧ PySem.W.keepIn K (.ref f) = true ∧ mg x = some (.ref f)
  ln : ∀ ws s r, F ws s = some r → ws.length = ps.length
theorem Own.mono {P : Program} {w : World} {K : PySem.W.Frag} {mg : Str → Option Value} {base : Heap} {j k : Nat} {x : Str} {ps : List Str} {F : List W → Sto → Rz W} (h : Own P w K mg base j x ps F) (hk : j ≤ k) : Own P w K mg base k x ps F := by
  obtain ⟨f, fd, h1, h2, h3, h4⟩ := h.ex
  exact ⟨⟨f, fd, h1.mono hk, h2, h3, h4⟩, h.ln⟩
theorem m_call {k : Nat} {x : Str} {ps : List Str} {F : List W → Sto → Rz W} {fa : FA} {p : Pos} (O : Own X.prog X.w X.K X.mg X.base k x ps F) (hr : Room k X.A) (hg : Gl X x) (ha : PA X (e :: es) (tA X.K fa)) (hdb : (x == ("__debug__" : Str)) = false := by decide) (he : starEach (e :: es) X.env = (false, eval e X.env) :: starEach es X.env := by rfl)
    (hpl : (backTo pos (starEach es X.env)).any (·.1) = false := by rfl) : PE X (.Call (.Name x p) (e :: es) [] pos) (tF X.K (eFn F fa)) := by
  obtain ⟨f, fd, h1, h2, h3, h4⟩ := O.ex
  refine (pe_call h1 hr hg h4 h3 h2 .nil pass0 ha hdb he hpl).imp fun σ H Q ⟨m, ρ, s, er, sr, w, s', e, q⟩ => ?_
  obtain ⟨ws, s1, e1, e⟩ := bd_inv e
  refine ⟨m, ρ, s, er, sr, ws, s1, e1, fun m1 H1 vs A1 S1 r1 => ?_⟩
  show spF X.K ps.length F (vs ++ []) H1 Q E0
  rw [List.append_nil]
  exact ⟨by rw [r1.len]; exact O.ln _ _ _ e, m1, s1, ws, r1, S1, w, s', e, fun m2 H2 v A2 => q m2 H2 v (A1.trans A2)⟩
end
theorem fnm_of {P : Program} {w : World} {K : PySem.W.Frag} {mg : Str → Option Value} {base : Heap} {x : Str} {st : Stmt} {f : Addr} {fd : FuncData} {N ps : List Str} {k : Nat} {body : FS} (F : Fun K x x st f fd) (S : FnScope N ps (defScope st))
    (h : ∀ (cdv : Value) (A : Around) (outer : List Env) (s : Shared) (H : Hp) (E : XK), Room k (A.deeper (envOfC x (defScope st) s.heap.objs.size f cdv)) → PSs (cxOf CX0 P w K mg base N x (defScope st) f cdv A outer s H E).nox (defBody st) (tS K body)) :
    FnOk P w K mg base CX0 (k + 1) f fd ps (spF K ps.length (mkF ps.length N.length body)) := by
  refine F.ok S (fun vs H Q E h => h.1) (fun cdv A outer s H vs Q E hr hq => ⟨_, h cdv A outer s H E hr, ?_⟩)
  obtain ⟨hl, m, st, ws, r, sr, w, s', e, q⟩ := hq
  unfold mkF at e
  rw [if_pos (by rw [← r.len]; exact hl)] at e
  obtain ⟨o, s1, e1, e⟩ := bd_inv e
  refine ⟨m, _, st, ?_, sr, o, s1, e1, ?_⟩
  · unfold L2.start
    rw [r.len]
    exact r.env.app (ER.nones _)
  · cases o with
    | nx ρ1 => cases e; exact fun m' H' σ' A S _ => q m' H' _ A S .non
    | rt w => cases e; exact q
    | bk ρ1 => cases e
    | ct ρ1 => cases e
theorem own_of {P : Program} {w : World} {K : PySem.W.Frag} {mg : Str → Option Value} {base : Heap} {x : Str} {st : Stmt} {f : Addr} {fd : FuncData} {N ps : List Str} {k : Nat} {body : FS} (F : Fun K x x st f fd) (S : FnScope N ps (defScope st)) (hb : Binds K fd ps []) (hm : mg x = some (.ref f))
    (h : ∀ (cdv : Value) (A : Around) (outer : List Env) (s : Shared) (H : Hp) (E : XK), Room k (A.deeper (envOfC x (defScope st) s.heap.objs.size f cdv)) → PSs (cxOf CX0 P w K mg base N x (defScope st) f cdv A outer s H E).nox (defBody st) (tS K body)) :
    Own P w K mg base (k + 1) x ps (mkF ps.length N.length body) := by
  refine ⟨⟨f, fd, fnm_of F S h, hb, F.kp, hm⟩, fun ws s r e => ?_⟩
  unfold mkF at e
  split at e
  · assumption
  · cases e
end Mir

set_option Elab.async false
set_option linter.all false
set_option maxRecDepth 100000
namespace Mir
open PySem PySem.Spec PyProof.Rows L2
section
variable {K : PySem.W.Frag}
theorem wE.val {m : List Addr} {H : Hp} {w : W} {s : Sto} {Q : VK} (h : wE K m H (some (w, s)) Q) (S : SR K m H s) : ∀ v, R K m H w v → Q v H := by
  obtain ⟨w', s', e, q⟩ := h
  cases e
  exact fun v r => q m H v (Adv.refl m H) S r
def gII (f : Int → Int → W) : W → W → Sto → Rz W := fun x y s => match x, y with
  | .int i, .int j => some (f i j, s)
  | _, _ => none
def gIIc (c : Int → Int → Bool) (f : Int → Int → W) : W → W → Sto → Rz W := fun x y s => match x, y with
  | .int i, .int j => if c i j = true then some (f i j, s) else none
  | _, _ => none
theorem f_I0 {g : Int → Int → V} {f : Int → Int → W} (hf : ∀ m H i j, R K m H (f i j) (g i j)) : OpF K (rI0 g) (gII f) := by
  intro m H s x y v u Q S rx ry h
  cases rx with
  | int i =>
    cases ry with
    | int j => exact ⟨i, j, rfl, rfl, h.val S _ (hf m H i j)⟩
    | _ => obtain ⟨_, _, e, _⟩ := h; cases e
  | _ => obtain ⟨_, _, e, _⟩ := h; cases e
theorem f_I {C : Int → Int → Prop} {c : Int → Int → Bool} {g : Int → Int → V} {f : Int → Int → W} (hc : ∀ i j, c i j = true → C i j) (hf : ∀ m H i j, R K m H (f i j) (g i j)) : OpF K (rI C g) (gIIc c f) := by
  intro m H s x y v u Q S rx ry h
  cases rx with
  | int i =>
    cases ry with
    | int j =>
      by_cases q : c i j = true
      · simp only [gIIc, q, if_pos] at h
        exact ⟨i, j, rfl, rfl, hc i j q, h.val S _ (hf m H i j)⟩
      · simp only [gIIc, q, if_neg, not_false_eq_true] at h
        obtain ⟨_, _, e, _⟩ := h; cases e
    | _ => obtain ⟨_, _, e, _⟩ := h; cases e
  | _ => obtain ⟨_, _, e, _⟩ := h; cases e
abbrev gSub := gII fun i j => .int (i - j)
abbrev gLt := gII fun i j => .bl (decide (i < j))
abbrev gLe := gII fun i j => .bl (decide (i ≤ j))
abbrev gGt := gII fun i j => .bl (decide (j < i))
abbrev gGe := gII fun i j => .bl (decide (j ≤ i))
abbrev gMulI := gIIc (fun i j => decide ((-(2 ^ 64) < i ∧ i < 2 ^ 64) ∨ (-(2 ^ 64) < j ∧ j < 2 ^ 64))) fun i j => .int (i * j)
abbrev gDiv := gIIc (fun i j => decide (0 < j ∧ j < 1073741824)) fun i j => .int (i / j)
abbrev gDivW := gIIc (fun _ j => decide (0 < j ∧ j.natAbs.log2 < 9000)) fun i j => .int (i / j)
abbrev gDivN := gIIc (fun _ j => decide (j ≠ 0 ∧ j.natAbs < 1073741824)) fun i j => .int (i.fdiv j)
abbrev gMod := gIIc (fun _ j => decide (0 < j)) fun i j => .int (i % j)
abbrev gModN := gIIc (fun _ j => decide (j ≠ 0)) fun i j => .int (i.fmod j)
abbrev gPow := gIIc (fun i j => decide (0 ≤ j ∧ j ≤ 1000000 ∧ i.natAbs < 2 ^ 64)) fun i j => .int (i ^ j.toNat)
theorem f_sub : OpF K (rI0 fun i j => .int (i - j)) gSub := f_I0 fun _ _ _ _ => .int _
theorem f_lt : OpF K (rI0 fun i j => .bl (decide (i < j))) gLt := f_I0 fun _ _ _ _ => .bl _
theorem f_le : OpF K (rI0 fun i j => .bl (decide (i ≤ j))) gLe := f_I0 fun _ _ _ _ => .bl _
theorem f_gt : OpF K (rI0 fun i j => .bl (decide (j < i))) gGt := f_I0 fun _ _ _ _ => .bl _
theorem f_ge : OpF K (rI0 fun i j => .bl (decide (j ≤ i))) gGe := f_I0 fun _ _ _ _ => .bl _
theorem f_div : OpF K (rI CDiv fun i j => .int (i / j)) gDiv := f_I (fun i j h => of_decide_eq_true (p := 0 < j ∧ j < 1073741824) h) fun _ _ _ _ => .int _
theorem f_divW : OpF K (rI CDivW fun i j => .int (i / j)) gDivW := f_I (fun i j h => of_decide_eq_true (p := 0 < j ∧ j.natAbs.log2 < 9000) h) fun _ _ _ _ => .int _
theorem f_mod : OpF K (rI (fun _ j => 0 < j) fun i j => .int (i % j)) gMod := f_I (fun i j h => of_decide_eq_true h) fun _ _ _ _ => .int _
theorem f_pow : OpF K (rI CPow fun i j => .int (i ^ j.toNat)) gPow := f_I (fun i j h => of_decide_eq_true (p := 0 ≤ j ∧ j ≤ 1000000 ∧ i.natAbs < 2 ^ 64) h) fun _ _ _ _ => .int _
def gNeg : W → Sto → Rz W := fun x s => match x with
  | .int i => some (.int (-i), s)
  | _ => none
theorem f_neg : UnF K (rU fun i => .int (-i)) gNeg := by
  intro m H s x v Q S rx h
  cases rx with
  | int i => exact ⟨i, rfl, h.val S _ (.int _)⟩
  | _ => obtain ⟨_, _, e, _⟩ := h; cases e
def gAdd : W → W → Sto → Rz W := fun x y s => match x, y with
  | .int i, .int j => some (.int (i + j), s)
  | .str a, .str b => if a.length + b.length ≤ 100000 then some (.str (a ++ b), s) else none
  | .tup a, .tup b => if a.length + b.length ≤ 100000 then some (.tup (a ++ b), s) else none
  | .ref n, .ref k => match s[n]?, s[k]? with
    | some (.lst a), some (.lst b) => if a.length + b.length ≤ 100000 then some (.ref s.length, s ++ [.lst (a ++ b)]) else none
    | _, _ => none
  | _, _ => none
def rAddA (K : PySem.W.Frag) : R2 := fun x y H Q => (rI0 fun i j => .int (i + j)) x y H Q ∨ (∃ i j, x = .str i ∧ y = .str j ∧ i.length + j.length ≤ sizeLine ∧ Q (.str (i ++ j)) H) ∨ rCatA K x y H Q ∨ rCat x y H Q
theorem op_addA {X : Cx} : OpR X (binaryOp .Add) (rAddA X.K) := op_add.or (op_add_str.or (op_catA.or op_cat))
theorem f_add : OpF K (rAddA K) gAdd := by
  intro m H s x y v u Q S rx ry h
  have nope : ∀ {P : Prop}, wE K m H (none : Rz W) Q → P := fun h => by obtain ⟨_, _, e, _⟩ := h; cases e
  cases rx with
  | int i =>
    cases ry with
    | int j => exact .inl ⟨i, j, rfl, rfl, h.val S _ (.int _)⟩
    | _ => exact nope h
  | str a =>
    cases ry with
    | str b =>
      by_cases q : a.length + b.length ≤ 100000
      · simp only [gAdd, q, if_pos] at h
        exact .inr (.inl ⟨a, b, rfl, rfl, szl q, h.val S _ (.str _)⟩)
      · simp only [gAdd, q, if_neg, not_false_eq_true] at h
        exact nope h
    | _ => exact nope h
  | @tup p vs ws h1 h2 =>
    cases ry with
    | @tup p' vs' ws' h3 h4 =>
      by_cases q : ws.length + ws'.length ≤ 100000
      · simp only [gAdd, q, if_pos] at h
        have r := h2.app h4
        refine .inr (.inr (.inl ⟨p, p', vs, vs', rfl, rfl, h1.sq, h3.sq, szl (by rw [h2.len, h4.len]; exact q), fun e => ?_, fun _ e => ?_, fun _ _ z hz => ?_⟩))
        · subst e
          exact h.val S _ (.tup h3 r)
        · subst e
          rw [List.append_nil] at r
          exact h.val S _ (.tup h1 r)
        · obtain ⟨w, s', e, q⟩ := h
          cases e
          exact new_tup S r hz q
      · simp only [gAdd, q, if_neg, not_false_eq_true] at h
        exact nope h
    | _ => exact nope h
  | @ref n a h1 =>
    cases ry with
    | @ref k b h2 =>
      cases en : s[n]? with
      | none => simp only [gAdd, en] at h; exact nope h
      | some on =>
        cases on with
        | dct _ => simp only [gAdd, en] at h; exact nope h
        | dtt _ => simp only [gAdd, en] at h; exact nope h
        | lam _ _ => simp only [gAdd, en] at h; exact nope h
        | tab _ _ => simp only [gAdd, en] at h; exact nope h
        | dead => simp only [gAdd, en] at h; exact nope h
        | frd _ => simp only [gAdd, en] at h; exact nope h
        | ins _ _ => simp only [gAdd, en] at h; exact nope h
        | lst wa =>
          cases ek : s[k]? with
          | none => simp only [gAdd, en, ek] at h; exact nope h
          | some ok =>
            cases ok with
            | dct _ => simp only [gAdd, en, ek] at h; exact nope h
            | dtt _ => simp only [gAdd, en, ek] at h; exact nope h
            | lam _ _ => simp only [gAdd, en, ek] at h; exact nope h
            | tab _ _ => simp only [gAdd, en, ek] at h; exact nope h
            | dead => simp only [gAdd, en, ek] at h; exact nope h
            | frd _ => simp only [gAdd, en, ek] at h; exact nope h
            | ins _ _ => simp only [gAdd, en, ek] at h; exact nope h
            | lst wb =>
              by_cases q : wa.length + wb.length ≤ 100000
              · simp only [gAdd, en, ek, q, if_pos] at h
                obtain ⟨a', ha, va, ha1, ha2⟩ := S.at en
                obtain ⟨b', hb, vb, hb1, hb2⟩ := S.at ek
                rw [h1] at ha; cases ha
                rw [h2] at hb; cases hb
                refine .inr (.inr (.inr ⟨a, b, va, vb, rfl, rfl, ha1, hb1, szl (by rw [ha2.len, hb2.len]; exact q), fun p hp => ?_⟩))
                obtain ⟨w, s', e, q⟩ := h
                cases e
                exact new_lst S (ha2.app hb2) hp q
              · simp only [gAdd, en, ek, q, if_neg, not_false_eq_true] at h
                exact nope h
    | _ => exact nope h
  | _ => cases ry <;> exact nope h
def gRep : W → W → Sto → Rz W := fun x y s => match x, y with
  | .ref n, .int k => match s[n]? with
    | some (.lst a) => if a.length * k.toNat ≤ 100000 ∧ -(2 ^ 63) ≤ k ∧ k < 2 ^ 63 then some (.ref s.length, s ++ [.lst (List.replicate k.toNat a).flatten]) else none
    | _ => none
  | _, _ => none
theorem RL.rep {m : List Addr} {H : Hp} {ws : List W} {vs : List V} (h : RL K m H ws vs) : ∀ k : Nat, RL K m H (List.replicate k ws).flatten (List.replicate k vs).flatten
  | 0 => .nil
  | k + 1 => by
    rw [List.replicate_succ, List.replicate_succ, List.flatten_cons, List.flatten_cons]
    exact h.app (RL.rep h k)
def gIx : W → W → Sto → Rz W := fun x y s => match x, y with
  | .str z, .int i => if z.length ≤ 100000 then match atI z.cps.toList i with
      | some c => some (.str ⟨#[c]⟩, s)
      | none => none
    else none
  | x, .int i => match seqOf x s with
    | some ws => match atI ws i with
      | some w => some (w, s)
      | none => none
    | none => none
  | _, _ => none
theorem f_ix : OpF K (rIx K) gIx := by
  intro m H s x y v u Q S rx ry h
  have nope : ∀ {P : Prop}, wE K m H (none : Rz W) Q → P := fun h => by obtain ⟨_, _, e, _⟩ := h; cases e
  have seq : ∀ {i : Int}, u = .int i → (∀ z, x ≠ .str z) → wE K m H (match seqOf x s with
    | some ws => match atI ws i with
      | some w => some (w, s)
      | none => none
    | none => none) Q → rIx K v u H Q := fun {i} e _ h => by
    subst e
    cases es : seqOf x s with
    | none => simp only [es] at h; exact nope h
    | some ws =>
      simp only [es] at h
      cases ea : atI ws i with
      | none => simp only [ea] at h; exact nope h
      | some w =>
        simp only [ea] at h
        obtain ⟨p, vs, rfl, hs, r⟩ := seq_of S rx es
        obtain ⟨v', hv, rv⟩ := r.at_of ea
        rcases hs with hs | hs
        · exact .inr (.inl ⟨p, vs, i, v', rfl, rfl, hs, hv, h.val S _ rv⟩)
        · exact .inl ⟨p, vs, i, v', rfl, rfl, hs, hv, h.val S _ rv⟩
  cases ry with
  | int i =>
    cases x with
    | str z =>
      cases rx
      by_cases q : z.length ≤ 100000
      · simp only [gIx, q, if_true] at h
        cases ea : atI z.cps.toList i with
        | none => simp only [ea] at h; exact nope h
        | some c =>
          simp only [ea] at h
          exact .inr (.inr ⟨z, i, c, rfl, rfl, szl q, ea, h.val S _ (.str _)⟩)
      · simp only [gIx, q, if_false] at h; exact nope h
    | _ => exact seq rfl (fun z e => by cases e) h
  | _ => cases x <;> exact nope h
mutual
def pyW : W → Option PyData
  | .non => some .none
  | .bl b => some (.bool b)
  | .int i => some (.int i)
  | .str x => some (.str x)
  | .tup ws => (pyWs ws).map .tuple
  | .lro ws => (pyWs ws).map .list
  | .ref _ => none
  | .fn _ => none
  | .xob _ => none
def pyWs : List W → Option (List PyData)
  | [] => some []
  | w :: ws => match pyW w, pyWs ws with
    | some d, some ds => some (d :: ds)
    | _, _ => none
end
def pyS (s : Sto) : Nat → W → Option PyData
  | 0, _ => none
  | n + 1, .ref k => match s[k]? with
    | some (.lst ws) => (ws.mapM (pyS s n)).map .list
    | _ => none
  | _ + 1, w => pyW w
mutual
theorem dp_of {m : List Addr} {H : Hp} : ∀ {w : W} {v : V} {d : PyData}, R K m H w v → pyW w = some d → Dp K H v d
  | .non, v, d, r, e => by cases r; rw [pyW] at e; cases e; exact .non
  | .bl _, v, d, r, e => by cases r; rw [pyW] at e; cases e; exact .bl _
  | .int _, v, d, r, e => by cases r; rw [pyW] at e; cases e; exact .int _
  | .str _, v, d, r, e => by cases r; rw [pyW] at e; cases e; exact .str _
  | .tup ws, v, d, r, e => by
    cases r with
    | tup h1 h2 =>
      rw [pyW] at e
      cases eds : pyWs ws with
      | none => rw [eds] at e; cases e
      | some ds =>
        rw [eds] at e
        cases e
        exact .tup h1.sq (dps_of h2 eds)
  | .lro ws, v, d, r, e => by
    cases r with
    | lro h1 h2 =>
      rw [pyW] at e
      cases eds : pyWs ws with
      | none => rw [eds] at e; cases e
      | some ds =>
        rw [eds] at e
        cases e
        exact .lst h1.sq (dps_of h2 eds)
  | .ref _, v, d, r, e => by rw [pyW] at e; cases e
  | .fn _, v, d, r, e => by rw [pyW] at e; cases e
  | .xob _, v, d, r, e => by rw [pyW] at e; cases e
theorem dps_of {m : List Addr} {H : Hp} : ∀ {ws : List W} {vs : List V} {ds : List PyData}, RL K m H ws vs → pyWs ws = some ds → DpAll K H vs ds
  | [], vs, ds, r, e => by cases r; rw [pyWs] at e; cases e; exact .nil
  | w :: ws, vs, ds, r, e => by
    cases r with
    | cons h1 h2 =>
      rw [pyWs] at e
      cases e1 : pyW w with
      | none => rw [e1] at e; cases e
      | some d1 =>
        cases e2 : pyWs ws with
        | none => rw [e1, e2] at e; cases e
        | some d2 =>
          rw [e1, e2] at e
          cases e
          exact .cons (dp_of h1 e1) (dps_of h2 e2)
end
theorem dpS_of {m : List Addr} {H : Hp} {s : Sto} (S : SR K m H s) : ∀ {n : Nat} {w : W} {v : V} {d : PyData}, R K m H w v → pyS s n w = some d → Dp K H v d
  | 0, w, v, d, r, e => by rw [pyS] at e; cases e
  | n + 1, .ref k, v, d, r, e => by
    rw [pyS] at e
    cases ek : s[k]? with
    | none => simp only [ek] at e; cases e
    | some o =>
      cases o with
      | dct _ => simp only [ek] at e; cases e
      | dtt _ => simp only [ek] at e; cases e
      | lam _ _ => simp only [ek] at e; cases e
      | tab _ _ => simp only [ek] at e; cases e
      | dead => simp only [ek] at e; cases e
      | frd _ => simp only [ek] at e; cases e
      | ins _ _ => simp only [ek] at e; cases e
      | lst ws =>
        simp only [ek] at e
        cases em : ws.mapM (pyS s n) with
        | none => rw [em] at e; cases e
        | some ds =>
          rw [em] at e
          cases e
          cases r with
          | @ref _ a hk =>
            obtain ⟨a', ha, vs, h1, h2⟩ := S.at ek
            rw [hk] at ha; cases ha
            refine .lst (SqL.of h1) ?_
            clear hk h1 ek
            induction ws generalizing vs ds with
            | nil => cases h2; cases em; exact .nil
            | cons x r ih =>
              cases h2 with
              | cons r1 r2 =>
                rw [List.mapM_cons] at em
                cases ex : pyS s n x with
                | none => rw [ex] at em; cases em
                | some dx =>
                  rw [ex] at em
                  cases er : r.mapM (pyS s n) with
                  | none => rw [er] at em; cases em
                  | some dr =>
                    rw [er] at em
                    cases em
                    exact .cons (dpS_of S r1 ex) (ih _ er _ r2)
  | _ + 1, .non, v, d, r, e => dp_of r (by simpa only [pyS] using e)
  | _ + 1, .bl _, v, d, r, e => dp_of r (by simpa only [pyS] using e)
  | _ + 1, .int _, v, d, r, e => dp_of r (by simpa only [pyS] using e)
  | _ + 1, .str _, v, d, r, e => dp_of r (by simpa only [pyS] using e)
  | _ + 1, .tup _, v, d, r, e => dp_of r (by simpa only [pyS] using e)
  | _ + 1, .lro _, v, d, r, e => dp_of r (by simpa only [pyS] using e)
  | _ + 1, .fn _, v, d, r, e => by simp only [pyS, pyW] at e; cases e
  | _ + 1, .xob _, v, d, r, e => by simp only [pyS, pyW] at e; cases e
def sEq : W → W → Option Bool
  | .int i, .int j => some (decide (i = j))
  | .str a, .str b => some (decide (a = b))
  | .bl a, .bl b => some (decide (a = b))
  | .non, .non => some true
  | .non, .int _ => some false
  | .int _, .non => some false
  | .non, .str _ => some false
  | .str _, .non => some false
  | .non, .bl _ => some false
  | .bl _, .non => some false
  | .int _, .str _ => some false
  | .str _, .int _ => some false
  | .bl _, .str _ => some false
  | .str _, .bl _ => some false
  | _, _ => none
def datEq (s : Sto) (x y : W) : Option Bool := match pyS s 3 x, pyS s 3 y with
  | some d, some e => if SeqAt.shaped d = true ∧ SeqAt.shaped e = true then some (PyData.eqv d e) else none
  | _, _ => none
def eqW (s : Sto) (x y : W) : Option Bool := match sEq x y with
  | some b => some b
  | none => datEq s x y
def gEq : W → W → Sto → Rz W := fun x y s => match eqW s x y with
  | some b => some (.bl b, s)
  | none => none
def gNe : W → W → Sto → Rz W := fun x y s => match eqW s x y with
  | some b => some (.bl (!b), s)
  | none => none
def rEqA (K : PySem.W.Frag) : R2 := fun x y H Q => rEq x y H Q ∨ rEqD K x y H Q
def rNeA (K : PySem.W.Frag) : R2 := fun x y H Q => rNe x y H Q ∨ rNeD K x y H Q
theorem op_eqA {X : Cx} (hu : X.A.units + 64 < cLine) : OpR X (compareOp .Eq) (rEqA X.K) := op_eq.or (op_eqD hu)
theorem op_neA {X : Cx} (hu : X.A.units + 64 < cLine) : OpR X (compareOp .NotEq) (rNeA X.K) := op_ne.or (op_neD hu)
theorem eq_cases {m : List Addr} {H : Hp} {s : Sto} {x y : W} {v u : V} {b : Bool} (S : SR K m H s) (rx : R K m H x v) (ry : R K m H y u) (e : eqW s x y = some b) :
    (scal v u = true ∧ decide (v = u) = b) ∨ ∃ d d', Dp K H v d ∧ Dp K H u d' ∧ SeqAt.shaped d = true ∧ SeqAt.shaped d' = true ∧ PyData.eqv d d' = b := by
  unfold eqW at e
  cases es : sEq x y with
  | some b' =>
    simp only [es] at e
    cases e
    left
    cases rx <;> cases ry <;> simp only [sEq, Option.some.injEq, reduceCtorEq] at es <;> subst es <;> refine ⟨rfl, ?_⟩ <;> simp
  | none =>
    simp only [es] at e
    right
    unfold datEq at e
    cases e1 : pyS s 3 x with
    | none => simp only [e1] at e; cases e
    | some d =>
      cases e2 : pyS s 3 y with
      | none => simp only [e1, e2] at e; cases e
      | some d' =>
        simp only [e1, e2] at e
        split at e
        · rename_i hh
          cases e
          exact ⟨d, d', dpS_of S rx e1, dpS_of S ry e2, hh.1, hh.2, rfl⟩
        · cases e
theorem f_eq : OpF K (rEqA K) gEq := by
  intro m H s x y v u Q S rx ry h
  cases e : eqW s x y with
  | none => simp only [gEq, e] at h; obtain ⟨_, _, e, _⟩ := h; cases e
  | some b =>
    simp only [gEq, e] at h
    have q := h.val S _ (.bl b)
    rcases eq_cases S rx ry e with ⟨h1, h2⟩ | ⟨d, d', h1, h2, h3, h4, h5⟩
    · exact .inl ⟨h1, by rw [h2]; exact q⟩
    · exact .inr ⟨d, d', h1, h2, h3, h4, by rw [h5]; exact q⟩
theorem f_ne : OpF K (rNeA K) gNe := by
  intro m H s x y v u Q S rx ry h
  cases e : eqW s x y with
  | none => simp only [gNe, e] at h; obtain ⟨_, _, e, _⟩ := h; cases e
  | some b =>
    simp only [gNe, e] at h
    have q := h.val S _ (.bl (!b))
    rcases eq_cases S rx ry e with ⟨h1, h2⟩ | ⟨d, d', h1, h2, h3, h4, h5⟩
    · exact .inl ⟨h1, by rw [h2]; exact q⟩
    · exact .inr ⟨d, d', h1, h2, h3, h4, by rw [h5]; exact q⟩
def isNon : W → Bool
  | .non => true
  | _ => false
def gIs : W → W → Sto → Rz W := fun x y s => match x, y with
  | .bl a, .bl b => some (.bl (decide (a = b)), s)
  | x, .non => some (.bl (isNon x), s)
  | .non, .bl _ => some (.bl false, s)
  | .int _, .bl _ => some (.bl false, s)
  | .str _, .bl _ => some (.bl false, s)
  | .ref _, .bl _ => some (.bl false, s)
  | .tup _, .bl _ => some (.bl false, s)
  | _, _ => none
def gIsNot : W → W → Sto → Rz W := fun x y s => match x, y with
  | .bl a, .bl b => some (.bl (!decide (a = b)), s)
  | x, .non => some (.bl (!isNon x), s)
  | .non, .bl _ => some (.bl true, s)
  | .int _, .bl _ => some (.bl true, s)
  | .str _, .bl _ => some (.bl true, s)
  | .ref _, .bl _ => some (.bl true, s)
  | .tup _, .bl _ => some (.bl true, s)
  | _, _ => none

def noB (x : V) : Prop := x = .non ∨ (∃ i, x = .int i) ∨ (∃ z, x = .str z) ∨ ∃ a, x = .ref a
def rIsA : R2 := fun x y H Q => (y = .non ∧ Q (.bl (decide (x = .non))) H) ∨ rIsB x y H Q ∨ (∃ b, noB x ∧ y = .bl b ∧ Q (.bl false) H)
def rNotA : R2 := fun x y H Q => (y = .non ∧ Q (.bl (!decide (x = .non))) H) ∨ rNotB x y H Q ∨ (∃ b, noB x ∧ y = .bl b ∧ Q (.bl true) H)
def flatW : W → Bool
  | .non => true
  | .bl _ => true
  | .int _ => true
  | .str _ => true
  | _ => false
def eqF : W → W → Bool
  | .non, .non => true
  | .bl a, .bl b => a == b
  | .bl a, .int b => (if a then 1 else 0) == b
  | .int a, .bl b => a == (if b then 1 else 0)
  | .int a, .int b => a == b
  | .str a, .str b => a == b
  | _, _ => false
def inW (x : W) (ws : List W) : Bool := ws.any fun y => eqF y x
def datIn (s : Sto) (x y : W) : Option Bool := match pyS s 3 x, pyS s 3 y with
  | some d, some (.list ds) => if SeqAt.shaped d = true ∧ SeqAt.shaped (.list ds) = true then some (ds.any fun z => PyData.eqv z d) else none
  | _, _ => none
def insW (s : Sto) (x y : W) : Option Bool := match x, y with
  | .str a, .str z => some (!(Builtin.Str.occurrences z a 0 z.length 1).isEmpty)
  | x, y => match seqOf y s with
    | some ws => if flatW x = true ∧ ws.all flatW = true then some (inW x ws) else datIn s x y
    | none => none
def gIn : W → W → Sto → Rz W := fun x y s => match insW s x y with
  | some b => some (.bl b, s)
  | none => none
def gNotIn : W → W → Sto → Rz W := fun x y s => match insW s x y with
  | some b => some (.bl (!b), s)
  | none => none
def rInA (K : PySem.W.Frag) : R2 := fun x y H Q => rIn K false x y H Q ∨ (∃ i j, x = .str i ∧ y = .str j ∧ Q (.bl (!(Builtin.Str.occurrences j i 0 j.length 1).isEmpty)) H) ∨ rInD K x y H Q
def rNotInA (K : PySem.W.Frag) : R2 := fun x y H Q => rIn K true x y H Q ∨ (∃ i j, x = .str i ∧ y = .str j ∧ Q (.bl (!(!(Builtin.Str.occurrences j i 0 j.length 1).isEmpty))) H) ∨ rNotInD K x y H Q
def lenW (x : W) (s : Sto) : Option Nat := match x with
  | .str z => if z.length ≤ sizeLine then some z.length else none
  | .ref n => match s[n]? with
    | some (.lst ws) => some ws.length
    | some (.dct kvs) => some kvs.length
    | _ => none
  | x => (seqOf x s).map List.length
def gLen : List W → Sto → Rz W := fun ws s => match ws with
  | [x] => match lenW x s with
    | some n => some (.int n, s)
    | none => none
  | _ => none
def rLenA (K : PySem.W.Frag) : List V → Hp → VK → Prop := fun xs H Q => (∃ p ys, xs = [.ref p] ∧ (SqL K H p ys ∨ SqT K H p ys) ∧ Q (.int ys.length) H) ∨ (∃ z, xs = [.str z] ∧ z.length ≤ sizeLine ∧ Q (.int z.length) H) ∨ (∃ d kvs, xs = [V.ref d] ∧ H d = some (.dK kvs) ∧ Q (.int kvs.length) H)
theorem RK.len {m : List Addr} {H : Hp} : ∀ {ws : List (Key × W)} {vs : List (Key × V)}, RK K m H ws vs → vs.length = ws.length
  | [], _, h => by cases h; rfl
  | w :: ws, _, h => by
    cases h with
    | cons h1 h2 => rw [List.length_cons, List.length_cons, RK.len h2]
end
end Mir

set_option Elab.async false
set_option linter.all false
set_option maxRecDepth 100000
namespace Vr
open PySem PySem.Spec PyProof.Rows L2
theorem ext_meets (l : Addr) (xs : Array Value) (n : Nat) (b : Addr) (ys : Array Value) (m : Nat) (dd : Option Addr) (sl : Array (Option Value)) (h0 : ¬(!xs.isEmpty && Builtin.List.listTooLong (xs.size + ys.size)) = true) (h1 : xs.size ≤ sizeLine) (h2 : xs.size + ys.size ≤ sizeLine + 1) :
    Meets (Builtin.«list.extend» ⟨[.ref l, .ref b], []⟩) (fun _ R s => s.heap.get? l = some { cls := .type "list", dict := none, data := .seq xs n, slots := #[] } ∧ s.heap.get? b = some { cls := .type "tuple", dict := dd, data := .seq ys m, slots := sl } ∧
      R (.ok (.ret Value.none)) { s with heap := s.heap.update l (Obj.mapSeq fun x => x ++ ys), toks := s.toks }) :=
  .of_wp fun prog w A R s h => by
    obtain ⟨hp, g, d, tk, os⟩ := s
    obtain ⟨hl, hb, h⟩ := h
    have f1 := AutoSeq1.idx_int
    have f2 := AutoSeq1.sub_tuple_tuple
    have f3 := AutoSeq1.sub_list_list
    have f4 := AutoSeq1.sub_tuple_list
    have f5 := AutoSeq1.sub_list_tuple
    have hz : (xs ++ ys).size ≤ sizeLine + 1 := by
      rw [Array.size_append]
      exact h2
    wp_walk using (wpAny_updateSeq hl rfl (hz := h1) (_hz' := hz)), AutoSeq1.wpAny_loadPart' hl, AutoSeq1.wpAny_loadPart' hb
    exact ⟨_, rfl, h⟩
section
variable {X : Cx}
def rExtT (K : PySem.W.Frag) : V → List V → Hp → VK → Prop := fun x vs H Q => ∃ l b xs zs, x = .ref l ∧ vs = [.ref b] ∧ H l = some (.lst xs) ∧ SqT K H b zs ∧ xs.length + zs.length ≤ sizeLine ∧ Q .non (upd H l (.lst (xs ++ zs)))
theorem mt_extendT : MtM X "list.extend" (rExtT X.K) := by
  intro pins s σ H x vs v us Q I rx rv h
  obtain ⟨l, b, xs, zs, rfl, rfl, hH, hB, hz, q⟩ := h
  cases rx
  obtain ⟨u, rfl, ru⟩ := rv.one
  cases ru
  obtain ⟨z, its, n, r, hl, e⟩ := I.lstM hH
  obtain ⟨its2, r2, ht2, z2⟩ := I.tuple hB
  have len1 := r.length
  have len2 := r2.length
  obtain ⟨o2, ho2, hc2, n2, hd2⟩ := id ht2
  obtain ⟨c2, dd2, da2, sl2⟩ := o2
  simp only at hc2 hd2
  subst hc2 hd2
  have total : its.toArray.size + its2.toArray.size ≤ sizeLine := by
    rw [List.size_toArray, List.size_toArray]
    omega
  have short : ¬ (!its.toArray.isEmpty && Builtin.List.listTooLong (its.toArray.size + its2.toArray.size)) = true := by
    rw [notLongL total, Bool.and_false]
    exact Bool.false_ne_true
  refine call_meets PySem.F.slot_list_extend ⟨_, e, rfl⟩ PySem.F.entry_list_extend (PySem.F.args_list_extend_2 _ _)
    (ext_meets l its.toArray n b its2.toArray n2 dd2 sl2 short (by rw [List.size_toArray]; omega) (by omega)) ⟨e, ho2, ?_⟩
  refine ⟨.non, _, I.lset (its' := its ++ its2) hH e (by simp) (r.append r2) ?_, rfl, q⟩
  rw [List.length_append]
  omega
end

section
variable {prog : Program} {w : World} {A : Around} {E : Value → Shared → Prop} {s : Shared}
end
def tRevT (K : PySem.W.Frag) (te : TE) : TE := fun σ H Q => te σ H fun x H1 => ∃ a xs, x = .ref a ∧ SqT K H1 a xs ∧ ∀ p, H1 p = none → Q (.ref p) (upd H1 p (.tup xs.reverse))
section
variable {X : Cx}
end

section
variable {prog : Program} {w : World} {A : Around} {E : Value → Shared → Prop} {s : Shared} {T : String} {r d : Addr} {n : Nat} {P : Nat → Value → Prop} {OK : Heap → Prop}
open PySem.W in
open PySem.W in
open PySem.W in
end
section
variable {X : Cx}
end
end Vr

set_option Elab.async false
set_option linter.all false
set_option maxRecDepth 100000
namespace Mir
open PySem PySem.Spec PyProof.Rows L2
section
variable {K : PySem.W.Frag}
theorem nopeE {m : List Addr} {H : Hp} {Q : VK} {P : Prop} (h : wE K m H (none : Rz W) Q) : P := by obtain ⟨_, _, e, _⟩ := h; cases e
theorem nopeE' {m : List Addr} {H : Hp} {Q : VK} {P : Prop} {x : Rz W} (h : wE K m H x Q) (e : x = none) : P := by rw [e] at h; exact nopeE h
theorem call_lenA {X : Cx} : CallR X (.builtin "len") (rLenA X.K) := call_len_seq.or (call_len_str.or call_lenD)
theorem f_len : CallF K (rLenA K) gLen := by
  intro m H s ws vs Q S r h
  cases r with
  | nil => exact nopeE h
  | @cons x v ws vs r1 r2 =>
    cases r2 with
    | cons _ _ => exact nopeE h
    | nil =>
      have seq : ∀ {xs}, seqOf x s = some xs → Q (.int xs.length) H → rLenA K [v] H Q := fun {xs} e q => by
        obtain ⟨p, vs, rfl, hs, r⟩ := seq_of S r1 e
        rw [← r.len] at q
        exact .inl ⟨p, vs, rfl, hs.symm, q⟩
      cases r1 with
      | str z =>
        by_cases q : z.length ≤ sizeLine
        · simp only [gLen, lenW, q, if_true] at h
          exact .inr (.inl ⟨z, rfl, q, h.val S _ (.int _)⟩)
        · simp only [gLen, lenW, q, if_false] at h; exact nopeE h
      | tup h1 h2 => exact seq rfl (h.val S _ (.int _))
      | lro h1 h2 => exact seq rfl (h.val S _ (.int _))
      | @ref n a h1 =>
        cases en : s[n]? with
        | none => simp only [gLen, lenW, en] at h; exact nopeE h
        | some o =>
          cases o with
          | lst xs =>
            simp only [gLen, lenW, en] at h
            exact seq (by simp only [seqOf, en]) (h.val S _ (.int _))
          | dtt _ => exact nopeE' h (by simp only [gLen, lenW, en])
          | dct kvs =>
            simp only [gLen, lenW, en] at h
            obtain ⟨a', h2, vs, h3, h4⟩ := S.at en
            rw [h1] at h2; cases h2
            have q := h.val S _ (.int _)
            rw [← h4.len] at q
            exact .inr (.inr ⟨a, vs, rfl, h3, q⟩)
          | _ => simp only [gLen, lenW, en] at h; exact nopeE h
      | _ => exact nopeE h
def g1I (f : Int → W) : List W → Sto → Rz W := fun ws s => match ws with
  | [.int i] => some (f i, s)
  | _ => none
def g2I (f : Int → Int → W) : List W → Sto → Rz W := fun ws s => match ws with
  | [.int i, .int j] => some (f i j, s)
  | _ => none
abbrev gAbs := g1I fun i => .int (if i < 0 then -i else i)
abbrev gMax2 := g2I fun i j => .int (if j > i then j else i)
abbrev gMin2 := g2I fun i j => .int (if j < i then j else i)
def gInt1 : List W → Sto → Rz W := fun ws s => match ws with
  | [.int i] => some (.int i, s)
  | [.bl k] => some (.int (if k then 1 else 0), s)
  | _ => none
theorem f_int1 : CallF K (fun xs H Q => (∃ i, xs = [.int i] ∧ Q (.int i) H) ∨ ∃ k, xs = [.bl k] ∧ Q (.int (if k then 1 else 0)) H) gInt1 := by
  intro m H s ws vs Q S r h
  cases r with
  | nil => exact nopeE h
  | cons r1 r2 =>
    cases r2 with
    | cons _ _ => cases r1 <;> exact nopeE h
    | nil =>
      cases r1 with
      | int i => exact .inl ⟨i, rfl, h.val S _ (.int _)⟩
      | bl i => exact .inr ⟨i, rfl, h.val S _ (.int _)⟩
      | _ => exact nopeE h
def gStr1 : List W → Sto → Rz W := fun ws s => match ws with
  | [.int i] => if i.natAbs.log2 < 1920 then some (.str (toString i), s) else none
  | _ => none
def gTuple : List W → Sto → Rz W := fun ws s => match ws with
  | [.tup xs] => some (.tup xs, s)
  | [x] => match seqOf x s with
    | some xs => some (.tup xs, s)
    | none => none
  | _ => none
def gList : List W → Sto → Rz W := fun ws s => match ws with
  | [x] => match seqOf x s with
    | some xs => some (.ref s.length, s ++ [.lst xs])
    | none => none
  | _ => none
theorem f_tuple : CallF K (fun xs H Q => ∃ p ys, xs = [.ref p] ∧ ((SqL K H p ys ∧ ∀ l, H l = none → Q (.ref l) (upd H l (.tup ys))) ∨ (SqT K H p ys ∧ Q (.ref p) H))) gTuple := by
  intro m H s ws vs Q S r h
  cases r with
  | nil => exact nopeE h
  | @cons x v ws vs r1 r2 =>
    cases r2 with
    | cons _ _ => cases r1 <;> exact nopeE h
    | nil =>
      have lst : ∀ {p xs ys}, v = .ref p → SqL K H p ys → RL K m H xs ys → wE K m H (some (.tup xs, s)) Q → ∃ p ys, [v] = [.ref p] ∧ ((SqL K H p ys ∧ ∀ l, H l = none → Q (.ref l) (upd H l (.tup ys))) ∨ (SqT K H p ys ∧ Q (.ref p) H)) := fun {p xs ys} e hs r ⟨w, s', e2, q⟩ => by
        subst e
        cases e2
        exact ⟨p, ys, rfl, .inl ⟨hs, fun l hl => new_tup S r hl q⟩⟩
      cases r1 with
      | tup h1 h2 => exact ⟨_, _, rfl, .inr ⟨h1.sq, h.val S _ (.tup h1 h2)⟩⟩
      | lro h1 h2 => exact lst rfl h1.sq h2 h
      | @ref n a h1 =>
        cases en : s[n]? with
        | none => exact nopeE' h (by simp only [gTuple, seqOf, en])
        | some o =>
          cases o with
          | dct _ => exact nopeE' h (by simp only [gTuple, seqOf, en])
          | dtt _ => exact nopeE' h (by simp only [gTuple, seqOf, en])
          | lam _ _ => exact nopeE' h (by simp only [gTuple, seqOf, en])
          | tab _ _ => exact nopeE' h (by simp only [gTuple, seqOf, en])
          | dead => exact nopeE' h (by simp only [gTuple, seqOf, en])
          | frd _ => exact nopeE' h (by simp only [gTuple, seqOf, en])
          | ins _ _ => exact nopeE' h (by simp only [gTuple, seqOf, en])
          | lst xs =>
            obtain ⟨a', h2, vs, h3, h4⟩ := S.at en
            rw [h1] at h2; cases h2
            refine lst rfl (SqL.of h3) h4 ?_
            have e : gTuple [.ref n] s = some (.tup xs, s) := by simp only [gTuple, seqOf, en]
            rw [e] at h
            exact h
      | _ => exact nopeE h
theorem f_list : CallF K (fun xs H Q => ∃ p ys, xs = [.ref p] ∧ (SqL K H p ys ∨ SqT K H p ys) ∧ ∀ l, H l = none → Q (.ref l) (upd H l (.lst ys))) gList := by
  intro m H s ws vs Q S r h
  cases r with
  | nil => exact nopeE h
  | @cons x v ws vs r1 r2 =>
    cases r2 with
    | cons _ _ => exact nopeE h
    | nil =>
      cases es : seqOf x s with
      | none => exact nopeE' h (by simp only [gList, es])
      | some xs =>
        simp only [gList, es] at h
        obtain ⟨p, ys, rfl, hs, r⟩ := seq_of S r1 es
        obtain ⟨w, s', e2, q⟩ := h
        cases e2
        exact ⟨p, ys, rfl, hs.symm, fun l hl => new_lst S r hl q⟩
def intsOf : List W → Option (List Int)
  | [] => some []
  | .int i :: r => match intsOf r with
    | some is => some (i :: is)
    | none => none
  | _ => none
def blsOf : List W → Option (List Bool)
  | [] => some []
  | .bl i :: r => match blsOf r with
    | some is => some (i :: is)
    | none => none
  | _ => none
def strsOf : List W → Option (List Str)
  | [] => some []
  | .str i :: r => match strsOf r with
    | some is => some (i :: is)
    | none => none
  | _ => none
def lstOf (x : W) (s : Sto) : Option (List W) := match x with
  | .lro ws => some ws
  | .ref n => match s[n]? with
    | some (.lst ws) => some ws
    | _ => none
  | _ => none
theorem lst_of {m : List Addr} {H : Hp} {s : Sto} {x : W} {v : V} {ws : List W} (S : SR K m H s) (r : R K m H x v) (h : lstOf x s = some ws) : ∃ p vs, v = .ref p ∧ SqL K H p vs ∧ RL K m H ws vs := by
  cases r with
  | lro h1 h2 => cases h; exact ⟨_, _, rfl, h1.sq, h2⟩
  | @ref n a h1 =>
    cases e : s[n]? with
    | none => simp only [lstOf, e] at h; cases h
    | some o =>
      cases o with
      | dct _ => simp only [lstOf, e] at h; cases h
      | dtt _ => simp only [lstOf, e] at h; cases h
      | lam _ _ => simp only [lstOf, e] at h; cases h
      | tab _ _ => simp only [lstOf, e] at h; cases h
      | dead => simp only [lstOf, e] at h; cases h
      | frd _ => simp only [lstOf, e] at h; cases h
      | ins _ _ => simp only [lstOf, e] at h; cases h
      | lst ws' =>
        simp only [lstOf, e] at h
        cases h
        obtain ⟨a', h2, vs, h3, h4⟩ := S.at e
        rw [h1] at h2
        cases h2
        exact ⟨_, _, rfl, SqL.of h3, h4⟩
  | _ => cases h
def gLB (f : List Bool → Bool) : List W → Sto → Rz W := fun ws s => match ws with
  | [x] => match lstOf x s with
    | some xs => match blsOf xs with
      | some bs => some (.bl (f bs), s)
      | none => none
    | none => none
  | _ => none
abbrev gAll := gLB fun bs => bs.all id
abbrev gAny := gLB fun bs => bs.any id
def gSum : List W → Sto → Rz W := fun ws s => match ws with
  | [x] => match lstOf x s with
    | some xs => match intsOf xs with
      | some is => some (.int is.sum, s)
      | none => none
    | none => none
  | _ => none
def maxI : List Int → Int
  | [] => 0
  | x :: r => r.foldl (fun a b => if b > a then b else a) x
def gMaxL : List W → Sto → Rz W := fun ws s => match ws with
  | [x] => match lstOf x s with
    | some xs => match intsOf xs with
      | some is => if 0 < is.length then some (.int (maxI is), s) else none
      | none => none
    | none => none
  | _ => none
def isL (x : W) (s : Sto) : Bool := match x with
  | .ref n => match s[n]? with
    | some (.lst _) => true
    | _ => false
  | _ => false
theorem isL_ty {m : List Addr} {H : Hp} {s : Sto} {x : W} {v : V} (S : SR K m H s) (r : R K m H x v) (h : isL x s = true) : tyV K "list" v H := by
  cases r with
  | @ref n a h1 =>
    cases e : s[n]? with
    | none => simp only [isL, e] at h; cases h
    | some o =>
      cases o with
      | dct _ => simp only [isL, e] at h; cases h
      | dtt _ => simp only [isL, e] at h; cases h
      | lam _ _ => simp only [isL, e] at h; cases h
      | tab _ _ => simp only [isL, e] at h; cases h
      | dead => simp only [isL, e] at h; cases h
      | frd _ => simp only [isL, e] at h; cases h
      | ins _ _ => simp only [isL, e] at h; cases h
      | lst ws =>
        obtain ⟨a', h2, vs, h3, h4⟩ := S.at e
        rw [h1] at h2; cases h2
        exact .inl ⟨rfl, vs, SqL.of h3⟩
  | _ => cases h
def gLm (f : List W → List W → Sto → Option (W × List W)) : W → List W → Sto → Rz W := fun x as s => match x with
  | .ref n => match s[n]? with
    | some (.lst ws) => match f ws as s with
      | some (w, ws') => some (w, s.set n (.lst ws'))
      | none => none
    | _ => none
  | _ => none
theorem f_Lm {r : V → List V → Hp → VK → Prop} {f : List W → List W → Sto → Option (W × List W)}
    (h : ∀ m H s l (ws : List W) (vs : List V) as bs w ws' Q, SR K m H s → H l = some (.lst vs) → RL K m H ws vs → RL K m H as bs → f ws as s = some (w, ws') → (∀ z zs, (∀ m' H', Ext m H m' H' → R K m' H' w z) → (∀ m' H', Ext m H m' H' → RL K m' H' ws' zs) → Q z (upd H l (.lst zs))) → r (.ref l) bs H Q) : MtF K r (gLm f) := by
  intro m H s x v ws vs Q S rx rs hw
  cases rx with
  | @ref n a h1 =>
    cases e : s[n]? with
    | none => exact nopeE' hw (by simp only [gLm, e])
    | some o =>
      cases o with
      | dct _ => exact nopeE' hw (by simp only [gLm, e])
      | dtt _ => exact nopeE' hw (by simp only [gLm, e])
      | lam _ _ => exact nopeE' hw (by simp only [gLm, e])
      | tab _ _ => exact nopeE' hw (by simp only [gLm, e])
      | dead => exact nopeE' hw (by simp only [gLm, e])
      | frd _ => exact nopeE' hw (by simp only [gLm, e])
      | ins _ _ => exact nopeE' hw (by simp only [gLm, e])
      | lst xs =>
        obtain ⟨a', h2, ys, h3, h4⟩ := S.at e
        rw [h1] at h2; cases h2
        cases ef : f xs ws s with
        | none => exact nopeE' hw (by simp only [gLm, e, ef])
        | some p =>
          obtain ⟨w, ws'⟩ := p
          simp only [gLm, e, ef] at hw
          obtain ⟨w2, s2, e2, q⟩ := hw
          cases e2
          refine h m H s a xs ys ws vs w ws' Q S h3 h4 rs ef fun z zs hz hzs => ?_
          have A := Adv.write S h1 (o := .lst zs) ⟨_, h3, .inl ⟨_, rfl⟩⟩
          exact q m _ z A (S.write h1 ⟨_, h3, .inl ⟨_, rfl⟩⟩ ⟨zs, upd_same, hzs m _ A.ext⟩) (hz m _ A.ext)
  | _ => exact nopeE hw
def fAppend : List W → List W → Sto → Option (W × List W) := fun ws as _ => match as with
  | [x] => if ws.length ≤ 100000 then some (.non, ws ++ [x]) else none
  | _ => none
abbrev gAppend := gLm fAppend
theorem f_append : MtF K rAppend gAppend := f_Lm fun m H s l ws vs as bs w ws' Q S hl r ra e q => by
  cases ra with
  | nil => cases e
  | cons a1 a2 =>
    cases a2 with
    | cons _ _ => cases e
    | nil =>
      by_cases hz : ws.length ≤ 100000
      · simp only [fAppend, hz, if_true] at e
        cases e
        exact ⟨l, vs, _, rfl, rfl, hl, szt (by rw [r.len]; exact hz), q .non _ (fun _ _ _ => .non) fun _ _ E => (r.ext E).app (RL.one (a1.ext E))⟩
      · simp only [fAppend, hz, if_false] at e
        cases e
def fPop : List W → List W → Sto → Option (W × List W) := fun ws as _ => match as with
  | [] => match ws[ws.length - 1]? with
    | some x => some (x, ws.dropLast)
    | none => none
  | _ => none
abbrev gPop := gLm fPop
def fPopAt : List W → List W → Sto → Option (W × List W) := fun ws as _ => match as with
  | [.int i] => if -(2 ^ 63) ≤ i ∧ i < 2 ^ 63 then match seqIndex? i ws.length with
    | some k => match ws[k]? with
      | some x => some (x, ws.eraseIdx k)
      | none => none
    | none => none
    else none
  | _ => none
abbrev gPopAt := gLm fPopAt
def fExtend : List W → List W → Sto → Option (W × List W) := fun ws as s => match as with
  | [.tup xs] => if ws.length + xs.length ≤ 100000 then some (.non, ws ++ xs) else none
  | [.ref k] => match s[k]? with
    | some (.lst xs) => if ws.length + xs.length ≤ 100000 then some (.non, ws ++ xs) else none
    | _ => none
  | _ => none
abbrev gExtend := gLm fExtend
def rExtA (K : PySem.W.Frag) : V → List V → Hp → VK → Prop := fun x vs H Q => rExtend x vs H Q ∨ Vr.rExtT K x vs H Q
theorem f_extend : MtF K (rExtA K) gExtend := f_Lm fun m H s l ws vs as bs w ws' Q S hl r ra e q => by
  cases ra with
  | nil => cases e
  | cons a1 a2 =>
    cases a2 with
    | cons _ _ => cases a1 <;> cases e
    | nil =>
      cases a1 with
      | @tup p ys xs h1 h2 =>
        by_cases hz : ws.length + xs.length ≤ 100000
        · simp only [fExtend, hz, if_true] at e
          cases e
          exact .inr ⟨l, p, vs, ys, rfl, rfl, hl, h1.sq, szl (by rw [r.len, h2.len]; exact hz), q .non _ (fun _ _ _ => .non) fun _ _ E => (r.ext E).app (h2.ext E)⟩
        · simp only [fExtend, hz, if_false] at e
          cases e
      | @ref k b h1 =>
        cases ek : s[k]? with
        | none => simp only [fExtend, ek] at e; cases e
        | some o =>
          cases o with
          | dct _ => simp only [fExtend, ek] at e; cases e
          | dtt _ => simp only [fExtend, ek] at e; cases e
          | lam _ _ => simp only [fExtend, ek] at e; cases e
          | tab _ _ => simp only [fExtend, ek] at e; cases e
          | dead => simp only [fExtend, ek] at e; cases e
          | frd _ => simp only [fExtend, ek] at e; cases e
          | ins _ _ => simp only [fExtend, ek] at e; cases e
          | lst xs =>
            simp only [fExtend, ek] at e
            by_cases hz : ws.length + xs.length ≤ 100000
            · simp only [hz, if_true] at e
              cases e
              obtain ⟨b', h2, ys, h3, h4⟩ := S.at ek
              rw [h1] at h2; cases h2
              exact .inl ⟨l, b, vs, ys, rfl, rfl, hl, h3, szl (by rw [r.len, h4.len]; exact hz), q .non _ (fun _ _ _ => .non) fun _ _ E => (r.ext E).app (h4.ext E)⟩
            · simp only [hz, if_false] at e
              cases e
      | _ => cases e
end
section
variable {X : Cx} {e o : Expr} {es : List Expr}
theorem m_bm {T id : String} {name : Str} {apos cpos : Pos} {r : V → List V → Hp → VK → Prop} {c : W → Sto → Bool} {g : W → List W → Sto → Rz W} {f : FE} {fa : FA} (pa : PlainAttrs T) (slot : Slot T name id) (hty : typeOf (.builtin id) = pure (.type "method_descriptor")) (hm : MtR X id r)
    (hc : ∀ m H s x v, SR X.K m H s → R X.K m H x v → c x s = true → tyV X.K T v H) (hg : MtF X.K r g) (ho : PE X o (tF X.K f)) (ha : PA X (e :: es) (tA X.K fa))
    (hbase : attributeBase o name X.env (eval o X.env) = eval o X.env := by rfl)
    (hfew : ((backTo cpos (starEach (e :: es) X.env)).all (fun x => !x.1) && (backToKw cpos (keywordEach [] X.env)).all (fun x => x.1.isSome)
      && decide ((e :: es).length + ([] : List Keyword).length + (if ([] : List Keyword).isEmpty then 0 else 1) < 30)) = true := by rfl)
    (hline : (apos.endLine == cpos.line) = true := by rfl) (hs : starEach (e :: es) X.env = (false, eval e X.env) :: starEach es X.env := by rfl) (hplain : (backTo cpos (starEach es X.env)).any (·.1) = false := by rfl) :
    PE X (.Call (.Attribute o name apos) (e :: es) [] cpos) (tF X.K (eMt c g f fa)) :=
  (pe_bm pa slot hty hm ho ha hbase hfew hline hs hplain).imp fun σ H Q ⟨m, ρ, s, er, sr, w, s', e, q⟩ => by
    obtain ⟨x, s1, e1, e⟩ := bd_inv e
    split at e
    · rename_i hcx
      obtain ⟨xs, s2, e2, e⟩ := bd_inv e
      exact ⟨m, ρ, s, er, sr, x, s1, e1, fun m1 H1 v A1 S1 r1 => ⟨hc m1 H1 s1 x v S1 r1 hcx, m1, ρ, s1, er.adv A1, S1, xs, s2, e2, fun m2 H2 vs A2 S2 r2 => hg m2 H2 s2 x v xs vs Q S2 (r1.adv A2) r2 ⟨w, s', e, fun m3 H3 z A3 => q m3 H3 z ((A1.trans A2).trans A3)⟩⟩⟩
    · cases e
theorem m_append {f : FE} {fa : FA} {apos cpos : Pos} (ho : PE X o (tF X.K f)) (ha : PA X [e] (tA X.K fa)) (hbase : attributeBase o "append" X.env (eval o X.env) = eval o X.env := by rfl)
    (hfew : ((backTo cpos (starEach [e] X.env)).all (fun x => !x.1) && (backToKw cpos (keywordEach [] X.env)).all (fun x => x.1.isSome)
      && decide ([e].length + ([] : List Keyword).length + (if ([] : List Keyword).isEmpty then 0 else 1) < 30)) = true := by rfl)
    (hline : (apos.endLine == cpos.line) = true := by rfl) (hs : starEach [e] X.env = (false, eval e X.env) :: starEach [] X.env := by rfl) (hplain : (backTo cpos (starEach [] X.env)).any (·.1) = false := by rfl) :
    PE X (.Call (.Attribute o "append" apos) [e] [] cpos) (tF X.K (eMt isL gAppend f fa)) :=
  m_bm PySem.F.plainAttrs_list PySem.F.slot_list_append PySem.F.type_list_append mt_append (fun _ _ _ _ _ S r h => isL_ty S r h) f_append ho ha hbase hfew hline hs hplain
theorem m_extend {f : FE} {fa : FA} {apos cpos : Pos} (ho : PE X o (tF X.K f)) (ha : PA X [e] (tA X.K fa)) (hbase : attributeBase o "extend" X.env (eval o X.env) = eval o X.env := by rfl)
    (hfew : ((backTo cpos (starEach [e] X.env)).all (fun x => !x.1) && (backToKw cpos (keywordEach [] X.env)).all (fun x => x.1.isSome)
      && decide ([e].length + ([] : List Keyword).length + (if ([] : List Keyword).isEmpty then 0 else 1) < 30)) = true := by rfl)
    (hline : (apos.endLine == cpos.line) = true := by rfl) (hs : starEach [e] X.env = (false, eval e X.env) :: starEach [] X.env := by rfl) (hplain : (backTo cpos (starEach [] X.env)).any (·.1) = false := by rfl) :
    PE X (.Call (.Attribute o "extend" apos) [e] [] cpos) (tF X.K (eMt isL gExtend f fa)) :=
  m_bm PySem.F.plainAttrs_list PySem.F.slot_list_extend PySem.F.type_list_extend (MtR.or (show MtR X "list.extend" rExtend from mt_extend) Vr.mt_extendT) (fun _ _ _ _ _ S r h => isL_ty S r h) f_extend ho ha hbase hfew hline hs hplain
end
end Mir

set_option Elab.async false
set_option linter.all false
set_option maxRecDepth 100000
namespace PySem
open Sem (wp)
open AutoSeq1 (wpAny_loadPart')
end PySem
namespace Vr
open PySem PySem.Spec PyProof.Rows L2
def IteT (K : PySem.W.Frag) (a : Addr) : It :=
  ⟨fun i H => ∃ (xs : List V) (x : V), SqT K H a xs ∧ xs[i]? = some x, fun i H v H' => ∃ T x, v = .ref T ∧ H T = none ∧ H' = upd H T (.tup [.int (i : Nat), x]) ∧ ∀ xs, SqT K H a xs → xs[i]? = some x, fun i H => ∃ xs : List V, SqT K H a xs ∧ xs.length ≤ i⟩
def iEnumT (K : PySem.W.Frag) (ta : TA) : TI := fun σ H R => ta σ H fun vs H1 => ∃ a xs, vs = [.ref a] ∧ SqT K H1 a xs ∧ R (IteT K a) H1
end Vr

set_option Elab.async false
set_option linter.all false
set_option maxRecDepth 100000
namespace Vr
open PySem PySem.Spec PyProof.Rows L2
section
variable {X : Cx}
end
end Vr

set_option Elab.async false
set_option linter.all false
set_option maxRecDepth 100000
namespace Mir
open PySem PySem.Spec PyProof.Rows L2
theorem _root_.L2.PI.or {X : Cx} {tg iter : Expr} {t u : TI} (h1 : PI X tg iter t) (h2 : PI X tg iter u) : PI X tg iter (fun σ H R => t σ H R ∨ u σ H R) := ⟨fun pins s σ H R I h => h.elim (h1.run pins s σ H R I) (h2.run pins s σ H R I)⟩
section
variable {K : PySem.W.Frag} {m : List Addr} {H : Hp}
def chkOf (x : W) (ws : List W) : Option (Nat × List W) := match x with
  | .ref n => some (n, ws)
  | _ => none
theorem it_rng {lo : Int} {n : Nat} : ItOk K (Itr lo n) m H ((List.range n).map fun (i : Nat) => W.int (lo + (i : Int))) none where
  go := fun m' H' s' i w A S c hi => by
    rw [List.getElem?_map] at hi
    cases e : (List.range n)[i]? with
    | none => rw [e] at hi; cases hi
    | some j =>
      rw [e] at hi
      cases hi
      obtain ⟨h1, h2⟩ := List.getElem?_eq_some_iff.mp e
      rw [List.getElem_range] at h2
      subst h2
      rw [List.length_range] at h1
      refine ⟨h1, fun v' H2 y => ?_⟩
      obtain ⟨rfl, rfl⟩ := y
      exact ⟨m', Adv.refl _ _, S, .int _⟩
  stop := fun m' H' s' A S c => by
    show n ≤ _
    rw [List.length_map, List.length_range]
    exact Nat.le_refl _
def enumW (ws : List W) : List W := ws.zipIdx.map fun p => W.tup [.int (p.2 : Int), p.1]
def zipW (ws us : List W) : List W := List.zipWith (fun a b => W.tup [a, b]) ws us
def signsW (z : Str) : List W := z.cps.toList.map fun c => W.str ⟨#[c]⟩
end
def iSeq (f : FE) : FI := fun ρ s => bd (f ρ s) fun x s1 => match x with
  | .tup ws => some ((ws, none), s1)
  | .str z => some ((signsW z, none), s1)
  | x => match lstOf x s1 with
    | some ws => some ((ws, chkOf x ws), s1)
    | none => none
def iEnu (f : FE) : FI := fun ρ s => bd (f ρ s) fun x s1 => match x with
  | .tup ws => some ((enumW ws, none), s1)
  | x => match lstOf x s1 with
    | some ws => some ((enumW ws, chkOf x ws), s1)
    | none => none
def iRev (f : FE) : FI := fun ρ s => bd (f ρ s) fun x s1 => match x with
  | .tup ws => some ((ws.reverse, none), s1)
  | x => match lstOf x s1 with
    | some ws => some ((ws.reverse, chkOf x ws), s1)
    | none => none
open Classical in
noncomputable def iZip (f g : FE) : FI := fun ρ s => bd (f ρ s) fun x s1 => bd (g ρ s1) fun y s2 => match x, y with
  | .tup ws, .tup us => some ((zipW ws us, none), s2)
  | x, y => match lstOf x s2, lstOf y s2 with
    | some ws, some us => if chkOf x ws = none ∨ chkOf y us = none ∨ chkOf x ws = chkOf y us then some ((zipW ws us, if (chkOf x ws).isSome then chkOf x ws else chkOf y us), s2) else none
    | _, _ => none
def iRng1 (f : FE) : FI := fun ρ s => bd (f ρ s) fun x s1 => match x with
  | .int j => if -(2 ^ 62) ≤ j ∧ j < 2 ^ 62 then some (((List.range j.toNat).map fun (i : Nat) => W.int (0 + (i : Int)), none), s1) else none
  | _ => none
def iRng2 (f g : FE) : FI := fun ρ s => bd (f ρ s) fun x s1 => bd (g ρ s1) fun y s2 => match x, y with
  | .int i, .int j => if -(2 ^ 62) ≤ i ∧ i < 2 ^ 62 ∧ -(2 ^ 62) ≤ j ∧ j < 2 ^ 62 then some (((List.range (j - i).toNat).map fun (k : Nat) => W.int (i + (k : Int)), none), s2) else none
  | _, _ => none
section
variable {X : Cx} {tg e e2 : Expr} {pos : Pos}
theorem mi_rng1 {p : Pos} {f : FE} (hg : Gl X "range") (hm : X.mg "range" = none) (h : PE X e (tF X.K f)) (hs1 : starEach [e] X.env = (false, eval e X.env) :: starEach [] X.env := by rfl) (hs : starEach [e] X.env = [(false, eval e X.env)] := by rfl) :
    PI X tg (.Call (.Name "range" p) [e] [] pos) (tI X.K (iRng1 f)) :=
  (pi_range1 hg hm (ma_cons h ma_nil hs1) hs).imp fun σ H R' ⟨m, ρ, s, er, sr, xs, c, s', e, q⟩ => by
    obtain ⟨x, s1, e1, e⟩ := bd_inv e
    have ea : aCons f aNil ρ s = some ([x], s1) := by unfold aCons; rw [e1]; rfl
    refine ⟨m, ρ, s, er, sr, [x], s1, ea, fun m1 H1 v A1 S1 r1 => ?_⟩
    cases r1 with
    | cons r1 r2 =>
      cases r2
      cases r1 with
      | int j =>
        by_cases hj : -(2 ^ 62) ≤ j ∧ j < 2 ^ 62
        · simp only [hj, and_self, if_true] at e
          cases e
          exact ⟨j, rfl, hj.1, hj.2, q m1 H1 _ A1 S1 it_rng⟩
        · simp only [hj, if_false] at e
          cases e
      | _ => cases e
open Classical in
end
end Mir

set_option Elab.async false
set_option linter.all false
set_option maxRecDepth 100000
namespace Mir
open PySem PySem.Spec PyProof.Rows L2
section
variable {K : PySem.W.Frag}
def keyW : W → Option Key
  | .int i => some (.inl i)
  | .str x => some (.inr x)
  | _ => none
theorem key_of {m : List Addr} {H : Hp} {w : W} {v : V} {k : Key} (r : R K m H w v) (h : keyW w = some k) : v = kV k := by
  cases r <;> first | (cases h; rfl) | cases h
def dcOf (x : W) (s : Sto) : Option (Nat × List (Key × W)) := match x with
  | .ref n => match s[n]? with
    | some (.dct kvs) => some (n, kvs)
    | _ => none
  | _ => none
theorem dc_of {m : List Addr} {H : Hp} {s : Sto} {x : W} {v : V} {n : Nat} {kvs : List (Key × W)} (S : SR K m H s) (r : R K m H x v) (h : dcOf x s = some (n, kvs)) : ∃ a vs, v = .ref a ∧ m[n]? = some a ∧ s[n]? = some (.dct kvs) ∧ H a = some (.dK vs) ∧ RK K m H kvs vs := by
  cases r with
  | @ref n' a h1 =>
    cases e : s[n']? with
    | none => simp only [dcOf, e] at h; cases h
    | some o =>
      cases o with
      | lst _ => simp only [dcOf, e] at h; cases h
      | lam _ _ => simp only [dcOf, e] at h; cases h
      | tab _ _ => simp only [dcOf, e] at h; cases h
      | dead => simp only [dcOf, e] at h; cases h
      | frd _ => simp only [dcOf, e] at h; cases h
      | ins _ _ => simp only [dcOf, e] at h; cases h
      | dtt _ => simp only [dcOf, e] at h; cases h
      | dct kv' =>
        simp only [dcOf, e] at h
        cases h
        obtain ⟨a', h2, vs, h3, h4⟩ := S.at e
        rw [h1] at h2
        cases h2
        exact ⟨_, _, rfl, h1, e, h3, h4⟩
  | _ => cases h
def look (kvs : List (Key × W)) (k : Key) : Option W := (kvs.find? fun kv => decide (kv.1 = k)).map (·.2)
def put (kvs : List (Key × W)) (k : Key) (w : W) : List (Key × W) := if kvs.any (fun kv => decide (kv.1 = k)) then kvs.map fun kv => if kv.1 = k then (kv.1, w) else kv else kvs ++ [(k, w)]
theorem RK.look {m : List Addr} {H : Hp} {k : Key} : ∀ {kvs : List (Key × W)} {vs : List (Key × V)}, RK K m H kvs vs → (∀ w, look kvs k = some w → ∃ v, valV vs k = some v ∧ R K m H w v) ∧ (look kvs k = none → valV vs k = none)
  | [], vs, r => by cases r; exact ⟨fun w h => (by cases h), fun _ => rfl⟩
  | (k', w') :: kvs, vs, r => by
    cases r with
    | @cons _ _ v' _ vs h1 h2 =>
      obtain ⟨q1, q2⟩ := RK.look (k := k) h2
      by_cases e : k' = k
      · subst e
        refine ⟨fun w h => ?_, fun h => ?_⟩
        · have h : some w' = some w := by simpa [Mir.look, List.find?_cons] using h
          cases h
          exact ⟨v', valV_pos rfl, h1⟩
        · exfalso
          simp [Mir.look, List.find?_cons] at h
      · have e1 : Mir.look ((k', w') :: kvs) k = Mir.look kvs k := by simp [Mir.look, List.find?_cons, e]
        have e2 : valV ((k', v') :: vs) k = valV vs k := valV_neg e
        rw [e1, e2]
        exact ⟨q1, q2⟩
theorem RK.any {m : List Addr} {H : Hp} {k : Key} : ∀ {kvs : List (Key × W)} {vs : List (Key × V)}, RK K m H kvs vs → (vs.any fun kv => decide (kv.1 = k)) = kvs.any fun kv => decide (kv.1 = k)
  | [], vs, r => by cases r; rfl
  | (k', w') :: kvs, vs, r => by
    cases r with
    | cons h1 h2 => rw [List.any_cons, List.any_cons, RK.any h2]
theorem RK.map {m : List Addr} {H : Hp} {k : Key} {w : W} {v : V} (rw_ : R K m H w v) : ∀ {kvs : List (Key × W)} {vs : List (Key × V)}, RK K m H kvs vs → RK K m H (kvs.map fun kv => if kv.1 = k then (kv.1, w) else kv) (vs.map fun kv => if kv.1 = k then (kv.1, v) else kv)
  | [], vs, r => by cases r; exact .nil
  | (k', w') :: kvs, vs, r => by
    cases r with
    | cons h1 h2 =>
      rw [List.map_cons, List.map_cons]
      by_cases e : k' = k
      · simp only [e, if_true]
        exact .cons rw_ (RK.map rw_ h2)
      · simp only [e, if_false]
        exact .cons h1 (RK.map rw_ h2)
theorem RK.app {m : List Addr} {H : Hp} : ∀ {a b : List (Key × W)} {c d : List (Key × V)}, RK K m H a c → RK K m H b d → RK K m H (a ++ b) (c ++ d)
  | [], _, _, _, r, g => by cases r; exact g
  | _ :: _, _, _, _, r, g => by
    cases r with
    | cons h1 h2 => exact .cons h1 (RK.app h2 g)
theorem RK.put {m : List Addr} {H : Hp} {k : Key} {w : W} {v : V} {kvs : List (Key × W)} {vs : List (Key × V)} (r : RK K m H kvs vs) (rw_ : R K m H w v) : RK K m H (put kvs k w) (putK vs k v) := by
  unfold Mir.put putK
  rw [r.any]
  split
  · exact r.map rw_
  · exact r.app (.cons rw_ .nil)
end
section
variable {X : Cx} {o i e f : Expr} {pos : Pos}
def eDget (d y : FE) : FE := fun ρ s => bd (d ρ s) fun x s1 => bd (y ρ s1) fun z s2 => match dcOf x s2, keyW z with
  | some (_, kvs), some k => match look kvs k with
    | some w => some (w, s2)
    | none => none
  | _, _ => none
def eDin (neg : Bool) (y d : FE) : FE := fun ρ s => bd (y ρ s) fun z s1 => bd (d ρ s1) fun x s2 => match dcOf x s2, keyW z with
  | some (_, kvs), some k => some (.bl (if neg then !(look kvs k).isSome else (look kvs k).isSome), s2)
  | _, _ => none
theorem din_of {fd fy : FE} {neg : Bool} : ∀ σ H Q, tF X.K (eDin neg fy fd) σ H Q → (fun σ H Q => tF X.K fy σ H fun y H1 => tF X.K fd σ H1 fun x H2 => ∃ a o, x = .ref a ∧ DGet H2 a y o ∧ Q (.bl (if neg then !o.isSome else o.isSome)) H2 : TE) σ H Q := fun σ H Q ⟨m, ρ, s, er, sr, w, s', e, q⟩ => by
    obtain ⟨z, s1, e1, e⟩ := bd_inv e
    obtain ⟨x, s2, e2, e⟩ := bd_inv e
    refine ⟨m, ρ, s, er, sr, z, s1, e1, fun m1 H1 v A1 S1 r1 => ⟨m1, ρ, s1, er.adv A1, S1, x, s2, e2, fun m2 H2 u A2 S2 r2 => ?_⟩⟩
    cases ed : dcOf x s2 with
    | none => simp only [ed] at e; cases e
    | some p =>
      obtain ⟨n, kvs⟩ := p
      cases ek : keyW z with
      | none => simp only [ed, ek] at e; cases e
      | some k =>
        simp only [ed, ek] at e
        cases e
        obtain ⟨a, vs, rfl, hm, hs2, hd, rk⟩ := dc_of S2 r2 ed
        have hy := key_of r1 ek
        subst hy
        refine ⟨a, _, rfl, DGet.k (k := k) hd, ?_⟩
        have es : (valV vs k).isSome = (look kvs k).isSome := by
          obtain ⟨q1, q2⟩ := rk.look (k := k)
          cases el : look kvs k with
          | none => rw [q2 el]; rfl
          | some w => obtain ⟨v, hv, _⟩ := q1 w el; rw [hv]; rfl
        rw [es]
        exact q m2 H2 _ (A1.trans A2) S2 (.bl _)
theorem mt_dnotin {fd fy : FE} (hu : X.A.units + 1 < cLine) (hi : PE X i (tF X.K fy)) (ho : PE X o (tF X.K fd)) (h1 : behindInMarks .NotIn o = false := by first | exact nobehind _ (by decide) (by decide) | rfl) : PT X (.Compare i [.NotIn] [o] pos) (tT X.K (bTest (eDin true fy fd))) :=
  (pt_cmp (pc_dnotin hu hi ho) h1).imp fun σ H Q h => din_of σ H _ (tT_test σ H Q h)
def sDput (d y f : FE) : FS := fun ρ s => bd (f ρ s) fun w s1 => bd (d ρ s1) fun x s2 => bd (y ρ s2) fun z s3 => match dcOf x s3, keyW z with
  | some (n, kvs), some k => if kvs.length ≤ 100000 then some (.nx ρ, s3.set n (.dct (put kvs k w))) else none
  | _, _ => none
theorem ms_dput {fd fy fv : FE} {v : Expr} {pos' : Pos} (hu : X.A.units + 1 < cLine) (ho : PE X o (tF X.K fd)) (hi : PE X i (tF X.K fy)) (hv : PE X v (tF X.K fv)) (hs : swapsWith v (some (.Subscript o i pos')) pos.line X.env = pure false := by rfl) :
    PS X (.Assign [.Subscript o i pos'] v pos) (tS X.K (sDput fd fy fv)) :=
  (ps_dput hu ho hi hv hs).imp fun D σ H ⟨m, ρ, s, er, sr, oo, s', e, q⟩ => by
    obtain ⟨w, s1, e1, e⟩ := bd_inv e
    obtain ⟨x, s2, e2, e⟩ := bd_inv e
    obtain ⟨z, s3, e3, e⟩ := bd_inv e
    refine ⟨m, ρ, s, er, sr, w, s1, e1, fun m1 H1 v A1 S1 r1 => ⟨m1, ρ, s1, er.adv A1, S1, x, s2, e2, fun m2 H2 u A2 S2 r2 => ⟨m2, ρ, s2, (er.adv A1).adv A2, S2, z, s3, e3, fun m3 H3 y A3 S3 r3 => ?_⟩⟩⟩
    cases ed : dcOf x s3 with
    | none => simp only [ed] at e; cases e
    | some p =>
      obtain ⟨n, kvs⟩ := p
      cases ek : keyW z with
      | none => simp only [ed, ek] at e; cases e
      | some k =>
        simp only [ed, ek] at e
        split at e
        · rename_i hl
          cases e
          obtain ⟨a, vs, rfl, hm, hs2, hd, rk⟩ := dc_of S3 (r2.adv A3) ed
          have hy := key_of r3 ek
          subst hy
          refine ⟨a, _, rfl, DPut.k (k := k) hd (szt (by rw [rk.len]; exact hl)), ?_⟩
          have A4 : Adv m3 H3 m3 (upd H3 a (.dK (putK vs k v))) := Adv.write S3 hm ⟨_, hd, .inr ⟨_, rfl⟩⟩
          exact q m3 _ σ (((A1.trans A2).trans A3).trans A4) (S3.write hm ⟨_, hd, .inr ⟨_, rfl⟩⟩ ⟨_, upd_same, (rk.adv A4).put (((r1.adv A2).adv A3).adv A4)⟩) ((((er.adv A1).adv A2).adv A3).adv A4)
        · cases e
def eDget2 (d y f : FE) : FE := fun ρ s => bd (d ρ s) fun x s1 => if (dcOf x s1).isSome = true then bd (y ρ s1) fun z s2 => bd (f ρ s2) fun w s3 => match dcOf x s3, keyW z with
  | some (_, kvs), some k => some ((look kvs k).getD w, s3)
  | _, _ => none
  else none
def Cst (K : PySem.W.Frag) (mg : Str → Option Value) (x : Str) (w : W) : Prop := ∃ v u, mg x = some u ∧ RelV v u ∧ ∀ m H, R K m H w v
theorem m_glob {x : Str} {w : W} {p : Pos} (h : Cst X.K X.mg x w) (hg : Gl X x) (hd : (x == ("__debug__" : Str)) = false := by decide) : PE X (.Name x p) (tF X.K (eC w)) := by
  obtain ⟨v, u, h1, h2, h3⟩ := h
  exact m_c (pe_glob hg h1 h2 hd) h3
def gStr (f : Str → List W → Sto → Rz W) : W → List W → Sto → Rz W := fun x ws s => match x with
  | .str z => f z ws s
  | _ => none
def isS (x : W) (_ : Sto) : Bool := match x with
  | .str _ => true
  | _ => false
def gUpper := gStr fun z ws s => match ws with
  | [] => if z.length ≤ 5592405 then some (.str (Txt.upper z), s) else none
  | _ => none
def gJoin := gStr fun z ws s => match ws with
  | [x] => match seqOf x s with
    | some xs => match strsOf xs with
      | some ys => if (ys.map (·.length)).sum + ys.length * z.length ≤ 16777216 then some (.str (Txt.join z ys), s) else none
      | none => none
    | none => none
  | _ => none
def gSplit := gStr fun z ws s => match ws with
  | [.str b] => if (b.length == 0) = false ∧ z.length + 2 ≤ sizeLine then some (.ref s.length, s ++ [.lst ((Txt.split z b).map W.str)]) else none
  | [] => if z.length + 2 ≤ sizeLine then some (.ref s.length, s ++ [.lst ((Txt.words z).map W.str)]) else none
  | _ => none
def gSlA : W → Option Int → Option Int → Sto → Rz W := fun x lo hi s => match x with
  | .str z => if z.length ≤ sizeLine then some (.str (cutS z lo hi), s) else none
  | .tup ws => some (.tup ((ws.drop (HT.sIx ws.length 0 lo)).take (HT.sIx ws.length ws.length hi - HT.sIx ws.length 0 lo)), s)
  | x => match lstOf x s with
    | some ws => some (.ref s.length, s ++ [.lst ((ws.drop (HT.sIx ws.length 0 lo)).take (HT.sIx ws.length ws.length hi - HT.sIx ws.length 0 lo))])
    | none => none
def rSlAny (K : PySem.W.Frag) : V → Option Int → Option Int → Hp → VK → Prop := fun x lo hi H Q => rSlS x lo hi H Q ∨ rSlA K x lo hi H Q ∨ rSlL K x lo hi H Q
theorem sl_any : SlR X (rSlAny X.K) := sl_str.or (sl_tupA.or sl_list)
theorem f_sl {K : PySem.W.Frag} : SlF K (rSlAny K) gSlA := by
  intro m H s x v lo hi Q S rx h
  have lst : ∀ {ws}, lstOf x s = some ws → wE K m H (some (.ref s.length, s ++ [.lst ((ws.drop (HT.sIx ws.length 0 lo)).take (HT.sIx ws.length ws.length hi - HT.sIx ws.length 0 lo))])) Q → rSlAny K v lo hi H Q := fun {ws} hl h => by
    obtain ⟨p, vs, rfl, h1, h2⟩ := lst_of S rx hl
    obtain ⟨w, s', e, q⟩ := h
    cases e
    exact .inr (.inr ⟨p, vs, rfl, h1, fun l hl => new_lst S (h2.cut lo hi) hl q⟩)
  cases rx with
  | str z =>
    by_cases hz : z.length ≤ sizeLine
    · simp only [gSlA, hz, if_true] at h
      exact .inl ⟨z, rfl, hz, h.val S _ (.str _)⟩
    · exact nopeE' h (by simp only [gSlA, hz, if_false])
  | @tup p vs ws h1 h2 =>
    have rc := h2.cut lo hi
    refine .inr (.inl ⟨p, vs, rfl, h1.sq, fun hw => ?_, fun hw q hq => ?_⟩)
    · refine h.val S _ (.tup h1 ?_)
      unfold cutV at rc
      rw [hw.1, hw.2, List.drop_zero, Nat.sub_zero, List.take_length] at rc
      exact rc
    · obtain ⟨w, s', e, q⟩ := h
      cases e
      exact new_tup S rc hq q
  | @ref n a h1 =>
    cases hl : lstOf (.ref n) s with
    | none => exact nopeE' h (by simp only [gSlA, hl])
    | some ws =>
      have e : gSlA (.ref n) lo hi s = some (.ref s.length, s ++ [.lst ((ws.drop (HT.sIx ws.length 0 lo)).take (HT.sIx ws.length ws.length hi - HT.sIx ws.length 0 lo))]) := by simp only [gSlA, hl]
      rw [e] at h
      exact lst hl h
  | @lro p vs ws h1 h2 =>
    have e : gSlA (.lro ws) lo hi s = some (.ref s.length, s ++ [.lst ((ws.drop (HT.sIx ws.length 0 lo)).take (HT.sIx ws.length ws.length hi - HT.sIx ws.length 0 lo))]) := by simp only [gSlA, lstOf]
    rw [e] at h
    exact lst rfl h
  | _ => exact nopeE h
def gRevL : W → Sto → Rz W := fun x s => match lstOf x s with
  | some ws => some (.ref s.length, s ++ [.lst ws.reverse])
  | none => none
def gRevT : W → Sto → Rz W := fun x s => match x with
  | .tup ws => some (.tup ws.reverse, s)
  | _ => none
def eFmt (f : FE) : FE := fun ρ s => bd (f ρ s) fun x s1 => match x with
  | .str y => if y.length ≤ sizeLine then some (.str y, s1) else none
  | .int i => if i.natAbs.log2 < 1920 then some (.str (toString i), s1) else none
  | _ => none
def joinF : List FE → Str → EnvM → Sto → Rz Str
  | [], acc, _, s => some (acc, s)
  | f :: fs, acc, ρ, s => bd (f ρ s) fun x s1 => match x with
    | .str y => if (acc ++ y).length ≤ sizeLine then joinF fs (acc ++ y) ρ s1 else none
    | _ => none
def eJoin (fs : List FE) : FE := fun ρ s => bd (joinF fs Str.empty ρ s) fun y s1 => some (.str y, s1)
end
end Mir

set_option Elab.async false
set_option linter.all false
set_option maxRecDepth 100000
namespace Mir
open PySem PySem.Spec PyProof.Rows L2
section
variable {K : PySem.W.Frag}
def tyW (x : W) (s : Sto) : Option String := match x with
  | .non => some "NoneType"
  | .bl _ => some "bool"
  | .int _ => some "int"
  | .str _ => some "str"
  | .tup _ => some "tuple"
  | .lro _ => some "list"
  | .ref n => match s[n]? with
    | some (.lst _) => some "list"
    | some (.dct _) => some "dict"
    | _ => none
  | .fn _ => none
  | .xob _ => none
theorem tyW_of {m : List Addr} {H : Hp} {s : Sto} {x : W} {v : V} {t : String} (S : SR K m H s) (r : R K m H x v) (h : tyW x s = some t) : TyX K H v (.type t) := by
  cases r with
  | non => cases h; exact .base .non
  | fn => cases h
  | xob => cases h
  | bl b => cases h; exact .base (.bl b)
  | int i => cases h; exact .base (.int i)
  | str y => cases h; exact .base (.str y)
  | tup h1 h2 =>
    cases h
    rcases h1 with h1 | ⟨o, its, n, l, c, _⟩
    · exact .base (.tup h1)
    · exact .kTuple l c
  | lro h1 h2 =>
    cases h
    rcases h1 with ⟨o, h1⟩ | ⟨o, its, n, l, c, _⟩
    · exact .base (.frz h1)
    · exact .kList l c
  | @ref n a h1 =>
    cases e : s[n]? with
    | none => simp only [tyW, e] at h; cases h
    | some o =>
      obtain ⟨a', h2, h3⟩ := S.at e
      rw [h1] at h2; cases h2
      cases o with
      | lst ws =>
        simp only [tyW, e] at h
        cases h
        obtain ⟨vs, h3, _⟩ := h3
        exact .base (.lst h3)
      | dtt _ => simp only [tyW, e] at h; cases h
      | dct ws =>
        simp only [tyW, e] at h
        cases h
        obtain ⟨vs, h3, _⟩ := h3
        exact .base (.dK h3)
      | _ => simp only [tyW, e] at h; cases h
def isiT (a b : String) : Bool := (a == b) || (a == "bool" && b == "int")
def eIsi (T : String) (f : FE) : FE := fun ρ s => bd (f ρ s) fun x s1 => match tyW x s1 with
  | some t => some (.bl (isiT t T), s1)
  | none => none

def tyNames : List String := ["NoneType", "bool", "int", "str", "tuple", "list", "dict"]
theorem tyW_in {x : W} {s : Sto} {t : String} (h : tyW x s = some t) : t ∈ tyNames := by
  cases x with
  | ref n =>
    simp only [tyW] at h
    split at h <;> (cases h <;> decide)
  | fn => cases h
  | xob => cases h
  | _ => cases h; decide
theorem kit_bool : ∀ t ∈ tyNames, kitB t "bool" = some (isiT t "bool") := by decide +kernel
end
section
variable {X : Cx} {a b c e e2 : Expr} {pos : Pos}
theorem m_isi {f : FE} {T : String} {p p2 : Pos} {x : Str} (hk : ∀ t ∈ tyNames, kitB t T = some (isiT t T)) (hg : Gl X "isinstance") (hm : X.mg "isinstance" = none) (hg2 : Gl X x) (hm2 : X.mg x = none) (hb : bootBuiltins x = some (.type T)) (he : PE X e (tF X.K f)) (hn : x ≠ "__name__" := by decide) (hd : (x == ("__debug__" : Str)) = false := by decide)
    (hs1 : starEach [e, .Name x p2] X.env = (false, eval e X.env) :: starEach [.Name x p2] X.env := by rfl) (hs2 : starEach [.Name x p2] X.env = (false, eval (.Name x p2) X.env) :: starEach [] X.env := by rfl) (hpl : (backTo pos (starEach [.Name x p2] X.env)).any (·.1) = false := by rfl) :
    PE X (.Call (.Name "isinstance" p) [e, .Name x p2] [] pos) (tF X.K (eIsi T f)) :=
  (pe_callB call_isi hg hm PyProof.Rows.boot_isinstance (pa_cons he (pa_cons (pe_bltn (v := .ty T) hg2 hm2 hb rfl hn hd) pa_nil hs2) hs1) (by decide) (by decide) hs1 hpl).imp fun σ H Q ⟨m, ρ, s, er, sr, w, s', e, q⟩ => by
    obtain ⟨x, s1, e1, e⟩ := bd_inv e
    cases ht : tyW x s1 with
    | none => simp only [ht] at e; cases e
    | some t =>
      simp only [ht] at e
      cases e
      exact ⟨m, ρ, s, er, sr, x, _, e1, fun m1 H1 v A1 S1 r1 => ⟨v, .ty T, .type t, .type T, _, rfl, .ty T, tyW_of S1 r1 ht, kit_ty (hk t (tyW_in ht)), q m1 H1 _ A1 S1 (.bl _)⟩⟩
def eChain (g g' : W → W → Sto → Rz W) (fa fb fc : FE) : FE := fun ρ s => bd (fa ρ s) fun x s1 => bd (fb ρ s1) fun y s2 => bd (g x y s2) fun z s3 => match z with
  | .bl k => if k = true then bd (fc ρ s3) fun w s4 => g' y w s4 else some (.bl false, s3)
  | _ => none
theorem chain_of {r r' : R2} {g g' : W → W → Sto → Rz W} {fa fb fc : FE} (hg : OpF X.K r g) (hg' : OpF X.K r' g') : ∀ σ H Q, tF X.K (eChain g g' fa fb fc) σ H Q → tChain r r' (tF X.K fa) (tF X.K fb) (tF X.K fc) σ H Q := fun σ H Q ⟨m, ρ, s, er, sr, w, s', e, q⟩ => by
  obtain ⟨x, s1, e1, e⟩ := bd_inv e
  obtain ⟨y, s2, e2, e⟩ := bd_inv e
  obtain ⟨z, s3, e3, e⟩ := bd_inv e
  refine ⟨m, ρ, s, er, sr, x, s1, e1, fun m1 H1 v A1 S1 r1 => ⟨m1, ρ, s1, er.adv A1, S1, y, s2, e2, fun m2 H2 u A2 S2 r2 => hg m2 H2 s2 x y v u _ S2 (r1.adv A2) r2 ⟨z, s3, e3, fun m3 H3 zv A3 S3 r3 => ?_⟩⟩⟩
  cases r3 with
  | bl k =>
    refine ⟨k, rfl, ?_⟩
    cases k with
    | true =>
      simp only [if_true] at e
      rw [if_pos rfl]
      obtain ⟨w4, s4, e4, e⟩ := bd_inv e
      exact ⟨m3, ρ, s3, ((er.adv A1).adv A2).adv A3, S3, w4, s4, e4, fun m4 H4 v4 A4 S4 r4 => hg' m4 H4 s4 y w4 u v4 Q S4 ((r2.adv A3).adv A4) r4 ⟨w, s', e, fun m5 H5 v5 A5 => q m5 H5 v5 ((((A1.trans A2).trans A3).trans A4).trans A5)⟩⟩
    | false =>
      simp only [if_neg Bool.false_ne_true] at e
      rw [if_neg Bool.false_ne_true]
      cases e
      exact q m3 H3 _ ((A1.trans A2).trans A3) S3 (.bl false)
  | _ => cases e
theorem mt_chain {op op' : CmpOp} {r r' : R2} {g g' : W → W → Sto → Rz W} {fa fb fc : FE} (ho : OpR X (compareOp op) r) (ho' : OpR X (compareOp op') r') (hg : OpF X.K r g) (hg' : OpF X.K r' g') (ha : PE X a (tF X.K fa)) (hb : PE X b (tF X.K fb)) (hc : PE X c (tF X.K fc))
    (hm : lastMarks [op, op'] [b, c] = false := by with_unfolding_all rfl) : PT X (.Compare a [op, op'] [b, c] pos) (tT X.K (bTest (eChain g g' fa fb fc))) := (pt_chain ho ho' ha hb hc hm).imp fun σ H Q h => chain_of hg hg' σ H _ (tT_test σ H Q h)
def gTupleD : List W → Sto → Rz W := fun ws s => match ws with
  | [x] => match dcOf x s with
    | some (_, kvs) => some (.tup (kvs.map fun kv => match kv.1 with | .inl i => W.int i | .inr z => W.str z), s)
    | none => none
  | _ => none
def gMul : W → W → Sto → Rz W := fun x y s => match x, y with
  | .int i, .int j => if (-(2 ^ 64) < i ∧ i < 2 ^ 64) ∨ (-(2 ^ 64) < j ∧ j < 2 ^ 64) then some (.int (i * j), s) else none
  | .tup ws, .int k => if ws ≠ [] ∧ 2 ≤ k ∧ k ≤ 1000 ∧ ws.length ≤ 1000 then some (.tup (List.replicate k.toNat ws).flatten, s) else none
  | _, _ => none
def rMulA (K : PySem.W.Frag) : R2 := fun x y H Q => rI CMul (fun i j => .int (i * j)) x y H Q ∨ rRepT K x y H Q
theorem op_mulA : OpR X (binaryOp .Mult) (rMulA X.K) := op_mul.or op_repT
theorem f_mul {K : PySem.W.Frag} : OpF K (rMulA K) gMul := by
  intro m H s x y v u Q S rx ry h
  cases rx with
  | int i =>
    cases ry with
    | int j =>
      by_cases q : (-(2 ^ 64) < i ∧ i < 2 ^ 64) ∨ (-(2 ^ 64) < j ∧ j < 2 ^ 64)
      · simp only [gMul, q, if_true] at h
        exact .inl ⟨i, j, rfl, rfl, q, h.val S _ (.int _)⟩
      · exact nopeE' h (by simp only [gMul, q, if_false])
    | _ => exact nopeE h
  | @tup p vs ws h1 h2 =>
    cases ry with
    | int k =>
      by_cases q : ws ≠ [] ∧ 2 ≤ k ∧ k ≤ 1000 ∧ ws.length ≤ 1000
      · obtain ⟨w, s', e, qq⟩ := h
        simp only [gMul] at e
        rw [if_pos q] at e
        cases e
        refine .inr ⟨p, k, vs, rfl, rfl, h1.sq, fun e => q.1 ?_, q.2.1, q.2.2.1, by rw [h2.len]; exact q.2.2.2, fun z hz => new_tup S (h2.rep k.toNat) hz qq⟩
        subst e
        cases h2
        rfl
      · exact nopeE' h (by simp only [gMul]; rw [if_neg q])
    | _ => exact nopeE h
  | _ => cases ry <;> exact nopeE h
def sPar (i j : Nat) (f : FA) : FS := fun ρ s => bd (f ρ s) fun ws s1 => match ws with
  | [v, w] => some (.nx ((ρ.set i (some v)).set j (some w)), s1)
  | _ => none
theorem ip_addA : PIp X .Add (fun x y H Q => rI0 (fun i j => .int (i + j)) x y H Q ∨ ∃ i j, x = .str i ∧ y = .str j ∧ i.length + j.length ≤ sizeLine ∧ Q (.str (i ++ j)) H) := OpR.or iop_add iop_add_str
def gIAdd : W → W → Sto → Rz W := fun x y s => match x, y with
  | .int i, .int j => some (.int (i + j), s)
  | .str a, .str b => if a.length + b.length ≤ 100000 then some (.str (a ++ b), s) else none
  | _, _ => none
theorem f_iadd {K : PySem.W.Frag} : OpF K (fun x y H Q => rI0 (fun i j => .int (i + j)) x y H Q ∨ ∃ i j, x = .str i ∧ y = .str j ∧ i.length + j.length ≤ sizeLine ∧ Q (.str (i ++ j)) H) gIAdd := by
  intro m H s x y v u Q S rx ry h
  cases rx with
  | int i =>
    cases ry with
    | int j => exact .inl ⟨i, j, rfl, rfl, h.val S _ (.int _)⟩
    | _ => exact nopeE h
  | str a =>
    cases ry with
    | str b =>
      by_cases q : a.length + b.length ≤ 100000
      · simp only [gIAdd, q, if_pos] at h
        exact .inr ⟨a, b, rfl, rfl, szl q, h.val S _ (.str _)⟩
      · exact nopeE' h (by simp only [gIAdd, q, if_false])
    | _ => exact nopeE h
  | _ => cases ry <;> exact nopeE h
theorem ints_rl {K : PySem.W.Frag} {m : List Addr} {H : Hp} : ∀ ns : List Int, RL K m H (ns.map W.int) (ns.map V.int)
  | [] => .nil
  | n :: ns => .cons (.int n) (ints_rl ns)
theorem law_sp {K : PySem.W.Frag} {F : List W → Sto → Rz W} {H : Hp} {a : Addr} {ns : List Int} (hO : Only H) (hS : SqL K H a (ns.map V.int)) (h : ∃ s, F [.lro (ns.map W.int)] [] = some (.bl true, s)) : spF K 1 F [.ref a] H (fun v _ => v = .bl true) (fun _ _ _ => False) := by
  obtain ⟨s, e⟩ := h
  refine ⟨rfl, [], [], [.lro (ns.map W.int)], .cons (.lro ?_ (ints_rl ns)) .nil, ⟨rfl, List.nodup_nil, fun n a o h _ => by cases h⟩, .bl true, s, e, fun m' H' v _ _ r => by cases r; rfl⟩
  rcases hS with (h | h) | h
  · exfalso
    rcases hO a with q | ⟨o, xs, q⟩
    · rw [q] at h; cases h
    · rw [q] at h; cases h
  · exact .inl h
  · exact .inr h
end
end Mir
namespace Mir
open PySem L2
theorem ofString_inj {a b : String} : (Str.ofString a = Str.ofString b) ↔ a = b := by
  refine ⟨fun h => ?_, fun h => by rw [h]⟩
  have h1 : Str.ofStringByList a = Str.ofStringByList b := by rw [← Str.ofString_eq_byList]; exact h
  unfold Str.ofStringByList at h1
  injection h1 with h1
  have h2 : a.toList.map Char.toNat = b.toList.map Char.toNat := by simpa using congrArg Array.toList h1
  have inj : ∀ l m : List Char, l.map Char.toNat = m.map Char.toNat → l = m := by
    intro l
    induction l with
    | nil => intro m e; cases m with | nil => rfl | cons _ _ => cases e
    | cons x l ih =>
      intro m e
      cases m with
      | nil => cases e
      | cons y m =>
        injection e with e1 e2
        rw [ih m e2, Char.toNat_inj.mp e1]
  have h3 : a.toList = b.toList := inj _ _ h2
  exact String.toList_inj.mp h3
end Mir
namespace Mir
open PySem PySem.Spec PyProof.Rows L2
theorem cst_int {K : PySem.W.Frag} {mg : Str → Option Value} {x : Str} {i : Int} {t : Tok} (h : mg x = some (.int i t)) : Cst K mg x (.int i) := ⟨.int i, _, h, ⟨t, rfl⟩, fun _ _ => .int i⟩
end Mir
namespace Mir
end Mir
namespace Mir
end Mir
namespace Mir
theorem tgM_name {i : Nat} {w : W} {ρ : EnvM} : tgM (.name i) w ρ = some (ρ.set i (some w)) := by rw [tgM]
theorem tgM_tup {ts : List Tg} {ws : List W} {ρ : EnvM} : tgM (.tup ts) (.tup ws) ρ = tgMs ts ws ρ := by rw [tgM]
theorem tgMs_nil {ρ : EnvM} : tgMs [] [] ρ = some ρ := by rw [tgMs]
theorem tgMs_name {i : Nat} {ts : List Tg} {w : W} {ws : List W} {ρ : EnvM} : tgMs (.name i :: ts) (w :: ws) ρ = tgMs ts ws (ρ.set i (some w)) := by rw [tgMs, tgM]
theorem tgMs_tup {us ts : List Tg} {vs ws : List W} {ρ ρ' : EnvM} (h : tgMs us vs ρ = some ρ') : tgMs (.tup us :: ts) (.tup vs :: ws) ρ = tgMs ts ws ρ' := by rw [tgMs, tgM, h]
end Mir

set_option Elab.async false
set_option linter.all false
namespace Mir
open PySem PySem.Spec PyProof.Rows L2
end Mir

set_option Elab.async false
set_option linter.all false
set_option maxRecDepth 100000
namespace Mir
open PySem PySem.Spec PyProof.Rows L2
section
variable {K : PySem.W.Frag}
def insI (x : Int) : List Int → List Int
  | [] => [x]
  | y :: r => if x ≤ y then x :: y :: r else y :: insI x r
def sortI : List Int → List Int
  | [] => []
  | x :: r => insI x (sortI r)
theorem RL.ints {m : List Addr} {H : Hp} : ∀ l : List Int, RL K m H (l.map W.int) (l.map V.int)
  | [] => .nil
  | x :: r => .cons (.int x) (RL.ints r)
def gSorted : List W → Sto → Rz W := fun ws s => match ws with
  | [x] => match lstOf x s with
    | some xs => match intsOf xs with
      | some is => some (.ref s.length, s ++ [.lst ((sortI is).map W.int)])
      | none => none
    | none => none
  | _ => none
end
end Mir

set_option Elab.async false
set_option linter.all false
set_option maxRecDepth 100000
namespace Mir
open PySem PySem.Spec PyProof.Rows L2
def CDct (K : PySem.W.Frag) (w : World) (mg : Str → Option Value) (x : Str) (tbl : List (Str × Option W)) : Prop :=
  ∃ (d : Addr) (es : Array DictEntry) (n : Nat), mg x = some (.ref d) ∧ KDict K w d es n ∧ ∀ z o, (z, o) ∈ tbl → match o with
    | some wv => ∃ u v, PySem.W.nsIn K d z = some (some u) ∧ RelV v u ∧ ∀ m H, R K m H wv v
    | none => PySem.W.nsIn K d z = some none
def tl (tbl : List (Str × Option W)) (z : Str) : Option (Option W) := (tbl.find? fun p => decide (p.1 = z)).map (·.2)
def tKGet2 (K : PySem.W.Frag) (d : Addr) (td ty tx : TE) : TE := fun σ H Q => td σ H fun x H1 => x = .ref d ∧ ty σ H1 fun y H2 => tx σ H2 fun z H3 =>
  ∃ (k : Str) (r : Option Value), y = .str k ∧ PySem.W.nsIn K d k = some r ∧ (∀ u, r = some u → ∃ v, RelV v u ∧ Q v H3) ∧ (r = none → Q z H3)
section
variable {X : Cx} {o e f a b i : Expr} {apos cpos pos : Pos} {td ty tx : TE} {d : Addr} {es : Array DictEntry} {n : Nat}
def eCget (tbl : List (Str × Option W)) (f : FE) : FE := fun ρ s => bd (f ρ s) fun x s1 => match x with
  | .str z => match tl tbl z with
    | some (some w) => some (w, s1)
    | _ => none
  | _ => none
def eCget2 (tbl : List (Str × Option W)) (f g : FE) : FE := fun ρ s => bd (f ρ s) fun x s1 => bd (g ρ s1) fun y s2 => match x with
  | .str z => match tl tbl z with
    | some (some w) => some (w, s2)
    | some none => some (y, s2)
    | _ => none
  | _ => none
def eCin (neg : Bool) (tbl : List (Str × Option W)) (f : FE) : FE := fun ρ s => bd (f ρ s) fun x s1 => match x with
  | .str z => match tl tbl z with
    | some o => some (.bl (if neg then !o.isSome else o.isSome), s1)
    | none => none
  | _ => none
def isLl (x : W) (s : Sto) : Bool := (lstOf x s).isSome
def gIndex : W → List W → Sto → Rz W := fun x as s => match as with
  | [y] => match pyS s 3 x, pyS s 3 y with
    | some (.list ds), some d => if SeqAt.shaped (.list ds) = true ∧ SeqAt.shaped d = true then match ds.findIdx? (fun z => PyData.eqv z d) with
        | some j => some (.int (j : Int), s)
        | none => none
      else none
    | _, _ => none
  | _ => none
def sNever : FS := fun _ _ => none
end
end Mir

set_option Elab.async false
set_option linter.all false
set_option maxRecDepth 100000
namespace Mir
open PySem PySem.Spec PyProof.Rows L2
def Wp {α : Type} (x : Rz α) (Q : α → Sto → Prop) : Prop := ∃ a s, x = some (a, s) ∧ Q a s
theorem Wp.mono {α : Type} {x : Rz α} {Q Q' : α → Sto → Prop} (h : Wp x Q) (q : ∀ a s, Q a s → Q' a s) : Wp x Q' := by
  obtain ⟨a, s, e, h⟩ := h
  exact ⟨a, s, e, q a s h⟩
theorem Wp.of {α : Type} {x : Rz α} {Q : α → Sto → Prop} {a : α} {s : Sto} (e : x = some (a, s)) (h : Q a s) : Wp x Q := ⟨a, s, e, h⟩
theorem wp_some {α : Type} {a : α} {s : Sto} {Q : α → Sto → Prop} : Wp (some (a, s)) Q = Q a s := propext ⟨fun ⟨_, _, e, h⟩ => by cases e; exact h, fun h => ⟨_, _, rfl, h⟩⟩
theorem wp_none {α : Type} {Q : α → Sto → Prop} : Wp (none : Rz α) Q = False := propext ⟨fun ⟨_, _, e, _⟩ => (by cases e), fun h => h.elim⟩
theorem wp_bd {α β : Type} {x : Rz α} {f : α → Sto → Rz β} {Q : β → Sto → Prop} : Wp (bd x f) Q = Wp x (fun a s => Wp (f a s) Q) := propext ⟨fun ⟨b, s, e, h⟩ => by
    obtain ⟨a, s1, e1, e2⟩ := bd_inv e
    exact ⟨a, s1, e1, b, s, e2, h⟩, fun ⟨a, s1, e1, b, s, e2, h⟩ => ⟨b, s, by rw [e1, bd_some, e2], h⟩⟩
theorem wp_ite {α : Type} {c : Prop} [Decidable c] {x y : Rz α} {Q : α → Sto → Prop} : Wp (if c then x else y) Q = if c then Wp x Q else Wp y Q := by split <;> rfl
def runS : List FS → FS
  | [] => sNil
  | f :: r => sCons f (runS r)
def WpS (fs : List FS) (ρ : EnvM) (s : Sto) (Q : Out → Sto → Prop) : Prop := Wp (runS fs ρ s) Q
section
variable {fs : List FS} {f g : FS} {ρ : EnvM} {s : Sto} {Q : Out → Sto → Prop} {i j : Nat} {e : FE} {t : FT}
theorem wps_nil : WpS [] ρ s Q = Q (.nx ρ) s := wp_some
theorem wps_cut : WpS (f :: fs) ρ s Q = Wp (f ρ s) (fun o s1 => match o with | .nx ρ1 => WpS fs ρ1 s1 Q | o => Q o s1) := by
  unfold WpS
  rw [runS]
  unfold sCons
  rw [wp_bd]
  congr
  funext o s1
  cases o <;> first | rfl | simp only [wp_some]
theorem wps_one : WpS [f] ρ s Q = Wp (f ρ s) Q := by
  rw [wps_cut]
  congr
  funext o s1
  cases o <;> simp only [wps_nil]
theorem wps_cons : WpS (sCons f g :: fs) ρ s Q = WpS (f :: g :: fs) ρ s Q := by
  rw [wps_cut, wps_cut]
  unfold sCons
  rw [wp_bd]
  congr
  funext o s1
  cases o with
  | nx ρ1 => show Wp (g ρ1 s1) _ = WpS (g :: fs) ρ1 s1 Q; rw [wps_cut]
  | _ => simp only [wp_some]
theorem wps_pass : WpS (sNil :: fs) ρ s Q = WpS fs ρ s Q := by rw [wps_cut]; unfold sNil; rw [wp_some]
theorem wps_set : WpS (sSet i e :: fs) ρ s Q = Wp (e ρ s) (fun w s1 => WpS fs (ρ.set i (some w)) s1 Q) := by
  rw [wps_cut]; unfold sSet; rw [wp_bd]; simp only [wp_some]
theorem wps_do : WpS (sDo e :: fs) ρ s Q = Wp (e ρ s) (fun _ s1 => WpS fs ρ s1 Q) := by
  rw [wps_cut]; unfold sDo; rw [wp_bd]; simp only [wp_some]
theorem wps_ret : WpS (sRet e :: fs) ρ s Q = Wp (e ρ s) (fun w s1 => Q (.rt w) s1) := by
  rw [wps_cut]; unfold sRet; rw [wp_bd]; simp only [wp_some]
theorem wps_retN : WpS (sRetN :: fs) ρ s Q = Q (.rt .non) s := by
  rw [wps_cut]; unfold sRetN; rw [wp_some]
theorem wps_brk : WpS (sBrk :: fs) ρ s Q = Q (.bk ρ) s := by
  rw [wps_cut]; unfold sBrk; rw [wp_some]
theorem wps_cnt : WpS (sCnt :: fs) ρ s Q = Q (.ct ρ) s := by
  rw [wps_cut]; unfold sCnt; rw [wp_some]
theorem wps_if : WpS (sIf t f g :: fs) ρ s Q = Wp (t ρ s) (fun k s1 => if k = true then WpS (f :: fs) ρ s1 Q else WpS (g :: fs) ρ s1 Q) := by
  rw [wps_cut]; unfold sIf; rw [wp_bd]
  congr
  funext k s1
  rw [wp_ite, wps_cut, wps_cut]
theorem wps_asg {t : Tg} : WpS (sAsg t e :: fs) ρ s Q = Wp (e ρ s) (fun w s1 => match tgM t w ρ with | some ρ1 => WpS fs ρ1 s1 Q | none => False) := by
  rw [wps_cut]; unfold sAsg; rw [wp_bd]
  congr
  funext w s1
  cases tgM t w ρ with
  | none => simp only [wp_none]
  | some ρ1 => simp only [wp_some]
theorem wps_put {o i v : FE} : WpS (sPut o i v :: fs) ρ s Q = Wp (v ρ s) (fun w s1 => Wp (o ρ s1) (fun x s2 => Wp (i ρ s2) (fun y s3 => match setAt x y w s3 with | some s4 => WpS fs ρ s4 Q | none => False))) := by
  rw [wps_cut]; unfold sPut; simp only [wp_bd]
  congr; funext w s1; congr; funext x s2; congr; funext y s3
  cases setAt x y w s3 with
  | none => simp only [wp_none]
  | some ρ1 => simp only [wp_some]
theorem wps_dput {o i v : FE} : WpS (sDput o i v :: fs) ρ s Q = Wp (v ρ s) (fun w s1 => Wp (o ρ s1) (fun x s2 => Wp (i ρ s2) (fun y s3 => match dcOf x s3, keyW y with | some (n, kvs), some k => kvs.length ≤ 100000 ∧ WpS fs ρ (s3.set n (.dct (put kvs k w))) Q | _, _ => False))) := by
  rw [wps_cut]; unfold sDput; simp only [wp_bd]
  congr; funext w s1; congr; funext x s2; congr; funext y s3
  cases dcOf x s3 with
  | none => simp only [wp_none]
  | some p =>
    cases keyW y with
    | none => simp only [wp_none]
    | some k =>
      simp only [wp_ite, wp_some, wp_none]
      split
      · rename_i h; exact propext ⟨fun q => ⟨h, q⟩, fun q => q.2⟩
      · rename_i h; exact propext ⟨fun q => q.elim, fun q => h q.1⟩
theorem wps_aug {g : W → W → Sto → Rz W} : WpS (sAug i g e :: fs) ρ s Q = (match ρ[i]? with | some (some x) => Wp (e ρ s) (fun y s1 => Wp (g x y s1) (fun z s2 => WpS fs (ρ.set i (some z)) s2 Q)) | _ => False) := by
  rw [wps_cut]; unfold sAug
  cases hx : ρ[i]? with
  | none => simp only [hx, wp_none]
  | some o =>
    cases o with
    | none => simp only [hx, wp_none]
    | some x => simp only [hx, wp_bd, wp_some]
theorem wps_par {a : FA} : WpS (sPar i j a :: fs) ρ s Q = Wp (a ρ s) (fun ws s1 => match ws with | [v, w] => WpS fs ((ρ.set i (some v)).set j (some w)) s1 Q | _ => False) := by
  rw [wps_cut]; unfold sPar; rw [wp_bd]
  congr; funext ws s1
  split <;> simp only [wp_some, wp_none]
theorem wps_mid {M : EnvM → Sto → Prop} (h1 : WpS [f] ρ s (fun o s1 => match o with | .nx ρ1 => M ρ1 s1 | o => Q o s1)) (h2 : ∀ ρ1 s1, M ρ1 s1 → WpS fs ρ1 s1 Q) : WpS (f :: fs) ρ s Q := by
  rw [wps_one] at h1
  rw [wps_cut]
  refine h1.mono fun o s1 q => ?_
  cases o with
  | nx ρ1 => exact h2 ρ1 s1 q
  | _ => exact q
def QL (fs : List FS) (I : EnvM → Sto → Prop) (Q : Out → Sto → Prop) : Out → Sto → Prop := fun o s => match o with
  | .nx ρ => I ρ s
  | .ct ρ => I ρ s
  | .bk ρ => WpS fs ρ s Q
  | .rt w => Q (.rt w) s
theorem ql_nx {I : EnvM → Sto → Prop} : QL fs I Q (.nx ρ) s = I ρ s := rfl
theorem ql_ct {I : EnvM → Sto → Prop} : QL fs I Q (.ct ρ) s = I ρ s := rfl
theorem ql_bk {I : EnvM → Sto → Prop} : QL fs I Q (.bk ρ) s = WpS fs ρ s Q := rfl
theorem ql_rt {I : EnvM → Sto → Prop} {w : W} : QL fs I Q (.rt w) s = Q (.rt w) s := rfl
theorem wps_for {it : FI} {t : Tg} : WpS (sFor it t f :: fs) ρ s Q = Wp (it ρ s) (fun x s1 => Wp (fo t f x.2 x.1 ρ s1) (fun o s2 => match o with | .nx ρ1 => WpS fs ρ1 s2 Q | o => Q o s2)) := by
  rw [wps_cut]; unfold sFor; rw [wp_bd]
theorem wp_fo {t : Tg} {c : Option (Nat × List W)} (I : Nat → EnvM → Sto → Prop) : ∀ (xs : List W) (k : Nat) (ρ : EnvM) (s : Sto), I k ρ s →
    (∀ (i : Nat) (x : W) (ρ : EnvM) (s : Sto), xs[i]? = some x → I (k + i) ρ s → okc c s ∧ ∃ ρ1, tgM t x ρ = some ρ1 ∧ WpS [f] ρ1 s (QL fs (fun ρ2 s2 => I (k + i + 1) ρ2 s2) Q)) →
    (∀ ρ s, I (k + xs.length) ρ s → okc c s ∧ WpS fs ρ s Q) → Wp (fo t f c xs ρ s) (fun o s2 => match o with | .nx ρ1 => WpS fs ρ1 s2 Q | o => Q o s2)
  | [], k, ρ, s, h0, _, he => by
    obtain ⟨h1, h2⟩ := he ρ s h0
    rw [fo, if_pos h1, wp_some]
    exact h2
  | x :: xs, k, ρ, s, h0, hs, he => by
    obtain ⟨h1, ρ1, h2, h3⟩ := hs 0 x ρ s rfl h0
    rw [fo, if_pos h1, h2]
    simp only [wp_bd]
    rw [wps_one] at h3
    refine h3.mono fun o s2 q => ?_
    have go : ∀ ρ2, I (k + 1) ρ2 s2 → Wp (fo t f c xs ρ2 s2) (fun o s2 => match o with | .nx ρ1 => WpS fs ρ1 s2 Q | o => Q o s2) := fun ρ2 q =>
      wp_fo I xs (k + 1) ρ2 s2 q (fun i y ρ s hy hi => by
        have e : k + 1 + i = k + (i + 1) := by omega
        rw [e] at hi ⊢
        exact hs (i + 1) y ρ s hy hi) fun ρ s hi => he ρ s (by rw [List.length_cons]; rw [show k + (xs.length + 1) = k + 1 + xs.length by omega]; exact hi)
    cases o with
    | nx ρ2 => exact go ρ2 q
    | ct ρ2 => exact go ρ2 q
    | bk ρ2 => simp only [wp_some]; exact q
    | rt w => simp only [wp_some]; exact q
theorem wps_wh {n : EnvM → Sto → Nat} : WpS (sWh n t f :: fs) ρ s Q = Wp (wh t f (n ρ s) ρ s) (fun o s2 => match o with | .nx ρ1 => WpS fs ρ1 s2 Q | o => Q o s2) := by
  rw [wps_cut]; unfold sWh; rfl
theorem wp_tupG {f : FA} {ρ : EnvM} {s : Sto} {Q : W → Sto → Prop} : Wp (eTup f ρ s) Q = Wp (f ρ s) (fun ws s1 => ws.length ≤ 100000 ∧ Q (.tup ws) s1) := by
  unfold eTup
  rw [wp_bd]
  congr; funext ws s1
  rw [wp_ite, wp_some, wp_none]
  split
  · rename_i h; exact propext ⟨fun q => ⟨h, q⟩, fun q => q.2⟩
  · rename_i h; exact propext ⟨fun q => q.elim, fun q => h q.1⟩
theorem wp_lstG {f : FA} {ρ : EnvM} {s : Sto} {Q : W → Sto → Prop} : Wp (eLst f ρ s) Q = Wp (f ρ s) (fun ws s1 => ws.length ≤ 100000 ∧ Q (.ref s1.length) (s1 ++ [.lst ws])) := by
  unfold eLst
  rw [wp_bd]
  congr; funext ws s1
  rw [wp_ite, wp_some, wp_none]
  split
  · rename_i h; exact propext ⟨fun q => ⟨h, q⟩, fun q => q.2⟩
  · rename_i h; exact propext ⟨fun q => q.elim, fun q => h q.1⟩
theorem wp_tup0 {ρ : EnvM} {s : Sto} {Q : W → Sto → Prop} : Wp (eTup aNil ρ s) Q = Q (.tup []) s := by
  have h : (([] : List W).length ≤ 100000) = True := eq_true (Nat.zero_le _)
  rw [wp_tupG]
  simp only [aCons, aNil, wp_bd, wp_some, h, true_and]
theorem wp_tup1 {f0 : FE} {ρ : EnvM} {s : Sto} {Q : W → Sto → Prop} : Wp (eTup (aCons f0 aNil) ρ s) Q = Wp (f0 ρ s) (fun a0 s0 => Q (.tup [a0]) s0) := by
  have h : ∀ a0 : W, (([a0] : List W).length ≤ 100000) = True := fun a0 => eq_true (Nat.le_of_ble_eq_true rfl)
  rw [wp_tupG]
  simp only [aCons, aNil, wp_bd, wp_some, h, true_and]
theorem wp_tup2 {f0 f1 : FE} {ρ : EnvM} {s : Sto} {Q : W → Sto → Prop} : Wp (eTup (aCons f0 (aCons f1 aNil)) ρ s) Q = Wp (f0 ρ s) (fun a0 s0 => Wp (f1 ρ s0) (fun a1 s1 => Q (.tup [a0, a1]) s1)) := by
  have h : ∀ a0 a1 : W, (([a0, a1] : List W).length ≤ 100000) = True := fun a0 a1 => eq_true (Nat.le_of_ble_eq_true rfl)
  rw [wp_tupG]
  simp only [aCons, aNil, wp_bd, wp_some, h, true_and]
theorem wp_tup3 {f0 f1 f2 : FE} {ρ : EnvM} {s : Sto} {Q : W → Sto → Prop} : Wp (eTup (aCons f0 (aCons f1 (aCons f2 aNil))) ρ s) Q = Wp (f0 ρ s) (fun a0 s0 => Wp (f1 ρ s0) (fun a1 s1 => Wp (f2 ρ s1) (fun a2 s2 => Q (.tup [a0, a1, a2]) s2))) := by
  have h : ∀ a0 a1 a2 : W, (([a0, a1, a2] : List W).length ≤ 100000) = True := fun a0 a1 a2 => eq_true (Nat.le_of_ble_eq_true rfl)
  rw [wp_tupG]
  simp only [aCons, aNil, wp_bd, wp_some, h, true_and]
theorem wp_tup4 {f0 f1 f2 f3 : FE} {ρ : EnvM} {s : Sto} {Q : W → Sto → Prop} : Wp (eTup (aCons f0 (aCons f1 (aCons f2 (aCons f3 aNil)))) ρ s) Q = Wp (f0 ρ s) (fun a0 s0 => Wp (f1 ρ s0) (fun a1 s1 => Wp (f2 ρ s1) (fun a2 s2 => Wp (f3 ρ s2) (fun a3 s3 => Q (.tup [a0, a1, a2, a3]) s3)))) := by
  have h : ∀ a0 a1 a2 a3 : W, (([a0, a1, a2, a3] : List W).length ≤ 100000) = True := fun a0 a1 a2 a3 => eq_true (Nat.le_of_ble_eq_true rfl)
  rw [wp_tupG]
  simp only [aCons, aNil, wp_bd, wp_some, h, true_and]
theorem wp_tup5 {f0 f1 f2 f3 f4 : FE} {ρ : EnvM} {s : Sto} {Q : W → Sto → Prop} : Wp (eTup (aCons f0 (aCons f1 (aCons f2 (aCons f3 (aCons f4 aNil))))) ρ s) Q = Wp (f0 ρ s) (fun a0 s0 => Wp (f1 ρ s0) (fun a1 s1 => Wp (f2 ρ s1) (fun a2 s2 => Wp (f3 ρ s2) (fun a3 s3 => Wp (f4 ρ s3) (fun a4 s4 => Q (.tup [a0, a1, a2, a3, a4]) s4))))) := by
  have h : ∀ a0 a1 a2 a3 a4 : W, (([a0, a1, a2, a3, a4] : List W).length ≤ 100000) = True := fun a0 a1 a2 a3 a4 => eq_true (Nat.le_of_ble_eq_true rfl)
  rw [wp_tupG]
  simp only [aCons, aNil, wp_bd, wp_some, h, true_and]
theorem wp_tup6 {f0 f1 f2 f3 f4 f5 : FE} {ρ : EnvM} {s : Sto} {Q : W → Sto → Prop} : Wp (eTup (aCons f0 (aCons f1 (aCons f2 (aCons f3 (aCons f4 (aCons f5 aNil)))))) ρ s) Q = Wp (f0 ρ s) (fun a0 s0 => Wp (f1 ρ s0) (fun a1 s1 => Wp (f2 ρ s1) (fun a2 s2 => Wp (f3 ρ s2) (fun a3 s3 => Wp (f4 ρ s3) (fun a4 s4 => Wp (f5 ρ s4) (fun a5 s5 => Q (.tup [a0, a1, a2, a3, a4, a5]) s5)))))) := by
  have h : ∀ a0 a1 a2 a3 a4 a5 : W, (([a0, a1, a2, a3, a4, a5] : List W).length ≤ 100000) = True := fun a0 a1 a2 a3 a4 a5 => eq_true (Nat.le_of_ble_eq_true rfl)
  rw [wp_tupG]
  simp only [aCons, aNil, wp_bd, wp_some, h, true_and]
theorem wp_tup7 {f0 f1 f2 f3 f4 f5 f6 : FE} {ρ : EnvM} {s : Sto} {Q : W → Sto → Prop} : Wp (eTup (aCons f0 (aCons f1 (aCons f2 (aCons f3 (aCons f4 (aCons f5 (aCons f6 aNil))))))) ρ s) Q = Wp (f0 ρ s) (fun a0 s0 => Wp (f1 ρ s0) (fun a1 s1 => Wp (f2 ρ s1) (fun a2 s2 => Wp (f3 ρ s2) (fun a3 s3 => Wp (f4 ρ s3) (fun a4 s4 => Wp (f5 ρ s4) (fun a5 s5 => Wp (f6 ρ s5) (fun a6 s6 => Q (.tup [a0, a1, a2, a3, a4, a5, a6]) s6))))))) := by
  have h : ∀ a0 a1 a2 a3 a4 a5 a6 : W, (([a0, a1, a2, a3, a4, a5, a6] : List W).length ≤ 100000) = True := fun a0 a1 a2 a3 a4 a5 a6 => eq_true (Nat.le_of_ble_eq_true rfl)
  rw [wp_tupG]
  simp only [aCons, aNil, wp_bd, wp_some, h, true_and]
theorem wp_lst0 {ρ : EnvM} {s : Sto} {Q : W → Sto → Prop} : Wp (eLst aNil ρ s) Q = Q (.ref s.length) (s ++ [.lst []]) := by
  have h : (([] : List W).length ≤ 100000) = True := eq_true (Nat.zero_le _)
  rw [wp_lstG]
  simp only [aCons, aNil, wp_bd, wp_some, h, true_and]
theorem wp_lst1 {f0 : FE} {ρ : EnvM} {s : Sto} {Q : W → Sto → Prop} : Wp (eLst (aCons f0 aNil) ρ s) Q = Wp (f0 ρ s) (fun a0 s0 => Q (.ref s0.length) (s0 ++ [.lst [a0]])) := by
  have h : ∀ a0 : W, (([a0] : List W).length ≤ 100000) = True := fun a0 => eq_true (Nat.le_of_ble_eq_true rfl)
  rw [wp_lstG]
  simp only [aCons, aNil, wp_bd, wp_some, h, true_and]
theorem wp_lst2 {f0 f1 : FE} {ρ : EnvM} {s : Sto} {Q : W → Sto → Prop} : Wp (eLst (aCons f0 (aCons f1 aNil)) ρ s) Q = Wp (f0 ρ s) (fun a0 s0 => Wp (f1 ρ s0) (fun a1 s1 => Q (.ref s1.length) (s1 ++ [.lst [a0, a1]]))) := by
  have h : ∀ a0 a1 : W, (([a0, a1] : List W).length ≤ 100000) = True := fun a0 a1 => eq_true (Nat.le_of_ble_eq_true rfl)
  rw [wp_lstG]
  simp only [aCons, aNil, wp_bd, wp_some, h, true_and]
theorem wp_lst3 {f0 f1 f2 : FE} {ρ : EnvM} {s : Sto} {Q : W → Sto → Prop} : Wp (eLst (aCons f0 (aCons f1 (aCons f2 aNil))) ρ s) Q = Wp (f0 ρ s) (fun a0 s0 => Wp (f1 ρ s0) (fun a1 s1 => Wp (f2 ρ s1) (fun a2 s2 => Q (.ref s2.length) (s2 ++ [.lst [a0, a1, a2]])))) := by
  have h : ∀ a0 a1 a2 : W, (([a0, a1, a2] : List W).length ≤ 100000) = True := fun a0 a1 a2 => eq_true (Nat.le_of_ble_eq_true rfl)
  rw [wp_lstG]
  simp only [aCons, aNil, wp_bd, wp_some, h, true_and]
theorem wp_lst4 {f0 f1 f2 f3 : FE} {ρ : EnvM} {s : Sto} {Q : W → Sto → Prop} : Wp (eLst (aCons f0 (aCons f1 (aCons f2 (aCons f3 aNil)))) ρ s) Q = Wp (f0 ρ s) (fun a0 s0 => Wp (f1 ρ s0) (fun a1 s1 => Wp (f2 ρ s1) (fun a2 s2 => Wp (f3 ρ s2) (fun a3 s3 => Q (.ref s3.length) (s3 ++ [.lst [a0, a1, a2, a3]]))))) := by
  have h : ∀ a0 a1 a2 a3 : W, (([a0, a1, a2, a3] : List W).length ≤ 100000) = True := fun a0 a1 a2 a3 => eq_true (Nat.le_of_ble_eq_true rfl)
  rw [wp_lstG]
  simp only [aCons, aNil, wp_bd, wp_some, h, true_and]
theorem wp_lst5 {f0 f1 f2 f3 f4 : FE} {ρ : EnvM} {s : Sto} {Q : W → Sto → Prop} : Wp (eLst (aCons f0 (aCons f1 (aCons f2 (aCons f3 (aCons f4 aNil))))) ρ s) Q = Wp (f0 ρ s) (fun a0 s0 => Wp (f1 ρ s0) (fun a1 s1 => Wp (f2 ρ s1) (fun a2 s2 => Wp (f3 ρ s2) (fun a3 s3 => Wp (f4 ρ s3) (fun a4 s4 => Q (.ref s4.length) (s4 ++ [.lst [a0, a1, a2, a3, a4]])))))) := by
  have h : ∀ a0 a1 a2 a3 a4 : W, (([a0, a1, a2, a3, a4] : List W).length ≤ 100000) = True := fun a0 a1 a2 a3 a4 => eq_true (Nat.le_of_ble_eq_true rfl)
  rw [wp_lstG]
  simp only [aCons, aNil, wp_bd, wp_some, h, true_and]
theorem wp_lst6 {f0 f1 f2 f3 f4 f5 : FE} {ρ : EnvM} {s : Sto} {Q : W → Sto → Prop} : Wp (eLst (aCons f0 (aCons f1 (aCons f2 (aCons f3 (aCons f4 (aCons f5 aNil)))))) ρ s) Q = Wp (f0 ρ s) (fun a0 s0 => Wp (f1 ρ s0) (fun a1 s1 => Wp (f2 ρ s1) (fun a2 s2 => Wp (f3 ρ s2) (fun a3 s3 => Wp (f4 ρ s3) (fun a4 s4 => Wp (f5 ρ s4) (fun a5 s5 => Q (.ref s5.length) (s5 ++ [.lst [a0, a1, a2, a3, a4, a5]]))))))) := by
  have h : ∀ a0 a1 a2 a3 a4 a5 : W, (([a0, a1, a2, a3, a4, a5] : List W).length ≤ 100000) = True := fun a0 a1 a2 a3 a4 a5 => eq_true (Nat.le_of_ble_eq_true rfl)
  rw [wp_lstG]
  simp only [aCons, aNil, wp_bd, wp_some, h, true_and]
theorem wp_lst7 {f0 f1 f2 f3 f4 f5 f6 : FE} {ρ : EnvM} {s : Sto} {Q : W → Sto → Prop} : Wp (eLst (aCons f0 (aCons f1 (aCons f2 (aCons f3 (aCons f4 (aCons f5 (aCons f6 aNil))))))) ρ s) Q = Wp (f0 ρ s) (fun a0 s0 => Wp (f1 ρ s0) (fun a1 s1 => Wp (f2 ρ s1) (fun a2 s2 => Wp (f3 ρ s2) (fun a3 s3 => Wp (f4 ρ s3) (fun a4 s4 => Wp (f5 ρ s4) (fun a5 s5 => Wp (f6 ρ s5) (fun a6 s6 => Q (.ref s6.length) (s6 ++ [.lst [a0, a1, a2, a3, a4, a5, a6]])))))))) := by
  have h : ∀ a0 a1 a2 a3 a4 a5 a6 : W, (([a0, a1, a2, a3, a4, a5, a6] : List W).length ≤ 100000) = True := fun a0 a1 a2 a3 a4 a5 a6 => eq_true (Nat.le_of_ble_eq_true rfl)
  rw [wp_lstG]
  simp only [aCons, aNil, wp_bd, wp_some, h, true_and]
theorem wp_lst8 {f0 f1 f2 f3 f4 f5 f6 f7 : FE} {ρ : EnvM} {s : Sto} {Q : W → Sto → Prop} : Wp (eLst (aCons f0 (aCons f1 (aCons f2 (aCons f3 (aCons f4 (aCons f5 (aCons f6 (aCons f7 aNil)))))))) ρ s) Q = Wp (f0 ρ s) (fun a0 s0 => Wp (f1 ρ s0) (fun a1 s1 => Wp (f2 ρ s1) (fun a2 s2 => Wp (f3 ρ s2) (fun a3 s3 => Wp (f4 ρ s3) (fun a4 s4 => Wp (f5 ρ s4) (fun a5 s5 => Wp (f6 ρ s5) (fun a6 s6 => Wp (f7 ρ s6) (fun a7 s7 => Q (.ref s7.length) (s7 ++ [.lst [a0, a1, a2, a3, a4, a5, a6, a7]]))))))))) := by
  have h : ∀ a0 a1 a2 a3 a4 a5 a6 a7 : W, (([a0, a1, a2, a3, a4, a5, a6, a7] : List W).length ≤ 100000) = True := fun a0 a1 a2 a3 a4 a5 a6 a7 => eq_true (Nat.le_of_ble_eq_true rfl)
  rw [wp_lstG]
  simp only [aCons, aNil, wp_bd, wp_some, h, true_and]
theorem wp_lst9 {f0 f1 f2 f3 f4 f5 f6 f7 f8 : FE} {ρ : EnvM} {s : Sto} {Q : W → Sto → Prop} : Wp (eLst (aCons f0 (aCons f1 (aCons f2 (aCons f3 (aCons f4 (aCons f5 (aCons f6 (aCons f7 (aCons f8 aNil))))))))) ρ s) Q = Wp (f0 ρ s) (fun a0 s0 => Wp (f1 ρ s0) (fun a1 s1 => Wp (f2 ρ s1) (fun a2 s2 => Wp (f3 ρ s2) (fun a3 s3 => Wp (f4 ρ s3) (fun a4 s4 => Wp (f5 ρ s4) (fun a5 s5 => Wp (f6 ρ s5) (fun a6 s6 => Wp (f7 ρ s6) (fun a7 s7 => Wp (f8 ρ s7) (fun a8 s8 => Q (.ref s8.length) (s8 ++ [.lst [a0, a1, a2, a3, a4, a5, a6, a7, a8]])))))))))) := by
  have h : ∀ a0 a1 a2 a3 a4 a5 a6 a7 a8 : W, (([a0, a1, a2, a3, a4, a5, a6, a7, a8] : List W).length ≤ 100000) = True := fun a0 a1 a2 a3 a4 a5 a6 a7 a8 => eq_true (Nat.le_of_ble_eq_true rfl)
  rw [wp_lstG]
  simp only [aCons, aNil, wp_bd, wp_some, h, true_and]
theorem wp_lst10 {f0 f1 f2 f3 f4 f5 f6 f7 f8 f9 : FE} {ρ : EnvM} {s : Sto} {Q : W → Sto → Prop} : Wp (eLst (aCons f0 (aCons f1 (aCons f2 (aCons f3 (aCons f4 (aCons f5 (aCons f6 (aCons f7 (aCons f8 (aCons f9 aNil)))))))))) ρ s) Q = Wp (f0 ρ s) (fun a0 s0 => Wp (f1 ρ s0) (fun a1 s1 => Wp (f2 ρ s1) (fun a2 s2 => Wp (f3 ρ s2) (fun a3 s3 => Wp (f4 ρ s3) (fun a4 s4 => Wp (f5 ρ s4) (fun a5 s5 => Wp (f6 ρ s5) (fun a6 s6 => Wp (f7 ρ s6) (fun a7 s7 => Wp (f8 ρ s7) (fun a8 s8 => Wp (f9 ρ s8) (fun a9 s9 => Q (.ref s9.length) (s9 ++ [.lst [a0, a1, a2, a3, a4, a5, a6, a7, a8, a9]]))))))))))) := by
  have h : ∀ a0 a1 a2 a3 a4 a5 a6 a7 a8 a9 : W, (([a0, a1, a2, a3, a4, a5, a6, a7, a8, a9] : List W).length ≤ 100000) = True := fun a0 a1 a2 a3 a4 a5 a6 a7 a8 a9 => eq_true (Nat.le_of_ble_eq_true rfl)
  rw [wp_lstG]
  simp only [aCons, aNil, wp_bd, wp_some, h, true_and]
theorem wp_lst11 {f0 f1 f2 f3 f4 f5 f6 f7 f8 f9 f10 : FE} {ρ : EnvM} {s : Sto} {Q : W → Sto → Prop} : Wp (eLst (aCons f0 (aCons f1 (aCons f2 (aCons f3 (aCons f4 (aCons f5 (aCons f6 (aCons f7 (aCons f8 (aCons f9 (aCons f10 aNil))))))))))) ρ s) Q = Wp (f0 ρ s) (fun a0 s0 => Wp (f1 ρ s0) (fun a1 s1 => Wp (f2 ρ s1) (fun a2 s2 => Wp (f3 ρ s2) (fun a3 s3 => Wp (f4 ρ s3) (fun a4 s4 => Wp (f5 ρ s4) (fun a5 s5 => Wp (f6 ρ s5) (fun a6 s6 => Wp (f7 ρ s6) (fun a7 s7 => Wp (f8 ρ s7) (fun a8 s8 => Wp (f9 ρ s8) (fun a9 s9 => Wp (f10 ρ s9) (fun a10 s10 => Q (.ref s10.length) (s10 ++ [.lst [a0, a1, a2, a3, a4, a5, a6, a7, a8, a9, a10]])))))))))))) := by
  have h : ∀ a0 a1 a2 a3 a4 a5 a6 a7 a8 a9 a10 : W, (([a0, a1, a2, a3, a4, a5, a6, a7, a8, a9, a10] : List W).length ≤ 100000) = True := fun a0 a1 a2 a3 a4 a5 a6 a7 a8 a9 a10 => eq_true (Nat.le_of_ble_eq_true rfl)
  rw [wp_lstG]
  simp only [aCons, aNil, wp_bd, wp_some, h, true_and]
theorem wp_lst12 {f0 f1 f2 f3 f4 f5 f6 f7 f8 f9 f10 f11 : FE} {ρ : EnvM} {s : Sto} {Q : W → Sto → Prop} : Wp (eLst (aCons f0 (aCons f1 (aCons f2 (aCons f3 (aCons f4 (aCons f5 (aCons f6 (aCons f7 (aCons f8 (aCons f9 (aCons f10 (aCons f11 aNil)))))))))))) ρ s) Q = Wp (f0 ρ s) (fun a0 s0 => Wp (f1 ρ s0) (fun a1 s1 => Wp (f2 ρ s1) (fun a2 s2 => Wp (f3 ρ s2) (fun a3 s3 => Wp (f4 ρ s3) (fun a4 s4 => Wp (f5 ρ s4) (fun a5 s5 => Wp (f6 ρ s5) (fun a6 s6 => Wp (f7 ρ s6) (fun a7 s7 => Wp (f8 ρ s7) (fun a8 s8 => Wp (f9 ρ s8) (fun a9 s9 => Wp (f10 ρ s9) (fun a10 s10 => Wp (f11 ρ s10) (fun a11 s11 => Q (.ref s11.length) (s11 ++ [.lst [a0, a1, a2, a3, a4, a5, a6, a7, a8, a9, a10, a11]]))))))))))))) := by
  have h : ∀ a0 a1 a2 a3 a4 a5 a6 a7 a8 a9 a10 a11 : W, (([a0, a1, a2, a3, a4, a5, a6, a7, a8, a9, a10, a11] : List W).length ≤ 100000) = True := fun a0 a1 a2 a3 a4 a5 a6 a7 a8 a9 a10 a11 => eq_true (Nat.le_of_ble_eq_true rfl)
  rw [wp_lstG]
  simp only [aCons, aNil, wp_bd, wp_some, h, true_and]
theorem wp_mkF {n N : Nat} {ws : List W} {R : W → Sto → Prop} (h : ws.length = n) : Wp (mkF n N f ws s) R = WpS [f] (ws.map some ++ List.replicate (N - ws.length) none) s (fun o s1 => match o with | .rt w => R w s1 | .nx _ => R .non s1 | _ => False) := by
  unfold mkF
  rw [if_pos h, wp_bd, wps_one]
  congr; funext o s1
  cases o <;> simp only [wp_some, wp_none]
theorem wp_lcf {t : Tg} {u : FT} {c : Option (Nat × List W)} {R : List W → Sto → Prop} (I : Nat → List W → Sto → Prop) : ∀ (xs : List W) (k : Nat) (acc : List W) (s : Sto), I k acc s →
    (∀ (i : Nat) (x : W) (acc : List W) (s : Sto), xs[i]? = some x → I (k + i) acc s → okc c s ∧ ∃ ρ1, tgM t x ρ = some ρ1 ∧ Wp (u ρ1 s) (fun b s1 => if b = true then Wp (e ρ1 s1) (fun w s2 => I (k + i + 1) (acc ++ [w]) s2) else I (k + i + 1) acc s1)) →
    (∀ acc' s, I (k + xs.length) acc' s → okc c s ∧ ∀ ws, acc' = acc ++ ws → R ws s) → Wp (lcf t u e c ρ xs s) R
  | [], k, acc, s, h0, _, he => by
    obtain ⟨h1, h2⟩ := he acc s h0
    rw [lcf, if_pos h1, wp_some]
    exact h2 [] (List.append_nil _).symm
  | x :: xs, k, acc, s, h0, hs, he => by
    obtain ⟨h1, ρ1, h2, h3⟩ := hs 0 x acc s rfl h0
    rw [lcf, if_pos h1, h2]
    simp only [wp_bd]
    have st : ∀ (i : Nat) (x : W) (acc : List W) (s : Sto), xs[i]? = some x → I (k + 1 + i) acc s → okc c s ∧ ∃ ρ1, tgM t x ρ = some ρ1 ∧ Wp (u ρ1 s) (fun b s1 => if b = true then Wp (e ρ1 s1) (fun w s2 => I (k + 1 + i + 1) (acc ++ [w]) s2) else I (k + 1 + i + 1) acc s1) := fun i y acc s hy hi => by
      have e : k + 1 + i = k + (i + 1) := by omega
      rw [e] at hi ⊢
      exact hs (i + 1) y acc s hy hi
    have hl : ∀ acc' s, I (k + 1 + xs.length) acc' s → okc c s ∧ ∀ ws, acc' = acc ++ ws → R ws s := fun a s hi => he a s (by rw [List.length_cons]; rw [show k + (xs.length + 1) = k + 1 + xs.length by omega]; exact hi)
    refine h3.mono fun b s1 q => ?_
    cases b with
    | false =>
      simp only [Bool.false_eq_true, if_false] at q ⊢
      exact wp_lcf I xs (k + 1) acc s1 q st hl
    | true =>
      simp only [if_true, wp_bd] at q ⊢
      refine q.mono fun w s2 q => ?_
      refine wp_lcf I xs (k + 1) (acc ++ [w]) s2 q st fun a s hi => ?_
      obtain ⟨h1, h2⟩ := hl a s hi
      refine ⟨h1, fun ws e => ?_⟩
      rw [wp_some]
      exact h2 (w :: ws) (by rw [e, List.append_assoc]; rfl)
theorem wp_lc {vs : List Nat} {it : FI} {t : Tg} {u : FT} {R : W → Sto → Prop} : Wp (eLc vs it t u e ρ s) R = Wp (it ρ s) (fun x s1 => x.1.length ≤ 100000 ∧ Wp (lcf t u e x.2 (wipeM ρ vs) x.1 s1) (fun ws s2 => R (.ref s2.length) (s2 ++ [.lst ws]))) := by
  unfold eLc
  rw [wp_bd]
  congr; funext x s1
  rw [wp_ite, wp_none, wp_bd]
  simp only [wp_some]
  split
  · rename_i h; exact propext ⟨fun q => ⟨h, q⟩, fun q => q.2⟩
  · rename_i h; exact propext ⟨fun q => q.elim, fun q => h q.1⟩
end
end Mir

set_option Elab.async false
set_option linter.all false
set_option maxRecDepth 100000
namespace Mir
open PySem PySem.Spec PyProof.Rows L2
structure Fr (L : List Nat) (s s' : Sto) : Prop where
  len : s.length ≤ s'.length
  at_ : ∀ i o, i ∉ L → s[i]? = some o → s'[i]? = some o
theorem Fr.refl {L : List Nat} {s : Sto} : Fr L s s := ⟨Nat.le_refl _, fun _ _ _ h => h⟩
theorem Fr.trans {L : List Nat} {s s' s'' : Sto} (h : Fr L s s') (h' : Fr L s' s'') : Fr L s s'' := ⟨Nat.le_trans h.len h'.len, fun i o hi e => h'.at_ i o hi (h.at_ i o hi e)⟩
theorem Fr.mono {L L' : List Nat} {s s' : Sto} (h : Fr L s s') (q : ∀ i ∈ L, i ∈ L') : Fr L' s s' := ⟨h.len, fun i o hi e => h.at_ i o (fun z => hi (q i z)) e⟩
theorem Fr.app {L : List Nat} {s t : Sto} : Fr L s (s ++ t) := ⟨by simp, fun i o _ e => by rw [List.getElem?_append_left (List.getElem?_eq_some_iff.mp e).1]; exact e⟩
theorem Fr.set {L : List Nat} {s : Sto} {n : Nat} {o : O} (h : n ∈ L) : Fr L s (s.set n o) := ⟨by simp, fun i o' hi e => by rw [List.getElem?_set_ne (fun z => hi (by rw [← z]; exact h))]; exact e⟩
theorem Fr.new {L L' : List Nat} {s s1 s2 : Sto} (h : Fr L s s1) (h' : Fr (L' ++ L) s1 s2) (q : ∀ i ∈ L', s.length ≤ i) : Fr L s s2 :=
  ⟨Nat.le_trans h.len h'.len, fun i o hi e => h'.at_ i o (fun z => by
    rcases List.mem_append.mp z with z | z
    · have := (List.getElem?_eq_some_iff.mp e).1
      have := q i z
      omega
    · exact hi z) (h.at_ i o hi e)⟩
theorem getset {s : Sto} {r : Nat} {o o' : O} (h : s[r]? = some o) : (s.set r o')[r]? = some o' := by
  rw [List.getElem?_set_self (List.getElem?_eq_some_iff.mp h).1]
theorem getne {s : Sto} {r i : Nat} {o' : O} (h : i ≠ r) : (s.set r o')[i]? = s[i]? := List.getElem?_set_ne (fun e => h e.symm)
theorem setset {s : Sto} {r : Nat} {o o' : O} : (s.set r o).set r o' = s.set r o' := List.set_set ..
theorem gapp {s t : Sto} {r : Nat} {o : O} (h : s[r]? = some o) : (s ++ t)[r]? = some o := by
  rw [List.getElem?_append_left (List.getElem?_eq_some_iff.mp h).1]
  exact h
theorem gnew {s t : Sto} {o : O} : (s ++ o :: t)[s.length]? = some o := by simp
theorem gltn {s : Sto} {r : Nat} {o : O} (h : s[r]? = some o) : r < s.length := (List.getElem?_eq_some_iff.mp h).1
theorem ii {f : Int → Int → W} {i j : Int} {s : Sto} : gII f (.int i) (.int j) s = some (f i j, s) := rfl
theorem mulR {i j : Int} {s : Sto} (h1 : -(2 ^ 64) < j) (h2 : j < 2 ^ 64) : Mir.gMul (.int i) (.int j) s = some (.int (i * j), s) := by
  simp only [Mir.gMul]
  rw [if_pos (.inr ⟨h1, h2⟩)]
theorem mulL {i j : Int} {s : Sto} (h1 : -(2 ^ 64) < i) (h2 : i < 2 ^ 64) : Mir.gMul (.int i) (.int j) s = some (.int (i * j), s) := by
  simp only [Mir.gMul]
  rw [if_pos (.inl ⟨h1, h2⟩)]
theorem modR {i j : Int} {s : Sto} (h1 : 0 < j) : gMod (.int i) (.int j) s = some (.int (i % j), s) := by
  simp only [gIIc, decide_eq_true h1, if_true]
theorem divR {i j : Int} {s : Sto} (h1 : 0 < j) (h2 : j < 1073741824) : gDiv (.int i) (.int j) s = some (.int (i / j), s) := by
  have h : decide (0 < j ∧ j < 1073741824) = true := decide_eq_true ⟨h1, h2⟩
  simp only [gIIc, h, if_true]
theorem divRW {i j : Int} {s : Sto} (h1 : 0 < j) (h2 : j < 4611686018427387904) : gDivW (.int i) (.int j) s = some (.int (i / j), s) := by
  have h3 : j.natAbs < 2 ^ 62 := by omega
  have h : decide (0 < j ∧ j.natAbs.log2 < 9000) = true := decide_eq_true ⟨h1, Nat.lt_trans ((Nat.log2_lt (by omega)).mpr h3) (by decide)⟩
  simp only [gIIc, h, if_true]
theorem addI {i j : Int} {s : Sto} : gAdd (.int i) (.int j) s = some (.int (i + j), s) := rfl
theorem subI {i j : Int} {s : Sto} : Mir.gSub (.int i) (.int j) s = some (.int (i - j), s) := rfl
theorem int1 {i : Int} {s : Sto} : gInt1 [.int i] s = some (.int i, s) := rfl
theorem negI {i : Int} {s : Sto} : gNeg (.int i) s = some (.int (-i), s) := rfl
theorem eqI {i j : Int} {s : Sto} : gEq (.int i) (.int j) s = some (.bl (decide (i = j)), s) := rfl
theorem neI {i j : Int} {s : Sto} : gNe (.int i) (.int j) s = some (.bl (!decide (i = j)), s) := rfl
theorem eqS {a b : Str} {s : Sto} : gEq (.str a) (.str b) s = some (.bl (decide (a = b)), s) := rfl
theorem neS {a b : Str} {s : Sto} : gNe (.str a) (.str b) s = some (.bl (!decide (a = b)), s) := rfl
theorem isN {x : W} {s : Sto} : gIs x .non s = some (.bl (Mir.isNon x), s) := by cases x <;> rfl
theorem isnN {x : W} {s : Sto} : gIsNot x .non s = some (.bl (!Mir.isNon x), s) := by cases x <;> rfl
theorem ix0 {a : W} {r : List W} {s : Sto} : gIx (.tup (a :: r)) (.int 0) s = some (a, s) := by
  have h : atI (a :: r) ((0 : Nat) : Int) = some a := atI_nat rfl
  have h : atI (a :: r) 0 = some a := h
  simp only [gIx, seqOf, h]
theorem ix1 {a b : W} {r : List W} {s : Sto} : gIx (.tup (a :: b :: r)) (.int 1) s = some (b, s) := by
  have h : atI (a :: b :: r) ((1 : Nat) : Int) = some b := atI_nat rfl
  have h : atI (a :: b :: r) 1 = some b := h
  simp only [gIx, seqOf, h]
theorem ix2 {a b c : W} {r : List W} {s : Sto} : gIx (.tup (a :: b :: c :: r)) (.int 2) s = some (c, s) := by
  have h : atI (a :: b :: c :: r) ((2 : Nat) : Int) = some c := atI_nat rfl
  have h : atI (a :: b :: c :: r) 2 = some c := h
  simp only [gIx, seqOf, h]
theorem ix3 {a b c d : W} {r : List W} {s : Sto} : gIx (.tup (a :: b :: c :: d :: r)) (.int 3) s = some (d, s) := by
  have h : atI (a :: b :: c :: d :: r) ((3 : Nat) : Int) = some d := atI_nat rfl
  have h : atI (a :: b :: c :: d :: r) 3 = some d := h
  simp only [gIx, seqOf, h]
theorem ixL {n i : Nat} {ws : List W} {w : W} {s : Sto} (h : s[n]? = some (.lst ws)) (hi : ws[i]? = some w) : gIx (.ref n) (.int (i : Int)) s = some (w, s) := by
  simp only [gIx, seqOf, h, atI_nat hi]
theorem chkR {n : Nat} {ws : List W} : chkOf (.ref n) ws = some (n, ws) := rfl
theorem chkT {us ws : List W} : chkOf (.tup us) ws = none := rfl
theorem chkO {us ws : List W} : chkOf (.lro us) ws = none := rfl
theorem lstO {ws : List W} {s : Sto} : lstOf (.lro ws) s = some ws := rfl
theorem lenL {n : Nat} {ws : List W} {s : Sto} (h : s[n]? = some (.lst ws)) : gLen [.ref n] s = some (.int (ws.length : Int), s) := by
  simp only [gLen, lenW, h]
theorem lenT {ws : List W} {s : Sto} : gLen [.tup ws] s = some (.int (ws.length : Int), s) := rfl
theorem listL {n : Nat} {ws : List W} {s : Sto} (h : s[n]? = some (.lst ws)) : gList [.ref n] s = some (.ref s.length, s ++ [.lst ws]) := by
  simp only [gList, seqOf, h]
theorem tupL {n : Nat} {ws : List W} {s : Sto} (h : s[n]? = some (.lst ws)) : gTuple [.ref n] s = some (.tup ws, s) := by
  simp only [gTuple, seqOf, h]
theorem isLR {n : Nat} {s : Sto} {ws : List W} (h : s[n]? = some (.lst ws)) : isL (.ref n) s = true := by simp only [isL, h]
theorem appL {n : Nat} {s : Sto} {ws : List W} {w : W} (h : s[n]? = some (.lst ws)) (hl : ws.length ≤ 100000) : gAppend (.ref n) [w] s = some (.non, s.set n (.lst (ws ++ [w]))) := by
  simp only [gLm, h, fAppend, hl, if_true]
theorem extL {n k : Nat} {s : Sto} {ws us : List W} (h : s[n]? = some (.lst ws)) (hk : s[k]? = some (.lst us)) (hl : ws.length + us.length ≤ 100000) : gExtend (.ref n) [.ref k] s = some (.non, s.set n (.lst (ws ++ us))) := by
  simp only [gLm, h, fExtend, hk, hl, if_true]
theorem nc0 : ((0 : Nat) : Int) = 0 := rfl
theorem nc1 : ((1 : Nat) : Int) = 1 := rfl
theorem nc2 : ((2 : Nat) : Int) = 2 := rfl
theorem nc3 : ((3 : Nat) : Int) = 3 := rfl
theorem truB {b : Bool} {s : Sto} : truW (.bl b) s = some b := rfl
theorem truN {s : Sto} : truW .non s = some false := rfl
theorem ixN_nat {n i : Nat} (h : i < n) : ixN n (i : Int) = some i := by
  unfold ixN
  rw [if_pos (by omega), if_pos (by omega)]
  simp
theorem putL {n i : Nat} {s : Sto} {ws : List W} {w : W} (h : s[n]? = some (.lst ws)) (hi : i < ws.length) : setAt (.ref n) (.int (i : Int)) w s = some (s.set n (.lst (ws.set i w))) := by
  simp only [setAt, h, ixN_nat hi]
theorem rngL {n : Nat} {s : Sto} (h : n ≤ 100000) : (if -(2 ^ 62) ≤ (n : Int) ∧ (n : Int) < 2 ^ 62 then some (((List.range (n : Int).toNat).map fun (i : Nat) => W.int (0 + (i : Int)), (none : Option (Nat × List W))), s) else none) = some (((List.range n).map fun (i : Nat) => W.int (i : Int), none), s) := by
  have key : ∀ j : Int, 0 ≤ j → j ≤ 100000 → (-(2 ^ 62) ≤ j ∧ j < 2 ^ 62) := fun j h0 h1 => by omega
  rw [if_pos (key (n : Int) (by omega) (by omega)), Int.toNat_natCast]
  simp only [Int.zero_add]
theorem rng1 {f : FE} {ρ : EnvM} {s s1 : Sto} {n : Nat} (e : f ρ s = some (.int (n : Int), s1)) (h : n ≤ 100000) : Mir.iRng1 f ρ s = some (((List.range n).map fun (i : Nat) => W.int (i : Int), none), s1) := by
  unfold Mir.iRng1
  rw [e, bd_some]
  exact rngL h
theorem wp_rng1 {f : FE} {ρ : EnvM} {s : Sto} {R : (List W × Option (Nat × List W)) → Sto → Prop} (h : Wp (f ρ s) (fun w s1 => ∃ n : Nat, w = .int (n : Int) ∧ n ≤ 100000 ∧ R ((List.range n).map fun (i : Nat) => W.int (i : Int), none) s1)) : Wp (Mir.iRng1 f ρ s) R := by
  obtain ⟨w, s1, e, n, rfl, hn, h⟩ := h
  exact ⟨_, _, rng1 e hn, h⟩
abbrev wi (l : List Int) : List W := l.map W.int
theorem ixI {n i : Nat} {l : List Int} {v : Int} {s : Sto} (h : s[n]? = some (.lst (wi l))) (hi : l[i]? = some v) : gIx (.ref n) (.int (i : Int)) s = some (.int v, s) := ixL h (by rw [List.getElem?_map, hi]; rfl)
theorem put_new {kvs : List (Key × W)} {k : Key} {w : W} (h : look kvs k = none) : put kvs k w = kvs ++ [(k, w)] := by
  unfold put
  rw [if_neg]
  intro q
  obtain ⟨x, hx, e⟩ := List.any_eq_true.mp q
  unfold look at h
  cases e2 : kvs.find? (fun kv => decide (kv.1 = k)) with
  | some x => rw [e2] at h; cases h
  | none => exact absurd e (by simpa using List.find?_eq_none.mp e2 x hx)
theorem dcR {n : Nat} {s : Sto} {kvs : List (Key × W)} (h : s[n]? = some (.dct kvs)) : dcOf (.ref n) s = some (n, kvs) := by simp only [dcOf, h]
theorem keyI {i : Int} : keyW (.int i) = some (.inl i) := rfl
theorem keyS {i : Str} : keyW (.str i) = some (.inr i) := rfl
theorem slL {n a b : Nat} {ws : List W} {s : Sto} (h : s[n]? = some (.lst ws)) : gSlA (.ref n) (some (a : Int)) (some (b : Int)) s = some (.ref s.length, s ++ [.lst ((ws.drop a).take (b - a))]) := by
  have e : lstOf (.ref n) s = some ws := by simp only [lstOf, h]
  have key : (ws.drop (min a ws.length)).take (min b ws.length - min a ws.length) = (ws.drop a).take (b - a) := by
    apply List.ext_getElem?
    intro i
    simp only [List.getElem?_take, List.getElem?_drop]
    by_cases h : i < b - a ∧ a + i < ws.length
    · have e1 : min a ws.length = a := by omega
      rw [e1, if_pos (by omega), if_pos h.1]
    · have e2 : (if i < b - a then ws[a + i]? else none) = none := by
        split
        · exact List.getElem?_eq_none (by omega)
        · rfl
      rw [e2]
      split
      · exact List.getElem?_eq_none (by omega)
      · rfl
  simp only [gSlA, e, HT.sIx_nat]
  rw [key]
theorem eqv_ints : ∀ a b : List Int, PyData.eqvAll (a.map PyData.int) (b.map PyData.int) = decide (a = b)
  | [], [] => rfl
  | [], _ :: _ => rfl
  | _ :: _, [] => rfl
  | x :: a, y :: b => by
    simp only [List.map_cons, PyData.eqvAll, PyData.eqv, eqv_ints a b]
    by_cases h : x = y
    · by_cases q : a = b <;> simp [h, q]
    · simp [h]
theorem lay_ints : ∀ ns : List Int, PyData.canLayAll0 (ns.map PyData.int) = true
  | [] => rfl
  | n :: ns => by simp only [List.map_cons, PyData.canLayAll0, PyData.canLay0, lay_ints ns, Bool.and_self]
theorem dep_ints : ∀ ns : List Int, PyData.depthAll (ns.map PyData.int) ≤ 1
  | [] => by simp [PyData.depthAll]
  | n :: ns => by
    have := dep_ints ns
    simp only [List.map_cons, PyData.depthAll, PyData.depth]
    omega
theorem mapM_ints (s : Sto) : ∀ ns : List Int, (wi ns).mapM (pyS s 2) = some (ns.map PyData.int)
  | [] => rfl
  | n :: ns => by
    rw [wi, List.map_cons, List.mapM_cons, mapM_ints s ns]
    simp [pyS, pyW]
theorem shp_ints (ns : List Int) : SeqAt.shaped (.list (ns.map PyData.int)) = true := by
  have := dep_ints ns
  have hd : (PyData.list (ns.map PyData.int)).depth ≤ 64 := by rw [PyData.depth]; omega
  simp only [SeqAt.shaped, PyData.canLay0, lay_ints, Bool.true_and, decide_eq_true hd]
theorem eqw_ints {s : Sto} {a b : Nat} {x y : List Int} (ha : s[a]? = some (.lst (wi x))) (hb : s[b]? = some (.lst (wi y))) : eqW s (.ref a) (.ref b) = some (decide (x = y)) := by
  simp only [eqW, sEq, datEq, pyS, ha, hb, mapM_ints, Option.map_some, shp_ints, and_self, if_true, PyData.eqv, eqv_ints]
theorem ne_ints {s : Sto} {a b : Nat} {x y : List Int} (ha : s[a]? = some (.lst (wi x))) (hb : s[b]? = some (.lst (wi y))) : gNe (.ref a) (.ref b) s = some (.bl (!decide (x = y)), s) := by
  simp only [gNe, eqw_ints ha hb]
theorem eq_ints {s : Sto} {a b : Nat} {x y : List Int} (ha : s[a]? = some (.lst (wi x))) (hb : s[b]? = some (.lst (wi y))) : gEq (.ref a) (.ref b) s = some (.bl (decide (x = y)), s) := by
  simp only [gEq, eqw_ints ha hb]
noncomputable def BMix : FS := (sCons (sSet 0 (eOp gMod (eFn gInt1 (aCons (eOp gAdd (eOp gMul (eVar 0) (eC (.int 6364136223846793005))) (eC (.int 1442695040888963407))) aNil)) (eC (.int 18446744073709551616))))
    (sRet (eOp gMod (eFn gInt1 (aCons (eOp gAdd (eOp gDivW (eOp gMul (eVar 0) (eVar 0)) (eC (.int 4294967296))) (eOp gMul (eVar 0) (eC (.int 69621)))) aNil)) (eC (.int 18446744073709551557)))))
noncomputable def TMix : List W → Sto → Rz W := mkF 1 1 BMix
noncomputable def BTake : FS := (sCons (sIf (bTest (eOp gLt (eOp gIx (eVar 0) (eC (.int 2))) (eVar 1))) (sIf (bTest (eOp gLt (eOp gIx (eVar 0) (eC (.int 1))) (eFn gLen (aCons (eOp gIx (eVar 0) (eC (.int 0))) aNil)))) (sCons (sSet 2 (eOp gIx (eOp gIx (eVar 0) (eC (.int 0))) (eOp gIx (eVar 0) (eC (.int 1)))))
    (sCons (sSet 2 (eIf (bTest (eOp gGe (eVar 2) (eC (.int 0)))) (eOp gMul (eC (.int 2)) (eVar 2)) (eOp gSub (eOp gMul (eUn gNeg (eC (.int 2))) (eVar 2)) (eC (.int 1)))))
    (sCons (sPut (eVar 0) (eC (.int 1)) (eOp gAdd (eOp gIx (eVar 0) (eC (.int 1))) (eC (.int 1))))
    (sCons (sPut (eVar 0) (eC (.int 3)) (eFn TMix (aCons (eOp gAdd (eOp gIx (eVar 0) (eC (.int 3))) (eVar 2)) aNil)))
    (sPut (eVar 0) (eC (.int 2)) (eIf (bTest (eOp gGe (eVar 2) (eOp gPow (eC (.int 10)) (eC (.int 18))))) (eVar 2) (eFn TMix (aCons (eFn TMix (aCons (eVar 2) aNil)) aNil)))))))) (sCons (sPut (eVar 0) (eC (.int 3)) (eFn TMix (aCons (eOp gAdd (eOp gIx (eVar 0) (eC (.int 3))) (eC (.int 1))) aNil)))
    (sPut (eVar 0) (eC (.int 2)) (eOp gIx (eVar 0) (eC (.int 3)))))) sNil)
    (sCons (sSet 3 (eOp gMod (eFn gInt1 (aCons (eOp gIx (eVar 0) (eC (.int 2))) aNil)) (eVar 1)))
    (sCons (sPut (eVar 0) (eC (.int 2)) (eOp gDivW (eOp gIx (eVar 0) (eC (.int 2))) (eVar 1)))
    (sRet (eVar 3)))))
noncomputable def TTake : List W → Sto → Rz W := mkF 2 4 BTake
def mixM (n : Int) : Int := (n * 6364136223846793005 + 1442695040888963407) % 18446744073709551616
def mixI (n : Int) : Int := (mixM n * mixM n / 4294967296 + mixM n * 69621) % 18446744073709551557
theorem mix_ok {n : Int} {s : Sto} : TMix [.int n] s = some (.int (mixI n), s) := by
  have m1 : Mir.gMul (.int n) (.int 6364136223846793005) s = some (.int (n * 6364136223846793005), s) := mulR (by decide) (by decide)
  have m2 : gMod (.int (n * 6364136223846793005 + 1442695040888963407)) (.int 18446744073709551616) s = some (.int (mixM n), s) := modR (by decide)
  have h0 : 0 ≤ mixM n := Int.emod_nonneg _ (by decide)
  have h1 : mixM n < 18446744073709551616 := Int.emod_lt_of_pos _ (by decide)
  have m3 : Mir.gMul (.int (mixM n)) (.int (mixM n)) s = some (.int (mixM n * mixM n), s) := mulR (Int.lt_of_lt_of_le (by decide) h0) (by rw [show (2 : Int) ^ 64 = 18446744073709551616 by decide +kernel]; exact h1)
  have m4 : gDivW (.int (mixM n * mixM n)) (.int 4294967296) s = some (.int (mixM n * mixM n / 4294967296), s) := by
    have h : decide ((0 : Int) < 4294967296 ∧ (4294967296 : Int).natAbs.log2 < 9000) = true := by decide +kernel
    simp only [gIIc, h, if_true]
  have m5 : Mir.gMul (.int (mixM n)) (.int 69621) s = some (.int (mixM n * 69621), s) := mulR (by decide) (by decide)
  have m6 : gMod (.int (mixM n * mixM n / 4294967296 + mixM n * 69621)) (.int 18446744073709551557) s = some (.int (mixI n), s) := modR (by decide)
  unfold TMix BMix
  simp only [mkF, bd_some, bd_none, sCons, sNil, sSet, sAsg, sPar, sDo, sRet, sRetN, sIf, sPut, sAug, sBrk, sCnt, sFor, iSeq, iEnu, Mir.iRev, Mir.iRng1, Mir.iRng2, eVar, eC, eOp, eUn, eFn, eMt, aNil, aCons, eTup, eLst, eAnd, eOr, eNot, eIf, bTest, bTruth, bAnd, bOr, bNot, bYes, eSl, pNo, pAt, tgM_name, tgM_tup, tgMs_nil, tgMs_name, tgMs_tup, List.getElem?_cons_succ, List.getElem?_cons_zero, List.set_cons_succ, List.set_cons_zero, List.map_cons, List.map_nil, List.length_cons, List.length_nil, List.replicate, List.nil_append, List.cons_append, if_true, if_false, Bool.false_eq_true, Nat.reduceAdd, Nat.reduceSub, Nat.reduceLeDiff, Nat.zero_add, Bool.not_true, Bool.not_false, m1, addI, int1, m2, m3, m4, m5, m6]
structure Tape (s : Sto) (r rc : Nat) (cs : List Int) : Prop where
  tape : ∃ (a : Nat) (b c : Int) (w : W), s[r]? = some (.lst [.ref rc, .int (a : Int), .int b, .int c, w])
  cells : s[rc]? = some (.lst (cs.map W.int))
theorem Tape.ne {s : Sto} {r rc : Nat} {cs : List Int} (T : Tape s r rc cs) : rc ≠ r := fun h => by
  obtain ⟨a, b, c, w, e⟩ := T.tape
  have := T.cells
  rw [h, e] at this
  cases cs <;> simp at this



def tp (s : Sto) (r : Nat) (x0 x1 x2 x3 x4 : W) : Sto := s.set r (.lst [x0, x1, x2, x3, x4])
theorem tp_get {s : Sto} {r : Nat} {x0 x1 x2 x3 x4 : W} (h : r < s.length) : (tp s r x0 x1 x2 x3 x4)[r]? = some (.lst [x0, x1, x2, x3, x4]) := List.getElem?_set_self h
theorem tp_ne {s : Sto} {r i : Nat} {x0 x1 x2 x3 x4 : W} (h : i ≠ r) : (tp s r x0 x1 x2 x3 x4)[i]? = s[i]? := getne h
theorem s_tp {s : Sto} {r : Nat} {x0 x1 x2 x3 x4 : W} (e : s[r]? = some (.lst [x0, x1, x2, x3, x4])) : tp s r x0 x1 x2 x3 x4 = s := by
  apply List.ext_getElem?
  intro i
  by_cases h : i = r
  · subst h; rw [tp_get (List.getElem?_eq_some_iff.mp e).1, e]
  · exact tp_ne h
theorem take_core {s : Sto} {r rc : Nat} {cs : List Int} {m : Int} (h : r < s.length) (hne : rc ≠ r) (hrc : s[rc]? = some (.lst (cs.map W.int))) (h0 : 0 < m) (h1 : m < 4611686018427387904) (a : Nat) (b c : Int) (w : W) :
    ∃ (d : Int) (a' : Nat) (b' c' : Int), TTake [.ref r, .int m] (tp s r (.ref rc) (.int (a : Int)) (.int b) (.int c) w) = some (.int d, tp s r (.ref rc) (.int (a' : Int)) (.int b') (.int c') w) ∧ 0 ≤ d ∧ d < m := by
  have gi0 : ∀ x0 x1 x2 x3 x4 : W, gIx (.ref r) (.int 0) (tp s r x0 x1 x2 x3 x4) = some (x0, tp s r x0 x1 x2 x3 x4) := fun x0 x1 x2 x3 x4 => by simp only [gIx, seqOf, tp_get h]; rfl
  have gi1 : ∀ x0 x1 x2 x3 x4 : W, gIx (.ref r) (.int 1) (tp s r x0 x1 x2 x3 x4) = some (x1, tp s r x0 x1 x2 x3 x4) := fun x0 x1 x2 x3 x4 => by simp only [gIx, seqOf, tp_get h]; rfl
  have gi2 : ∀ x0 x1 x2 x3 x4 : W, gIx (.ref r) (.int 2) (tp s r x0 x1 x2 x3 x4) = some (x2, tp s r x0 x1 x2 x3 x4) := fun x0 x1 x2 x3 x4 => by simp only [gIx, seqOf, tp_get h]; rfl
  have gi3 : ∀ x0 x1 x2 x3 x4 : W, gIx (.ref r) (.int 3) (tp s r x0 x1 x2 x3 x4) = some (x3, tp s r x0 x1 x2 x3 x4) := fun x0 x1 x2 x3 x4 => by simp only [gIx, seqOf, tp_get h]; rfl
  have ix1 : ixN 5 1 = some 1 := by decide
  have ix2 : ixN 5 2 = some 2 := by decide
  have ix3 : ixN 5 3 = some 3 := by decide
  have st1 : ∀ x0 x1 x2 x3 x4 y : W, setAt (.ref r) (.int 1) y (tp s r x0 x1 x2 x3 x4) = some (tp s r x0 y x2 x3 x4) := fun x0 x1 x2 x3 x4 y => by
    simp only [setAt, tp_get h, List.length_cons, List.length_nil, Nat.zero_add, Nat.reduceAdd, ix1]
    simp only [tp, setset]
    rfl
  have st2 : ∀ x0 x1 x2 x3 x4 y : W, setAt (.ref r) (.int 2) y (tp s r x0 x1 x2 x3 x4) = some (tp s r x0 x1 y x3 x4) := fun x0 x1 x2 x3 x4 y => by
    simp only [setAt, tp_get h, List.length_cons, List.length_nil, Nat.zero_add, Nat.reduceAdd, ix2]
    simp only [tp, setset]
    rfl
  have st3 : ∀ x0 x1 x2 x3 x4 y : W, setAt (.ref r) (.int 3) y (tp s r x0 x1 x2 x3 x4) = some (tp s r x0 x1 x2 y x4) := fun x0 x1 x2 x3 x4 y => by
    simp only [setAt, tp_get h, List.length_cons, List.length_nil, Nat.zero_add, Nat.reduceAdd, ix3]
    simp only [tp, setset]
    rfl
  have gl : ∀ x0 x1 x2 x3 x4 : W, gLen [.ref rc] (tp s r x0 x1 x2 x3 x4) = some (.int (cs.length : Int), tp s r x0 x1 x2 x3 x4) := fun x0 x1 x2 x3 x4 => by simp [gLen, lenW, seqOf, tp_ne hne, hrc]
  have lo : ∀ x : Int, 0 ≤ x % m := fun x => Int.emod_nonneg _ (by omega)
  have hi : ∀ x : Int, x % m < m := fun x => Int.emod_lt_of_pos _ h0
  have ea : ((a : Int) + 1) = ((a + 1 : Nat) : Int) := by omega
  have e13 : ∀ s : Sto, gPow (.int 10) (.int 18) s = some (.int 1000000000000000000, s) := fun s => by
    have h : decide ((0 : Int) ≤ 18 ∧ (18 : Int) ≤ 1000000 ∧ (10 : Int).natAbs < 2 ^ 64) = true := by decide
    simp only [gIIc, h, if_true]
    rfl
  have neg2 : ∀ s : Sto, gNeg (.int 2) s = some (.int (-2), s) := fun s => rfl
  have mu2 : ∀ (x : Int) (s : Sto), Mir.gMul (.int 2) (.int x) s = some (.int (2 * x), s) := fun x s => by
    simp only [Mir.gMul]
    rw [if_pos (.inl ⟨by decide, by decide⟩)]
  have mun : ∀ (x : Int) (s : Sto), Mir.gMul (.int (-2)) (.int x) s = some (.int (-2 * x), s) := fun x s => by
    simp only [Mir.gMul]
    rw [if_pos (.inl ⟨by decide, by decide⟩)]
  unfold TTake BTake
  by_cases hb : b < m
  · have l1 : ∀ s, gLt (.int b) (.int m) s = some (.bl true, s) := fun s => by simp only [gII, decide_eq_true hb]
    by_cases ha : a < cs.length
    · have l2 : ∀ s, gLt (.int (a : Int)) (.int (cs.length : Int)) s = some (.bl true, s) := fun s => by simp only [gII, decide_eq_true (show (a : Int) < (cs.length : Int) by omega)]
      have gc : ∀ x0 x1 x2 x3 x4 : W, gIx (.ref rc) (.int (a : Int)) (tp s r x0 x1 x2 x3 x4) = some (.int cs[a], tp s r x0 x1 x2 x3 x4) := fun x0 x1 x2 x3 x4 => by
        have : (cs.map W.int)[a]? = some (.int cs[a]) := by simp [ha]
        simp only [gIx, seqOf, tp_ne hne, hrc, atI_nat this]
      have main : ∀ z : Int, (∀ s : Sto, bd (gGe (.int cs[a]) (.int 0) s) (fun x s1 => match x with
            | .bl k => some (k, s1)
            | _ => none) = some (decide (0 ≤ cs[a]), s)) → True := fun _ _ => trivial
      by_cases hz : 0 ≤ cs[a]
      · have g0 : ∀ s, gGe (.int cs[a]) (.int 0) s = some (.bl true, s) := fun s => by simp only [gII, decide_eq_true hz]
        by_cases hg : 1000000000000000000 ≤ 2 * cs[a]
        · have g1 : ∀ s, gGe (.int (2 * cs[a])) (.int 1000000000000000000) s = some (.bl true, s) := fun s => by simp only [gII, decide_eq_true hg]
          refine ⟨(2 * cs[a]) % m, a + 1, (2 * cs[a]) / m, mixI (c + 2 * cs[a]), ?_, lo _, hi _⟩
          simp only [mkF, bd_some, bd_none, sCons, sNil, sSet, sAsg, sPar, sDo, sRet, sRetN, sIf, sPut, sAug, sBrk, sCnt, sFor, iSeq, iEnu, Mir.iRev, Mir.iRng1, Mir.iRng2, eVar, eC, eOp, eUn, eFn, eMt, aNil, aCons, eTup, eLst, eAnd, eOr, eNot, eIf, bTest, bTruth, bAnd, bOr, bNot, bYes, eSl, pNo, pAt, tgM_name, tgM_tup, tgMs_nil, tgMs_name, tgMs_tup, List.getElem?_cons_succ, List.getElem?_cons_zero, List.set_cons_succ, List.set_cons_zero, List.map_cons, List.map_nil, List.length_cons, List.length_nil, List.replicate, List.nil_append, List.cons_append, if_true, if_false, Bool.false_eq_true, Nat.reduceAdd, Nat.reduceSub, Nat.reduceLeDiff, Nat.zero_add, Bool.not_true, Bool.not_false, gi0, gi1, gi2, gi3, l1, gl, l2, gc, g0, mu2, addI, ea, st1, st2, st3, mix_ok, e13, g1, int1, modR h0, divRW h0 h1]
        · have g1 : ∀ s, gGe (.int (2 * cs[a])) (.int 1000000000000000000) s = some (.bl false, s) := fun s => by simp only [gII, decide_eq_false hg]
          refine ⟨(mixI (mixI (2 * cs[a]))) % m, a + 1, (mixI (mixI (2 * cs[a]))) / m, mixI (c + 2 * cs[a]), ?_, lo _, hi _⟩
          simp only [mkF, bd_some, bd_none, sCons, sNil, sSet, sAsg, sPar, sDo, sRet, sRetN, sIf, sPut, sAug, sBrk, sCnt, sFor, iSeq, iEnu, Mir.iRev, Mir.iRng1, Mir.iRng2, eVar, eC, eOp, eUn, eFn, eMt, aNil, aCons, eTup, eLst, eAnd, eOr, eNot, eIf, bTest, bTruth, bAnd, bOr, bNot, bYes, eSl, pNo, pAt, tgM_name, tgM_tup, tgMs_nil, tgMs_name, tgMs_tup, List.getElem?_cons_succ, List.getElem?_cons_zero, List.set_cons_succ, List.set_cons_zero, List.map_cons, List.map_nil, List.length_cons, List.length_nil, List.replicate, List.nil_append, List.cons_append, if_true, if_false, Bool.false_eq_true, Nat.reduceAdd, Nat.reduceSub, Nat.reduceLeDiff, Nat.zero_add, Bool.not_true, Bool.not_false, gi0, gi1, gi2, gi3, l1, gl, l2, gc, g0, mu2, addI, ea, st1, st2, st3, mix_ok, e13, g1, int1, modR h0, divRW h0 h1]
      · have g0 : ∀ s, gGe (.int cs[a]) (.int 0) s = some (.bl false, s) := fun s => by simp only [gII, decide_eq_false hz]
        by_cases hg : 1000000000000000000 ≤ -2 * cs[a] - 1
        · have g1 : ∀ s, gGe (.int (-2 * cs[a] - 1)) (.int 1000000000000000000) s = some (.bl true, s) := fun s => by simp only [gII, decide_eq_true hg]
          refine ⟨(-2 * cs[a] - 1) % m, a + 1, (-2 * cs[a] - 1) / m, mixI (c + (-2 * cs[a] - 1)), ?_, lo _, hi _⟩
          simp only [mkF, bd_some, bd_none, sCons, sNil, sSet, sAsg, sPar, sDo, sRet, sRetN, sIf, sPut, sAug, sBrk, sCnt, sFor, iSeq, iEnu, Mir.iRev, Mir.iRng1, Mir.iRng2, eVar, eC, eOp, eUn, eFn, eMt, aNil, aCons, eTup, eLst, eAnd, eOr, eNot, eIf, bTest, bTruth, bAnd, bOr, bNot, bYes, eSl, pNo, pAt, tgM_name, tgM_tup, tgMs_nil, tgMs_name, tgMs_tup, List.getElem?_cons_succ, List.getElem?_cons_zero, List.set_cons_succ, List.set_cons_zero, List.map_cons, List.map_nil, List.length_cons, List.length_nil, List.replicate, List.nil_append, List.cons_append, if_true, if_false, Bool.false_eq_true, Nat.reduceAdd, Nat.reduceSub, Nat.reduceLeDiff, Nat.zero_add, Bool.not_true, Bool.not_false, gi0, gi1, gi2, gi3, l1, gl, l2, gc, g0, neg2, mun, subI, addI, ea, st1, st2, st3, mix_ok, e13, g1, int1, modR h0, divRW h0 h1]
        · have g1 : ∀ s, gGe (.int (-2 * cs[a] - 1)) (.int 1000000000000000000) s = some (.bl false, s) := fun s => by simp only [gII, decide_eq_false hg]
          refine ⟨(mixI (mixI (-2 * cs[a] - 1))) % m, a + 1, (mixI (mixI (-2 * cs[a] - 1))) / m, mixI (c + (-2 * cs[a] - 1)), ?_, lo _, hi _⟩
          simp only [mkF, bd_some, bd_none, sCons, sNil, sSet, sAsg, sPar, sDo, sRet, sRetN, sIf, sPut, sAug, sBrk, sCnt, sFor, iSeq, iEnu, Mir.iRev, Mir.iRng1, Mir.iRng2, eVar, eC, eOp, eUn, eFn, eMt, aNil, aCons, eTup, eLst, eAnd, eOr, eNot, eIf, bTest, bTruth, bAnd, bOr, bNot, bYes, eSl, pNo, pAt, tgM_name, tgM_tup, tgMs_nil, tgMs_name, tgMs_tup, List.getElem?_cons_succ, List.getElem?_cons_zero, List.set_cons_succ, List.set_cons_zero, List.map_cons, List.map_nil, List.length_cons, List.length_nil, List.replicate, List.nil_append, List.cons_append, if_true, if_false, Bool.false_eq_true, Nat.reduceAdd, Nat.reduceSub, Nat.reduceLeDiff, Nat.zero_add, Bool.not_true, Bool.not_false, gi0, gi1, gi2, gi3, l1, gl, l2, gc, g0, neg2, mun, subI, addI, ea, st1, st2, st3, mix_ok, e13, g1, int1, modR h0, divRW h0 h1]
    · have l2 : ∀ s, gLt (.int (a : Int)) (.int (cs.length : Int)) s = some (.bl false, s) := fun s => by simp only [gII, decide_eq_false (show ¬ (a : Int) < (cs.length : Int) by omega)]
      refine ⟨mixI (c + 1) % m, a, mixI (c + 1) / m, mixI (c + 1), ?_, lo _, hi _⟩
      simp only [mkF, bd_some, bd_none, sCons, sNil, sSet, sAsg, sPar, sDo, sRet, sRetN, sIf, sPut, sAug, sBrk, sCnt, sFor, iSeq, iEnu, Mir.iRev, Mir.iRng1, Mir.iRng2, eVar, eC, eOp, eUn, eFn, eMt, aNil, aCons, eTup, eLst, eAnd, eOr, eNot, eIf, bTest, bTruth, bAnd, bOr, bNot, bYes, eSl, pNo, pAt, tgM_name, tgM_tup, tgMs_nil, tgMs_name, tgMs_tup, List.getElem?_cons_succ, List.getElem?_cons_zero, List.set_cons_succ, List.set_cons_zero, List.map_cons, List.map_nil, List.length_cons, List.length_nil, List.replicate, List.nil_append, List.cons_append, if_true, if_false, Bool.false_eq_true, Nat.reduceAdd, Nat.reduceSub, Nat.reduceLeDiff, Nat.zero_add, Bool.not_true, Bool.not_false, gi0, gi1, gi2, gi3, l1, gl, l2, addI, st1, st2, st3, mix_ok, int1, modR h0, divRW h0 h1]
  · have l1 : ∀ s, gLt (.int b) (.int m) s = some (.bl false, s) := fun s => by simp only [gII, decide_eq_false hb]
    refine ⟨b % m, a, b / m, c, ?_, lo _, hi _⟩
    simp only [mkF, bd_some, bd_none, sCons, sNil, sSet, sAsg, sPar, sDo, sRet, sRetN, sIf, sPut, sAug, sBrk, sCnt, sFor, iSeq, iEnu, Mir.iRev, Mir.iRng1, Mir.iRng2, eVar, eC, eOp, eUn, eFn, eMt, aNil, aCons, eTup, eLst, eAnd, eOr, eNot, eIf, bTest, bTruth, bAnd, bOr, bNot, bYes, eSl, pNo, pAt, tgM_name, tgM_tup, tgMs_nil, tgMs_name, tgMs_tup, List.getElem?_cons_succ, List.getElem?_cons_zero, List.set_cons_succ, List.set_cons_zero, List.map_cons, List.map_nil, List.length_cons, List.length_nil, List.replicate, List.nil_append, List.cons_append, if_true, if_false, Bool.false_eq_true, Nat.reduceAdd, Nat.reduceSub, Nat.reduceLeDiff, Nat.zero_add, Bool.not_true, Bool.not_false, gi0, gi1, gi2, gi3, l1, st2, int1, modR h0, divRW h0 h1]

theorem Tape.fr {s s' : Sto} {r rc : Nat} {cs : List Int} {L : List Nat} (T : Tape s r rc cs) (h : Fr L s s') (h1 : r ∉ L) (h2 : rc ∉ L) : Tape s' r rc cs := by
  obtain ⟨a, b, c, w, e⟩ := T.tape
  exact ⟨⟨a, b, c, w, h.at_ _ _ h1 e⟩, h.at_ _ _ h2 T.cells⟩
theorem Tape.app {s : Sto} {r rc : Nat} {cs : List Int} (T : Tape s r rc cs) (t : Sto) : Tape (s ++ t) r rc cs := by
  obtain ⟨a, b, c, w, e⟩ := T.tape
  exact ⟨⟨a, b, c, w, gapp e⟩, gapp T.cells⟩
theorem take_ok {s : Sto} {r rc : Nat} {cs : List Int} (T : Tape s r rc cs) (m : Int) (h0 : 0 < m) (h1 : m < 4611686018427387904) :
    ∃ (d : Int) (s' : Sto), TTake [.ref r, .int m] s = some (.int d, s') ∧ 0 ≤ d ∧ d < m ∧ Tape s' r rc cs ∧ Fr [r] s s' ∧ s'.length = s.length := by
  obtain ⟨a, b, c, w, e⟩ := T.tape
  have hl := (List.getElem?_eq_some_iff.mp e).1
  obtain ⟨d, a', b', c', e1, d0, d1⟩ := take_core hl T.ne T.cells h0 h1 a b c w
  rw [s_tp e] at e1
  exact ⟨d, _, e1, d0, d1, ⟨⟨a', b', c', w, tp_get hl⟩, by rw [tp_ne T.ne]; exact T.cells⟩, ⟨by simp [tp], fun i o hi eo => by rw [tp_ne (fun z => hi (by rw [z]; exact List.mem_singleton_self _))]; exact eo⟩, by simp [tp]⟩
theorem take_wp {s : Sto} {r rc : Nat} {cs : List Int} {R : W → Sto → Prop} (T : Tape s r rc cs) (m : Nat) (h0 : 0 < m) (h1 : m ≤ 1000000000000) (h : ∀ (d : Nat) (s' : Sto), d < m → Tape s' r rc cs → Fr [r] s s' → s'.length = s.length → R (.int (d : Int)) s') : Wp (TTake [.ref r, .int (m : Int)] s) R := by
  obtain ⟨d, s', e, d0, d1, T', f, l⟩ := take_ok T (m : Int) (by omega) (by omega)
  obtain ⟨k, rfl⟩ : ∃ k : Nat, d = (k : Int) := ⟨d.toNat, by omega⟩
  exact ⟨_, _, e, h k s' (by omega) T' f l⟩
noncomputable def BTape : FS := (sRet (eLst (aCons (eFn gList (aCons (eVar 0) aNil)) (aCons (eC (.int 0)) (aCons (eC (.int 0)) (aCons (eC (.int 1)) (aCons (eVar 1) aNil)))))))
noncomputable def TTape : List W → Sto → Rz W := mkF 2 2 BTape
theorem tape_ok (ns : List Int) : TTape [.lro (ns.map W.int), .int 0] [] = some (.ref 1, [.lst (ns.map W.int), .lst [.ref 0, .int 0, .int 0, .int 1, .int 0]]) := by
  have gl : gList [.lro (ns.map W.int)] [] = some (.ref 0, [.lst (ns.map W.int)]) := rfl
  unfold TTape BTape
  simp only [mkF, bd_some, bd_none, sCons, sNil, sSet, sAsg, sPar, sDo, sRet, sRetN, sIf, sPut, sAug, sBrk, sCnt, sFor, iSeq, iEnu, Mir.iRev, Mir.iRng1, Mir.iRng2, eVar, eC, eOp, eUn, eFn, eMt, aNil, aCons, eTup, eLst, eAnd, eOr, eNot, eIf, bTest, bTruth, bAnd, bOr, bNot, bYes, eSl, pNo, pAt, tgM_name, tgM_tup, tgMs_nil, tgMs_name, tgMs_tup, List.getElem?_cons_succ, List.getElem?_cons_zero, List.set_cons_succ, List.set_cons_zero, List.map_cons, List.map_nil, List.length_cons, List.length_nil, List.replicate, List.nil_append, List.cons_append, if_true, if_false, Bool.false_eq_true, Nat.reduceAdd, Nat.reduceSub, Nat.reduceLeDiff, Nat.zero_add, Bool.not_true, Bool.not_false, gl]
theorem tape_T (ns : List Int) : Tape [.lst (ns.map W.int), .lst [.ref 0, .int 0, .int 0, .int 1, .int 0]] 1 0 ns := ⟨⟨0, 0, 1, .int 0, rfl⟩, rfl⟩
end Mir

set_option Elab.async false
set_option linter.all false
set_option maxRecDepth 100000
namespace Mir
open PySem PySem.Spec PyProof.Rows L2
def PlW (n : Nat) (w : W) : Prop := ∃ d, pyW w = some d ∧ d.canLay0 = true ∧ d.depth ≤ n
def PlWs (n : Nat) (ws : List W) : Prop := ∃ ds, pyWs ws = some ds ∧ PyData.canLayAll0 ds = true ∧ PyData.depthAll ds ≤ n
theorem PlW.non {n : Nat} : PlW (n + 1) .non := ⟨.none, by rw [pyW], by rw [PyData.canLay0], by rw [PyData.depth]; omega⟩
theorem PlW.bl {n : Nat} {b : Bool} : PlW (n + 1) (.bl b) := ⟨.bool b, by rw [pyW], by rw [PyData.canLay0], by rw [PyData.depth]; omega⟩
theorem PlW.int {n : Nat} {i : Int} : PlW (n + 1) (.int i) := ⟨.int i, by rw [pyW], by rw [PyData.canLay0], by rw [PyData.depth]; omega⟩
theorem PlW.str {n : Nat} {z : Str} (h : PyData.strOk z = true) : PlW (n + 1) (.str z) := ⟨.str z, by rw [pyW], by rw [PyData.canLay0]; exact h, by rw [PyData.depth]; omega⟩
theorem PlWs.nil {n : Nat} : PlWs n [] := ⟨[], by rw [pyWs], by rw [PyData.canLayAll0], by rw [PyData.depthAll]; omega⟩
theorem PlWs.cons {n : Nat} {w : W} {ws : List W} (h : PlW n w) (q : PlWs n ws) : PlWs n (w :: ws) := by
  obtain ⟨d, h1, h2, h3⟩ := h
  obtain ⟨ds, q1, q2, q3⟩ := q
  exact ⟨d :: ds, by rw [pyWs, h1, q1], by rw [PyData.canLayAll0, h2, q2]; rfl, by rw [PyData.depthAll]; omega⟩
theorem PlW.tup {n : Nat} {ws : List W} (h : PlWs n ws) : PlW (n + 1) (.tup ws) := by
  obtain ⟨ds, h1, h2, h3⟩ := h
  exact ⟨.tuple ds, by rw [pyW, h1]; rfl, by rw [PyData.canLay0]; exact h2, by rw [PyData.depth]; omega⟩
theorem PlW.lro {n : Nat} {ws : List W} (h : PlWs n ws) : PlW (n + 1) (.lro ws) := by
  obtain ⟨ds, h1, h2, h3⟩ := h
  exact ⟨.list ds, by rw [pyW, h1]; rfl, by rw [PyData.canLay0]; exact h2, by rw [PyData.depth]; omega⟩
theorem PlWs.of {n : Nat} : ∀ {ws : List W}, (∀ w ∈ ws, PlW n w) → PlWs n ws
  | [], _ => .nil
  | w :: ws, h => .cons (h w List.mem_cons_self) (.of fun x hx => h x (List.mem_cons_of_mem _ hx))
theorem PlW.mono {n m : Nat} {w : W} (h : PlW n w) (q : n ≤ m) : PlW m w := by
  obtain ⟨d, h1, h2, h3⟩ := h
  exact ⟨d, h1, h2, by omega⟩
theorem PlWs.mono {n m : Nat} {w : List W} (h : PlWs n w) (q : n ≤ m) : PlWs m w := by
  obtain ⟨d, h1, h2, h3⟩ := h
  exact ⟨d, h1, h2, by omega⟩
end Mir

set_option Elab.async false
set_option linter.all false
set_option maxRecDepth 100000
namespace Mir
open PySem PySem.Spec PyProof.Rows L2
section
variable {t : FT} {f : FS} {n : Nat} {ρ : EnvM} {s : Sto} {Q : Out → Sto → Prop}
def QW (t : FT) (f : FS) (n : Nat) (Q : Out → Sto → Prop) : Out → Sto → Prop := fun o s => match o with
  | .nx ρ => Wp (wh t f n ρ s) Q
  | .ct ρ => Wp (wh t f n ρ s) Q
  | .bk ρ => Q (.nx ρ) s
  | .rt w => Q (.rt w) s
theorem qw_nx : QW t f n Q (.nx ρ) s = Wp (wh t f n ρ s) Q := rfl
theorem qw_ct : QW t f n Q (.ct ρ) s = Wp (wh t f n ρ s) Q := rfl
theorem qw_bk : QW t f n Q (.bk ρ) s = Q (.nx ρ) s := rfl
theorem qw_rt {w : W} : QW t f n Q (.rt w) s = Q (.rt w) s := rfl
theorem wh_go (h : Wp (t ρ s) (fun k s1 => if k = true then WpS [f] ρ s1 (QW t f n Q) else Q (.nx ρ) s1)) : Wp (wh t f (n + 1) ρ s) Q := by
  rw [wh, wp_bd]
  refine h.mono fun k s1 q => ?_
  cases k with
  | false => simp only [Bool.false_eq_true, if_false, wp_some] at q ⊢; exact q
  | true =>
    simp only [if_true, wp_bd] at q ⊢
    rw [wps_one] at q
    refine q.mono fun o s2 q => ?_
    cases o with
    | nx ρ2 => exact q
    | ct ρ2 => exact q
    | bk ρ2 => simp only [wp_some]; exact q
    | rt w => simp only [wp_some]; exact q
def QF (t : Tg) (f : FS) (c : Option (Nat × List W)) (xs : List W) (Q : Out → Sto → Prop) : Out → Sto → Prop := fun o s => match o with
  | .nx ρ => Wp (fo t f c xs ρ s) Q
  | .ct ρ => Wp (fo t f c xs ρ s) Q
  | .bk ρ => Q (.nx ρ) s
  | .rt w => Q (.rt w) s
variable {tg : Tg} {c : Option (Nat × List W)} {x : W} {xs : List W}
theorem qf_nx : QF tg f c xs Q (.nx ρ) s = Wp (fo tg f c xs ρ s) Q := rfl
theorem qf_ct : QF tg f c xs Q (.ct ρ) s = Wp (fo tg f c xs ρ s) Q := rfl
theorem qf_bk : QF tg f c xs Q (.bk ρ) s = Q (.nx ρ) s := rfl
theorem qf_rt {w : W} : QF tg f c xs Q (.rt w) s = Q (.rt w) s := rfl
theorem fo_goN (h : okc c s ∧ Q (.nx ρ) s) : Wp (fo tg f c [] ρ s) Q := by
  rw [fo, if_pos h.1, wp_some]; exact h.2
theorem fo_goC (h : okc c s ∧ match tgM tg x ρ with | some ρ1 => WpS [f] ρ1 s (QF tg f c xs Q) | none => False) : Wp (fo tg f c (x :: xs) ρ s) Q := by
  obtain ⟨h1, h2⟩ := h
  rw [fo, if_pos h1]
  cases e : tgM tg x ρ with
  | none => rw [e] at h2; exact h2.elim
  | some ρ1 =>
    rw [e] at h2
    simp only [wp_bd] at h2 ⊢
    rw [wps_one] at h2
    refine h2.mono fun o s2 q => ?_
    cases o with
    | nx ρ2 => exact q
    | ct ρ2 => exact q
    | bk ρ2 => simp only [wp_some]; exact q
    | rt w => simp only [wp_some]; exact q
theorem okN : okc none s = True := rfl
theorem lcf_goN {t : Tg} {u : FT} {f : FE} {R : List W → Sto → Prop} (h : okc c s) : Wp (lcf t u f c ρ [] s) R = R [] s := by rw [lcf, if_pos h, wp_some]
theorem lcf_goC {i : Nat} {f : FE} {R : List W → Sto → Prop} (h : okc c s) : Wp (lcf (.name i) bYes f c ρ (x :: xs) s) R = Wp (f (ρ.set i (some x)) s) (fun w s2 => Wp (lcf (.name i) bYes f c ρ xs s2) (fun ws s3 => R (w :: ws) s3)) := by
  rw [lcf, if_pos h]
  simp only [tgM_name, bYes, bd_some, if_true, wp_bd, wp_some]
theorem lcf_goT {ts : List Tg} {u : FT} {f : FE} {R : List W → Sto → Prop} (h : okc c s) : Wp (lcf (.tup ts) bYes f c ρ (x :: xs) s) R = match tgM (.tup ts) x ρ with
    | some ρ1 => Wp (f ρ1 s) (fun w s2 => Wp (lcf (.tup ts) bYes f c ρ xs s2) (fun ws s3 => R (w :: ws) s3))
    | none => False := by
  rw [lcf, if_pos h]
  cases tgM (.tup ts) x ρ with
  | none => simp only [wp_none]
  | some ρ1 => simp only [bYes, bd_some, if_true, wp_bd, wp_some]
theorem slT1 {ws : List W} {p : Nat} {s : Sto} : gSlA (.tup ws) none (some (p : Int)) s = some (.tup (ws.take p), s) := by
  have k0 : HT.sIx ws.length 0 none = 0 := rfl
  simp only [gSlA, HT.sIx_nat, k0, List.drop_zero, Nat.sub_zero]
  rcases Nat.le_total p ws.length with h | h
  · rw [Nat.min_eq_left h]
  · rw [Nat.min_eq_right h, List.take_length, List.take_of_length_le h]
theorem slT2 {ws : List W} {p : Nat} {s : Sto} : gSlA (.tup ws) (some (p : Int)) none s = some (.tup (ws.drop p), s) := by
  have k0 : HT.sIx ws.length ws.length none = ws.length := rfl
  simp only [gSlA, HT.sIx_nat, k0]
  rcases Nat.le_total p ws.length with h | h
  · rw [Nat.min_eq_left h, List.take_of_length_le (by rw [List.length_drop]; omega)]
  · rw [Nat.min_eq_right h, List.drop_length, List.drop_of_length_le h, List.take_nil]
theorem sl4 {a b c d : W} {ws : List W} {s : Sto} : gSlA (.tup (a :: b :: c :: d :: ws)) (some 4) none s = some (.tup ws, s) := slT2 (p := 4)
theorem sl1 {a : W} {ws : List W} {s : Sto} : gSlA (.tup (a :: ws)) (some 1) none s = some (.tup ws, s) := slT2 (p := 1)
end
end Mir

set_option Elab.async false
set_option linter.all false
set_option maxRecDepth 100000
set_option maxHeartbeats 1000000
namespace Vz
open PySem
open PySem.Sem (wp)
abbrev ZipB (h : Heap) (z TI TO T : Addr) (f : Bool) : Prop :=
  h.get? z = some { cls := .type "zip", dict := none, data := .fields #[rawInt T, .bool f, .bool false, .ref TI, .ref TO], slots := #[] }
section
variable {prog : Program} {w : World} {A : Around} {E : Value → Shared → Prop} {s : Shared}
end
end Vz

set_option Elab.async false
set_option linter.all false
set_option maxRecDepth 100000
set_option maxHeartbeats 1000000
namespace Vz
open PySem PySem.Spec PyProof.Rows L2
def ZS (z TI TO i1 i2 a b S : Addr) (i : Nat) (h : Heap) : Prop :=
  ((IsZip h z TI TO .none ∧ ∃ x y, IsPair h TO x y) ∨ ∃ T f oT, ZipB h z TI TO T f ∧ h.get? T = some oT ∧ T ∉ [z, TI, TO, i1, i2] ∧ T ≠ S) ∧ IsPair h TI (.ref i1) (.ref i2) ∧ h.IsTupleIter i1 a i ∧ h.IsTupleIter i2 b i ∧ ∃ oO, h.get? TO = some oO
theorem ZS.keep {z TI TO i1 i2 a b S : Addr} {i : Nat} {h h' : Heap} (st : ZS z TI TO i1 i2 a b S i h) (hS : S ∉ [z, TI, TO, i1, i2]) (k : ∀ c o, c ≠ S → h.get? c = some o → h'.get? c = some o) : ZS z TI TO i1 i2 a b S i h' := by
  obtain ⟨e, hTI, h1, h2, oO, hO⟩ := st
  have n : ∀ c, c ∈ [z, TI, TO, i1, i2] → c ≠ S := fun c hc q => hS (q ▸ hc)
  refine ⟨?_, k _ _ (n _ (by simp)) hTI, h1.at fun o q => k _ o (n _ (by simp)) q, h2.at fun o q => k _ o (n _ (by simp)) q, oO, k _ _ (n _ (by simp)) hO⟩
  rcases e with ⟨hz, x, y, hTO⟩ | ⟨T, f, oT, hz, hT, n1, n2⟩
  · exact .inl ⟨k _ _ (n _ (by simp)) hz, x, y, k _ _ (n _ (by simp)) hTO⟩
  · exact .inr ⟨T, f, oT, k _ _ (n _ (by simp)) hz, k _ _ n2 hT, n1, n2⟩
section
variable {prog : Program} {w : World} {A : Around} {E : Value → Shared → Prop} {s : Shared}
end
structure Prs (G : Hp) (xs ys ts : List V) : Prop where
  x : ts.length ≤ xs.length
  y : ts.length ≤ ys.length
  at_ : ∀ (j : Nat) (v : V), ts[j]? = some v → ∃ (T : Addr) (p q : V), v = V.ref T ∧ xs[j]? = some p ∧ ys[j]? = some q ∧ G T = some (.tup [p, q])
theorem Prs.app {G : Hp} {xs ys ts : List V} {p q : V} {T : Addr} (P : Prs G xs ys ts) (hx : xs[ts.length]? = some p) (hy : ys[ts.length]? = some q) (hT : G T = none) : Prs (upd G T (.tup [p, q])) xs ys (ts ++ [.ref T]) := by
  refine ⟨?_, ?_, fun j v e => ?_⟩
  · rw [List.length_append, List.length_singleton]
    have := (List.getElem?_eq_some_iff.mp hx).1
    omega
  · rw [List.length_append, List.length_singleton]
    have := (List.getElem?_eq_some_iff.mp hy).1
    omega
  · rcases Nat.lt_trichotomy j ts.length with h | h | h
    · rw [List.getElem?_append_left h] at e
      obtain ⟨T', p', q', e1, e2, e3, e4⟩ := P.at_ j v e
      exact ⟨T', p', q', e1, e2, e3, by rw [upd_ne (ne_of_none e4 hT)]; exact e4⟩
    · subst h
      have : v = .ref T := by simpa using e.symm
      exact ⟨T, p, q, this, hx, hy, upd_same⟩
    · rw [List.getElem?_eq_none (by rw [List.length_append, List.length_singleton]; omega)] at e
      cases e
section
variable {X : Cx} {pins : List (Addr × Obj)} {σ : L2.St}
end
end Vz

set_option Elab.async false
set_option linter.all false
set_option maxRecDepth 100000
set_option maxHeartbeats 1000000
namespace Vz
open PySem PySem.Spec PyProof.Rows L2
section
variable {X : Cx} {pins : List (Addr × Obj)} {σ : L2.St} {H : Hp} {s : Shared}
def tLz (K : PySem.W.Frag) (ta : TA) : TE := fun σ H Q => ta σ H fun vs H1 => ∃ a b xs ys, vs = [V.ref a, V.ref b] ∧ SqT K H1 a xs ∧ SqT K H1 b ys ∧
  ∀ (p : Addr) (ts : List V) (G : Hp), H1 p = none → (∀ c o, H1 c = some o → G c = some o) → G p = none → Prs G xs ys ts → (xs.length ≤ ts.length ∨ ys.length ≤ ts.length) → Q (V.ref p) (upd G p (.lst ts))
end
section
variable {X : Cx}
end
end Vz

set_option Elab.async false
set_option linter.all false
set_option maxRecDepth 100000
namespace Mir
open PySem PySem.Spec PyProof.Rows L2
theorem Adv.grow {m : List Addr} {H G : Hp} (h : ∀ c o, H c = some o → G c = some o) : Adv m H m G := ⟨⟨[], by simp⟩, fun a o e _ => h a o e, fun _ e => .inl e, fun a xs e => h a _ e, fun a o u e => h a _ e⟩
theorem SR.grow {K : PySem.W.Frag} {m : List Addr} {H G : Hp} {s : Sto} (S : SR K m H s) (h : ∀ c o, H c = some o → G c = some o) : SR K m G s :=
  ⟨S.len, S.nd, fun n a u h1 h2 => by
    refine (S.ok n a u h1 h2).adv (Adv.grow h) ?_
    obtain ⟨u', e, _⟩ := S.there (List.mem_of_getElem? h1)
    rw [e]
    exact h _ _ e⟩
def eLz (f g : FE) : FE := fun ρ s => bd (f ρ s) fun x s1 => bd (g ρ s1) fun y s2 => match x, y with
  | .tup ws, .tup us => some (.ref s2.length, s2 ++ [.lst (zipW ws us)])
  | _, _ => none
section
variable {X : Cx}
end
end Mir

set_option Elab.async false
set_option linter.all false
set_option maxRecDepth 100000
namespace Mir
open PySem PySem.Spec PyProof.Rows L2
section
variable {X : Cx}
abbrev rRangeA : List V → Hp → VK → Prop := fun vs H Q => ∃ j, vs = [V.int j] ∧ ∀ p, H p = none → Q (.ref p) (upd H p (.rng 0 j))
abbrev rRangeB : List V → Hp → VK → Prop := fun vs H Q => ∃ i j, vs = [V.int i, V.int j] ∧ ∀ p, H p = none → Q (.ref p) (upd H p (.rng i j))
abbrev rInRng (neg : Bool) : R2 := fun x y H Q => ∃ i a lo hi, x = V.int i ∧ y = V.ref a ∧ H a = some (.rng lo hi) ∧ Q (.bl (if neg then !decide (lo ≤ i ∧ i < hi) else decide (lo ≤ i ∧ i < hi))) H
def eRinA (neg : Bool) (f : FE) (fa : FA) : FE := fun ρ s => bd (f ρ s) fun x s1 => bd (fa ρ s1) fun ws s2 => match x, ws with
  | .int i, [.int hi] => some (.bl (if neg then !decide (0 ≤ i ∧ i < hi) else decide (0 ≤ i ∧ i < hi)), s2)
  | _, _ => none
def eRinB (neg : Bool) (f : FE) (fa : FA) : FE := fun ρ s => bd (f ρ s) fun x s1 => bd (fa ρ s1) fun ws s2 => match x, ws with
  | .int i, [.int lo, .int hi] => some (.bl (if neg then !decide (lo ≤ i ∧ i < hi) else decide (lo ≤ i ∧ i < hi)), s2)
  | _, _ => none
section
variable {a e1 e2 : Expr} {f : FE} {fa : FA} {p p2 : Pos}
end
end
end Mir

set_option Elab.async false
set_option linter.all false
set_option maxRecDepth 100000
namespace Mir
open PySem PySem.Spec PyProof.Rows L2
def CDivX (_ j : Int) : Prop := j ≠ 0 ∧ j.natAbs.log2 < 9000
abbrev gDivX := gIIc (fun _ j => decide (j ≠ 0 ∧ j.natAbs.log2 < 9000)) fun i j => .int (i.fdiv j)
end Mir

set_option Elab.async false
set_option linter.all false
set_option maxRecDepth 100000
namespace Mir
open PySem PySem.Spec PyProof.Rows L2
def sAsgL (ts : List Tg) (f : FE) : FS := fun ρ s => bd (f ρ s) fun w s1 => match lstOf w s1 with
  | some ws => match tgMs ts ws ρ with
    | some ρ1 => some (.nx ρ1, s1)
    | none => none
  | none => none
section
variable {X : Cx} {e : Expr} {pos : Pos}
theorem wps_asgL {ts : List Tg} {f : FE} {fs : List FS} {ρ : EnvM} {s : Sto} {Q : Out → Sto → Prop} (h : Wp (f ρ s) fun w s1 => ∃ ws ρ1, lstOf w s1 = some ws ∧ tgMs ts ws ρ = some ρ1 ∧ WpS fs ρ1 s1 Q) : WpS (sAsgL ts f :: fs) ρ s Q := by
  rw [wps_cut]; unfold sAsgL; rw [wp_bd]
  refine h.mono fun w s1 ⟨ws, ρ1, h1, h2, h3⟩ => ?_
  simp only [h1, h2, wp_some]
  exact h3
end
end Mir

set_option Elab.async false
set_option linter.all false
set_option maxRecDepth 100000
namespace Mir
open PySem PySem.Spec PyProof.Rows L2
def pyG (s : Sto) : Nat → W → Option PyData
  | 0, _ => none
  | n + 1, .ref k => match s[k]? with
    | some (.lst ws) => (ws.mapM (pyG s n)).map .list
    | _ => none
  | n + 1, .tup ws => (ws.mapM (pyG s n)).map .tuple
  | _ + 1, w => pyW w
def eqG (s : Sto) (x y : W) : Option Bool := match pyG s 8 x, pyG s 8 y with
  | some d, some e => if SeqAt.shaped d = true ∧ SeqAt.shaped e = true then some (PyData.eqv d e) else none
  | _, _ => none
def gEqG : W → W → Sto → Rz W := fun x y s => match eqG s x y with
  | some b => some (.bl b, s)
  | none => none
def gNeG : W → W → Sto → Rz W := fun x y s => match eqG s x y with
  | some b => some (.bl (!b), s)
  | none => none
end Mir

set_option Elab.async false
set_option linter.all false
set_option maxRecDepth 100000
namespace Mir
open PySem PySem.Spec PyProof.Rows L2
theorem Ext.offK {m : List Addr} {H : Hp} {D : Addr} {xs : List (Key × V)} {o : HO} (h : H D = some (.dK xs)) : Ext m H m (upd H D o) :=
  ⟨⟨[], by simp⟩, fun a ys e => by rw [upd_ne (ne_of e h (fun z => by cases z))]; exact e, fun a u y e => by rw [upd_ne (ne_of e h (fun z => by cases z))]; exact e⟩
theorem SR.offK {K : PySem.W.Frag} {m : List Addr} {H : Hp} {st : Sto} (S : SR K m H st) {D : Addr} {xs : List (Key × V)} {o : HO} (hD : D ∉ m) (h : H D = some (.dK xs)) : SR K m (upd H D o) st :=
  ⟨S.len, S.nd, fun n a u h1 h2 => (S.ok n a u h1 h2).ext (Ext.offK h) (upd_ne fun z => hD (by rw [← z]; exact List.mem_of_getElem? h1))⟩
open Classical in
noncomputable def dcf (t : Tg) (u : FT) (fk fv : FE) (c : Option (Nat × List W)) (ρ : EnvM) : List W → List (Key × W) → Sto → Rz (List (Key × W))
  | [], acc, s => if okc c s then some (acc, s) else none
  | x :: r, acc, s => if okc c s then match tgM t x ρ with
      | some ρ1 => bd (u ρ1 s) fun k s1 => if k = true then bd (fk ρ1 s1) fun y s2 => bd (fv ρ1 s2) fun w s3 => match keyW y with
          | some k => dcf t u fk fv c ρ r (put acc k w) s3
          | none => none
        else dcf t u fk fv c ρ r acc s1
      | none => none
    else none
noncomputable def eDc (vs : List Nat) (it : FI) (t : Tg) (u : FT) (fk fv : FE) : FE := fun ρ s => bd (it ρ s) fun x s1 => if x.1.length ≤ 100000 then bd (dcf t u fk fv x.2 (wipeM ρ vs) x.1 [] s1) fun kvs s2 => some (.ref s2.length, s2 ++ [.dct kvs]) else none
section
variable {X : Cx} {pos : Pos}
end
end Mir

set_option Elab.async false
set_option linter.all false
set_option maxRecDepth 100000
namespace Mir
open PySem PySem.Spec PyProof.Rows L2
def kW : Key → W
  | .inl i => .int i
  | .inr z => .str z
def mgS (kvs1 : List (Key × W)) (acc : List (Key × W)) (k : Key) : List (Key × W) := match look acc k with
  | some _ => acc
  | none => match look kvs1 k with
    | some w => put acc k w
    | none => acc
def mgW (kvs1 kvs2 : List (Key × W)) (i : Nat) : List (Key × W) := (kvs1.take i).foldl (fun acc kv => mgS kvs1 acc kv.1) kvs2
def lastE (kvs1 : List (Key × W)) (lk : Nat) (ρ : EnvM) : Nat → EnvM
  | 0 => ρ
  | i + 1 => match kvs1[i]? with
    | some (k, _) => ρ.set lk (some (kW k))
    | none => ρ
def sDm (lk l1 l2 : Nat) : FS := fun ρ s => match ρ[l1]?, ρ[l2]? with
  | some (some x), some (some y) => match dcOf x s, dcOf y s with
    | some (n1, kvs1), some (n2, kvs2) => if n1 ≠ n2 ∧ kvs1.length + kvs2.length ≤ 100000 ∧ lk ≠ l1 ∧ lk ≠ l2 ∧ lk < ρ.length then some (.nx (lastE kvs1 lk ρ kvs1.length), s.set n2 (.dct (mgW kvs1 kvs2 kvs1.length))) else none
    | _, _ => none
  | _, _ => none
section
variable {K : PySem.W.Frag} {m : List Addr} {H : Hp}
theorem RK.at : ∀ {ws : List (Key × W)} {vs : List (Key × V)} {i : Nat} {k : Key} {v : V}, RK K m H ws vs → vs[i]? = some (k, v) → ∃ w, ws[i]? = some (k, w)
  | [], _, i, k, v, h, e => by cases h; cases e
  | (k', w') :: ws, _, 0, k, v, h, e => by
    cases h with
    | cons a b => cases e; exact ⟨_, rfl⟩
  | (k', w') :: ws, _, i + 1, k, v, h, e => by
    cases h with
    | cons a b => exact b.at (i := i) e
end
section
variable {X : Cx} {pos : Pos}
end
end Mir

set_option Elab.async false
set_option linter.all false
set_option maxRecDepth 100000
namespace Mir
open PySem PySem.Spec PyProof.Rows L2
def eDget1 (d y : FE) : FE := fun ρ s => bd (d ρ s) fun x s1 => if (dcOf x s1).isSome = true then bd (y ρ s1) fun z s2 => match dcOf x s2, keyW z with
  | some (_, kvs), some k => some ((look kvs k).getD .non, s2)
  | _, _ => none
  else none
section
variable {X : Cx} {o e : Expr} {apos cpos : Pos}
end
end Mir

set_option Elab.async false
set_option linter.all false
set_option maxRecDepth 100000
namespace Mir
open PySem PySem.Spec PyProof.Rows L2
def lookT (kvs : List (List Key × W)) (k : List Key) : Option W := (kvs.find? fun kv => decide (kv.1 = k)).map (·.2)
def putT (kvs : List (List Key × W)) (k : List Key) (w : W) : List (List Key × W) := if kvs.any (fun kv => decide (kv.1 = k)) then kvs.map fun kv => if kv.1 = k then (kv.1, w) else kv else kvs ++ [(k, w)]
section
variable {K : PySem.W.Frag}
theorem RKT.look {m : List Addr} {H : Hp} {k : List Key} : ∀ {kvs : List (List Key × W)} {vs : List (List Key × V)}, RKT K m H kvs vs → (∀ w, lookT kvs k = some w → ∃ v, valV vs k = some v ∧ R K m H w v) ∧ (lookT kvs k = none → valV vs k = none)
  | [], vs, r => by cases r; exact ⟨fun w h => (by cases h), fun _ => rfl⟩
  | (k', w') :: kvs, vs, r => by
    cases r with
    | @cons _ _ v' _ vs h1 h2 =>
      obtain ⟨q1, q2⟩ := RKT.look (k := k) h2
      by_cases e : k' = k
      · subst e
        refine ⟨fun w h => ?_, fun h => ?_⟩
        · have h : some w' = some w := by simpa [lookT, List.find?_cons] using h
          cases h
          exact ⟨v', valV_pos rfl, h1⟩
        · exfalso
          simp [lookT, List.find?_cons] at h
      · have e1 : lookT ((k', w') :: kvs) k = lookT kvs k := by simp [lookT, List.find?_cons, e]
        have e2 : valV ((k', v') :: vs) k = valV vs k := valV_neg e
        rw [e1, e2]
        exact ⟨q1, q2⟩
theorem RKT.any {m : List Addr} {H : Hp} {k : List Key} : ∀ {kvs : List (List Key × W)} {vs : List (List Key × V)}, RKT K m H kvs vs → (vs.any fun kv => decide (kv.1 = k)) = kvs.any fun kv => decide (kv.1 = k)
  | [], vs, r => by cases r; rfl
  | (k', w') :: kvs, vs, r => by
    cases r with
    | cons h1 h2 => rw [List.any_cons, List.any_cons, RKT.any h2]
theorem RKT.map {m : List Addr} {H : Hp} {k : List Key} {w : W} {v : V} (rw_ : R K m H w v) : ∀ {kvs : List (List Key × W)} {vs : List (List Key × V)}, RKT K m H kvs vs → RKT K m H (kvs.map fun kv => if kv.1 = k then (kv.1, w) else kv) (vs.map fun kv => if kv.1 = k then (kv.1, v) else kv)
  | [], vs, r => by cases r; exact .nil
  | (k', w') :: kvs, vs, r => by
    cases r with
    | cons h1 h2 =>
      rw [List.map_cons, List.map_cons]
      by_cases e : k' = k
      · simp only [e, if_true]
        exact .cons rw_ (RKT.map rw_ h2)
      · simp only [e, if_false]
        exact .cons h1 (RKT.map rw_ h2)
theorem RKT.app {m : List Addr} {H : Hp} : ∀ {a b : List (List Key × W)} {c d : List (List Key × V)}, RKT K m H a c → RKT K m H b d → RKT K m H (a ++ b) (c ++ d)
  | [], _, _, _, r, g => by cases r; exact g
  | _ :: _, _, _, _, r, g => by
    cases r with
    | cons h1 h2 => exact .cons h1 (RKT.app h2 g)
theorem RKT.put {m : List Addr} {H : Hp} {k : List Key} {w : W} {v : V} {kvs : List (List Key × W)} {vs : List (List Key × V)} (r : RKT K m H kvs vs) (rw_ : R K m H w v) : RKT K m H (putT kvs k w) (putK vs k v) := by
  unfold putT putK
  rw [r.any]
  split
  · exact r.map rw_
  · exact r.app (.cons rw_ .nil)

theorem RKT.len {m : List Addr} {H : Hp} : ∀ {ws : List (List Key × W)} {vs : List (List Key × V)}, RKT K m H ws vs → vs.length = ws.length
  | [], _, h => by cases h; rfl
  | w :: ws, _, h => by
    cases h with
    | cons h1 h2 => rw [List.length_cons, List.length_cons, RKT.len h2]
def keysW : List W → Option (List Key)
  | [] => some []
  | w :: ws => match keyW w, keysW ws with
    | some k, some ks => some (k :: ks)
    | _, _ => none
def dtOf (x : W) (s : Sto) : Option (Nat × List (List Key × W)) := match x with
  | .ref n => match s[n]? with
    | some (.dtt kvs) => some (n, kvs)
    | _ => none
  | _ => none
theorem Adv.writeT {m : List Addr} {H : Hp} {st : Sto} (S : SR K m H st) {n : Nat} {a : Addr} {o : HO} (h : m[n]? = some a) (wk : ∃ vs, H a = some (.dT vs)) : Adv m H m (upd H a o) := by
  have ha := List.mem_of_getElem? h
  obtain ⟨vs, e⟩ := wk
  refine ⟨⟨[], by simp⟩, fun b u h n => ?_, fun _ h => .inl h, fun b xs h => ?_, fun b o u h => ?_⟩
  · rw [upd_ne (fun z => n (by rw [z]; exact ha))]; exact h
  · rw [upd_ne (fun z => ?_)]
    · exact h
    · rw [z, e] at h
      cases h
  · rw [upd_ne (fun z => ?_)]
    · exact h
    · rw [z, e] at h
      cases h
theorem SR.writeT {m : List Addr} {H : Hp} {st : Sto} (S : SR K m H st) {n : Nat} {a : Addr} {o : HO} {u : O} (h : m[n]? = some a) (wk : ∃ vs, H a = some (.dT vs)) (hu : OR K m (upd H a o) a u) : SR K m (upd H a o) (st.set n u) := by
  refine ⟨by rw [List.length_set]; exact S.len, S.nd, fun j b o' h1 h2 => ?_⟩
  by_cases e : n = j
  · subst e
    rw [h] at h1
    cases h1
    have hl : n < st.length := by rw [← S.len]; exact (List.getElem?_eq_some_iff.mp h).1
    rw [List.getElem?_set_self hl] at h2
    cases h2
    exact hu
  · rw [List.getElem?_set_ne e] at h2
    have hne : b ≠ a := fun z => by
      subst z
      obtain ⟨l1, e1⟩ := List.getElem?_eq_some_iff.mp h
      obtain ⟨l2, e2⟩ := List.getElem?_eq_some_iff.mp h1
      exact e ((List.getElem_inj S.nd).mp (e1.trans e2.symm))
    exact (S.ok j b o' h1 h2).adv (Adv.writeT S h wk) (upd_ne hne)
end
section
variable {X : Cx} {o i e f : Expr} {pos : Pos}
def eTnew : FE := fun _ s => some (.ref s.length, s ++ [.dtt []])
def eTget (d : FE) (a : FA) : FE := fun ρ s => bd (d ρ s) fun x s1 => bd (a ρ s1) fun ws s2 => match dtOf x s2, keysW ws with
  | some (_, kvs), some k => if ws.length ≤ 100000 then match lookT kvs k with
    | some w => some (w, s2)
    | none => none
    else none
  | _, _ => none
def sTput (d : FE) (a : FA) (f : FE) : FS := fun ρ s => bd (f ρ s) fun w s1 => bd (d ρ s1) fun x s2 => bd (a ρ s2) fun ws s3 => match dtOf x s3, keysW ws with
  | some (n, kvs), some k => if ws.length ≤ 100000 ∧ kvs.length ≤ 100000 then some (.nx ρ, s3.set n (.dtt (putT kvs k w))) else none
  | _, _ => none
end
end Mir

set_option Elab.async false
set_option linter.all false
set_option maxRecDepth 100000
namespace Mir
open PySem PySem.Spec PyProof.Rows L2
def insOf (x : W) (s : Sto) : Option (Nat × Str × List (Str × W)) := match x with
  | .ref n => match s[n]? with
    | some (.ins c fs) => some (n, c, fs)
    | _ => none
  | _ => none
def pF (f : Str) (w : W) : List (Str × W) → List (Str × W)
  | [] => [(f, w)]
  | (g, x) :: r => if g = f then (g, w) :: r else (g, x) :: pF f w r
structure ClT (K : PySem.W.Frag) (c : Str) (fl : List Str) : Prop where
  ex : ∃ C, PySem.W.nsIn K mainGlobals c = some (some (.ref C)) ∧ Cls K C ∧ ∀ f ∈ fl, NoAttr K C f
def eFld (c f : Str) (a : FE) : FE := fun ρ s => bd (a ρ s) fun x s1 => match insOf x s1 with
  | some (_, c', fs) => if c' = c then (match fs.lookup f with
    | some w => some (w, s1)
    | none => none) else none
  | none => none
def sFldP (c f : Str) (o v : FE) : FS := fun ρ s => bd (v ρ s) fun y s1 => bd (o ρ s1) fun x s2 => match insOf x s2 with
  | some (n, c', fs) => if c' = c ∧ fs.length < 1000 then some (.nx ρ, s2.set n (.ins c (pF f y fs))) else none
  | none => none
def eMeth (c m : Str) (F : List W → Sto → Rz W) (o : FE) (a : FA) : FE := fun ρ s => bd (o ρ s) fun x s1 => match insOf x s1 with
  | some (_, c', fs) => if c' = c ∧ fs.lookup m = none then bd (a ρ s1) fun ws s2 => F (x :: ws) s2 else none
  | none => none
def eMake (c : Str) (F : List W → Sto → Rz W) (a : FA) : FE := fun ρ s => bd (a ρ s) fun ws s1 => bd (F (.ref s1.length :: ws) (s1 ++ [.ins c []])) fun w s2 => match w with
  | .non => some (.ref s1.length, s2)
  | _ => none
section
variable {K : PySem.W.Frag} {m m1 : List Addr} {H H1 : Hp}
theorem RF.lookup : ∀ {fs : List (Str × W)} {vs : List (Str × V)} (f : Str), RF K m H fs vs → (∀ w, fs.lookup f = some w → ∃ v, vs.lookup f = some v ∧ R K m H w v) ∧ (fs.lookup f = none → vs.lookup f = none)
  | [], _, f, h => by cases h; exact ⟨(fun w e => by cases e), fun _ => rfl⟩
  | (g, x) :: r, _, f, h => by
    cases h with
    | @cons _ _ v _ vs h1 h2 =>
      have ih := RF.lookup f h2
      by_cases q : f == g
      · refine ⟨fun w e => ⟨v, ?_, ?_⟩, fun e => ?_⟩
        · simp only [List.lookup, q]
        · simp only [List.lookup, q] at e; cases e; exact h1
        · simp only [List.lookup, q] at e; cases e
      · have q' : (f == g) = false := by simpa using q
        simp only [List.lookup, q']
        exact ih
theorem RF.put {f : Str} {w : W} {v : V} (rw_ : R K m H w v) : ∀ {fs : List (Str × W)} {vs : List (Str × V)}, RF K m H fs vs → RF K m H (pF f w fs) (putF f v vs)
  | [], _, h => by cases h; exact .cons rw_ .nil
  | (g, x) :: r, _, h => by
    cases h with
    | @cons _ _ u _ vs h1 h2 =>
      unfold pF putF
      split
      · exact .cons rw_ h2
      · exact .cons h1 (RF.put rw_ h2)
theorem RF.len : ∀ {fs : List (Str × W)} {vs : List (Str × V)}, RF K m H fs vs → vs.length = fs.length
  | [], _, h => by cases h; rfl
  | _ :: _, _, h => by
    cases h with
    | cons h1 h2 => rw [List.length_cons, List.length_cons, RF.len h2]
theorem ins_of {s : Sto} {x : W} {v : V} {n : Nat} {c : Str} {fs : List (Str × W)} (S : SR K m H s) (r : R K m H x v) (h : insOf x s = some (n, c, fs)) :
    ∃ a C dx vs, v = .ref a ∧ m[n]? = some a ∧ s[n]? = some (.ins c fs) ∧ H a = some (.ins C dx vs) ∧ PySem.W.nsIn K mainGlobals c = some (some (.ref C)) ∧ RF K m H fs vs := by
  unfold insOf at h
  cases r with
  | @ref n' a h1 =>
    simp only at h
    split at h
    · rename_i c' fs' e
      cases h
      obtain ⟨C, dx, vs, q, nn, r⟩ := S.ok _ a _ h1 e
      exact ⟨a, C, dx, vs, rfl, h1, e, q, nn, r⟩
    · cases h
  | _ => cases h
theorem Adv.writeI {st : Sto} (S : SR K m H st) {n : Nat} {a : Addr} {o : HO} (h : m[n]? = some a) (wk : ∃ C dx vs, H a = some (.ins C dx vs)) : Adv m H m (upd H a o) := by
  have ha := List.mem_of_getElem? h
  obtain ⟨C, dx, vs, e⟩ := wk
  refine ⟨⟨[], by simp⟩, fun b u h n => ?_, fun _ h => .inl h, fun b xs h => ?_, fun b o u h => ?_⟩
  · rw [upd_ne (fun z => n (by rw [z]; exact ha))]; exact h
  · rw [upd_ne (fun z => ?_)]
    · exact h
    · rw [z, e] at h
      cases h
  · rw [upd_ne (fun z => ?_)]
    · exact h
    · rw [z, e] at h
      cases h
theorem SR.writeI {st : Sto} (S : SR K m H st) {n : Nat} {a : Addr} {o : HO} {u : O} (h : m[n]? = some a) (wk : ∃ C dx vs, H a = some (.ins C dx vs)) (hu : OR K m (upd H a o) a u) : SR K m (upd H a o) (st.set n u) := by
  refine ⟨by rw [List.length_set]; exact S.len, S.nd, fun j b o' h1 h2 => ?_⟩
  by_cases e : n = j
  · subst e
    rw [h] at h1
    cases h1
    have hl : n < st.length := by rw [← S.len]; exact (List.getElem?_eq_some_iff.mp h).1
    rw [List.getElem?_set_self hl] at h2
    cases h2
    exact hu
  · rw [List.getElem?_set_ne e] at h2
    have hne : b ≠ a := fun z => by
      subst z
      obtain ⟨l1, e1⟩ := List.getElem?_eq_some_iff.mp h
      obtain ⟨l2, e2⟩ := List.getElem?_eq_some_iff.mp h1
      exact e ((List.getElem_inj S.nd).mp (e1.trans e2.symm))
    exact (S.ok j b o' h1 h2).adv (Adv.writeI S h wk) (upd_ne hne)
end
structure OwnM (P : Program) (w : World) (K : PySem.W.Frag) (mg : Str → Option Value) (base : Heap) (k : Nat) (c x : Str) (ps : List Str) (F : List W → Sto → Rz W) : Prop where
  ex : ∃ (C f : Addr) (fd : FuncData), PySem.W.nsIn K mainGlobals c = some (some (.ref C)) ∧ Cls K C ∧ Meth K C x f ∧ FnOk P w K mg base CX0 k f fd ps (spF K ps.length F) ∧ Binds K fd ps []
  ln : ∀ ws s r, F ws s = some r → ws.length = ps.length
structure OwnC (P : Program) (w : World) (K : PySem.W.Frag) (mg : Str → Option Value) (base : Heap) (k : Nat) (c : Str) (ps : List Str) (F : List W → Sto → Rz W) : Prop where
  ex : ∃ (C f : Addr) (fd : FuncData) (j : Nat), j + 1 ≤ k ∧ PySem.W.nsIn K mainGlobals c = some (some (.ref C)) ∧ mg c = some (.ref C) ∧ Mk K C f ∧ FnOk P w K mg base CX0 j f fd ps (spF K ps.length F) ∧ Binds K fd ps []
  ln : ∀ ws s r, F ws s = some r → ws.length = ps.length
section
variable {P : Program} {w : World} {K : PySem.W.Frag} {mg : Str → Option Value} {base : Heap} {j k : Nat} {c x : Str} {ps : List Str} {F : List W → Sto → Rz W}
theorem OwnM.mono (h : OwnM P w K mg base j c x ps F) (hk : j ≤ k) : OwnM P w K mg base k c x ps F := by
  obtain ⟨C, f, fd, h1, h2, h3, h4, h5⟩ := h.ex
  exact ⟨⟨C, f, fd, h1, h2, h3, h4.mono hk, h5⟩, h.ln⟩
theorem OwnC.mono (h : OwnC P w K mg base j c ps F) (hk : j ≤ k) : OwnC P w K mg base k c ps F := by
  obtain ⟨C, f, fd, i, hi, h1, h2, h3, h4, h5⟩ := h.ex
  exact ⟨⟨C, f, fd, i, Nat.le_trans hi hk, h1, h2, h3, h4, h5⟩, h.ln⟩
end
section
variable {X : Cx} {e o value : Expr} {es : List Expr} {pos pos' : Pos}
theorem m_fld {c f : Str} {fl : List Str} {fe : FE} (T : ClT X.K c fl) (hf : f ∈ fl) (he : PE X e (tF X.K fe)) (hb : attributeBase e f X.env (eval e X.env) = eval e X.env := by rfl) : PE X (.Attribute e f pos) (tF X.K (eFld c f fe)) :=
  (pe_fld he hb).imp fun σ H Q ⟨m, ρ, s, er, sr, w, s', e, q⟩ => by
    obtain ⟨x, s1, e1, e⟩ := bd_inv e
    refine ⟨m, ρ, s, er, sr, x, s1, e1, fun m1 H1 v A1 S1 r1 => ?_⟩
    cases ei : insOf x s1 with
    | none => simp only [ei] at e; cases e
    | some t =>
      obtain ⟨n, c', fs⟩ := t
      simp only [ei] at e
      by_cases hc : c' = c
      · subst hc
        rw [if_pos rfl] at e
        cases el : fs.lookup f with
        | none => rw [el] at e; cases e
        | some w0 =>
          rw [el] at e
          cases e
          obtain ⟨a, C, dx, vs, rfl, hm, hs, ha, hn, rf⟩ := ins_of S1 r1 ei
          obtain ⟨v, hv, rv⟩ := (rf.lookup f).1 _ el
          obtain ⟨C', hn', cl, na⟩ := T.ex
          rw [hn] at hn'
          cases hn'
          exact ⟨a, C, dx, vs, v, rfl, ha, cl, na f hf, hv, q m1 H1 v A1 S1 rv⟩
      · rw [if_neg hc] at e; cases e
theorem ms_fld {c f : Str} {fl : List Str} {fo fv : FE} (T : ClT X.K c fl) (hf : f ∈ fl) (ha : PE X o (tF X.K fo)) (hv : PE X value (tF X.K fv)) (hs : swapsWith value (some (.Attribute o f pos')) pos.line X.env = pure false := by rfl) : PS X (.Assign [.Attribute o f pos'] value pos) (tS X.K (sFldP c f fo fv)) :=
  (ps_fld ha hv hs).imp fun D σ H ⟨m, ρ, s, er, sr, ot, s', e, q⟩ => by
    obtain ⟨y, s1, e1, e⟩ := bd_inv e
    obtain ⟨x, s2, e2, e⟩ := bd_inv e
    refine ⟨m, ρ, s, er, sr, y, s1, e1, fun m1 H1 v A1 S1 r1 => ⟨m1, ρ, s1, er.adv A1, S1, x, s2, e2, fun m2 H2 u A2 S2 r2 => ?_⟩⟩
    cases ei : insOf x s2 with
    | none => simp only [ei] at e; cases e
    | some t =>
      obtain ⟨n, c', fs⟩ := t
      simp only [ei] at e
      by_cases hc : c' = c ∧ fs.length < 1000
      · rw [if_pos hc] at e
        obtain ⟨hc, hl⟩ := hc
        subst hc
        cases e
        obtain ⟨a, C, dx, vs, rfl, hm, hs, ha, hn, rf⟩ := ins_of S2 r2 ei
        obtain ⟨C', hn', cl, na⟩ := T.ex
        rw [hn] at hn'
        cases hn'
        refine ⟨a, C, dx, vs, rfl, ha, cl, na f hf, by rw [rf.len]; exact hl, ?_⟩
        have A3 : Adv m2 H2 m2 (upd H2 a (.ins C dx (putF f v vs))) := Adv.writeI S2 hm ⟨_, _, _, ha⟩
        exact q m2 _ σ ((A1.trans A2).trans A3) (S2.writeI hm ⟨_, _, _, ha⟩ ⟨C, dx, _, upd_same, hn, RF.put ((r1.adv A2).adv A3) (rf.adv A3)⟩) (((er.adv A1).adv A2).adv A3)
      · rw [if_neg hc] at e; cases e
theorem m_meth {k : Nat} {c mt : Str} {ps : List Str} {F : List W → Sto → Rz W} {fo : FE} {fa : FA} {apos : Pos} {pl : Sem Bool} (O : OwnM X.prog X.w X.K X.mg X.base k c mt ps F) (hr : Room k X.A) (ho : PE X o (tF X.K fo)) (ha : PA X (e :: es) (tA X.K fa))
    (hst : starEach (e :: es) X.env = (false, eval e X.env) :: starEach es X.env := by rfl) (hpl : (backTo pos (starEach es X.env)).any (·.1) = false := by rfl)
    (ht : eval (.Call (.Attribute o mt apos) (e :: es) [] pos) X.env = (do
      let ov ← eval o X.env
      standAt apos.atName
      let (f, first) ← holding [ov] (getMethod ov mt pl)
      callWith pos f first (backTo pos (starEach (e :: es) X.env)) (backToKw pos (keywordEach [] X.env))) := by rfl) : PE X (.Call (.Attribute o mt apos) (e :: es) [] pos) (tF X.K (eMeth c mt F fo fa)) := by
  obtain ⟨C, f, fd, hn, cl, hm, h1, h2⟩ := O.ex
  refine (pe_meth (pl := pl) ho cl hm h1 hr h2 .nil pass0 ha hst hpl ht).imp fun σ H Q ⟨m, ρ, s, er, sr, w, s', e, q⟩ => ?_
  obtain ⟨x, s1, e1, e⟩ := bd_inv e
  refine ⟨m, ρ, s, er, sr, x, s1, e1, fun m1 H1 v A1 S1 r1 => ?_⟩
  cases ei : insOf x s1 with
  | none => simp only [ei] at e; cases e
  | some t =>
    obtain ⟨n, c', fs⟩ := t
    simp only [ei] at e
    by_cases hc : c' = c ∧ fs.lookup mt = none
    · rw [if_pos hc] at e
      obtain ⟨ws, s2, e2, e⟩ := bd_inv e
      obtain ⟨hc, hl⟩ := hc
      rw [hc] at ei
      obtain ⟨a, C', dx, vs, rfl, hm', hs, ha, hn', rf⟩ := ins_of S1 r1 ei
      rw [hn] at hn'
      cases hn'
      refine ⟨a, dx, vs, rfl, ha, (rf.lookup mt).2 hl, m1, ρ, s1, er.adv A1, S1, ws, s2, e2, fun m2 H2 us A2 S2 r2 => ?_⟩
      show spF X.K ps.length F (.ref a :: (us ++ [])) H2 Q E0
      rw [List.append_nil]
      have rr : RL X.K m2 H2 (x :: ws) (.ref a :: us) := .cons (r1.adv A2) r2
      exact ⟨by rw [rr.len]; exact O.ln _ _ _ e, m2, s2, _, rr, S2, w, s', e, fun m3 H3 v A3 => q m3 H3 v ((A1.trans A2).trans A3)⟩
    · rw [if_neg hc] at e; cases e
theorem make_sr {m : List Addr} {H : Hp} {s : Sto} {c : Str} {C x dx : Addr} (S : SR X.K m H s) (hn : PySem.W.nsIn X.K mainGlobals c = some (some (.ref C))) (hx : H x = none) (hdx : H dx = none) (ne : dx ≠ x) :
    Adv m H (m ++ [x]) (upd (upd H dx (.own x)) x (.ins C dx [])) ∧ SR X.K (m ++ [x]) (upd (upd H dx (.own x)) x (.ins C dx [])) (s ++ [.ins c []]) := by
  have A0 : Adv m H m (upd H dx (.own x)) := Adv.fresh hdx
  have S0 : SR X.K m (upd H dx (.own x)) s := S.fresh hdx
  have hx' : upd H dx (.own x) x = none := by rw [upd_ne (fun z => ne z.symm)]; exact hx
  exact ⟨A0.trans (Adv.alloc hx'), S0.alloc hx' ⟨C, dx, [], upd_same, hn, .nil⟩⟩
theorem m_make {k : Nat} {c : Str} {ps : List Str} {F : List W → Sto → Rz W} {fa : FA} {p : Pos} (O : OwnC X.prog X.w X.K X.mg X.base k c ps F) (hr : Room k X.A) (hg : Gl X c) (ha : PA X (e :: es) (tA X.K fa)) (hdb : (c == ("__debug__" : Str)) = false := by decide) (he : starEach (e :: es) X.env = (false, eval e X.env) :: starEach es X.env := by rfl)
    (hpl : (backTo pos (starEach es X.env)).any (·.1) = false := by rfl) : PE X (.Call (.Name c p) (e :: es) [] pos) (tF X.K (eMake c F fa)) := by
  obtain ⟨C, f, fd, j, hj, hn, hm, M, h1, h2⟩ := O.ex
  refine (pe_make M h1 (hr.mono hj) hg hm h2 .nil pass0 ha hdb he hpl).imp fun σ H Q ⟨m, ρ, s, er, sr, w, s', e, q⟩ => ?_
  obtain ⟨ws, s1, e1, e⟩ := bd_inv e
  refine ⟨m, ρ, s, er, sr, ws, s1, e1, fun m1 H1 vs A1 S1 r1 x dx hx hdx ne => ?_⟩
  obtain ⟨w1, s2, e2, e⟩ := bd_inv e
  obtain ⟨A2, S2⟩ := make_sr (c := c) S1 hn hx hdx ne
  show spF X.K ps.length F (.ref x :: (vs ++ [])) _ _ E0
  rw [List.append_nil]
  have rx : R X.K (m1 ++ [x]) (upd (upd H1 dx (.own x)) x (.ins C dx [])) (.ref s1.length) (.ref x) := alloc_at S1
  have rr : RL X.K (m1 ++ [x]) (upd (upd H1 dx (.own x)) x (.ins C dx [])) (.ref s1.length :: ws) (.ref x :: vs) := .cons rx (r1.adv A2)
  refine ⟨by rw [rr.len]; exact O.ln _ _ _ e2, _, _, _, rr, S2, w1, s2, e2, fun m3 H3 v A3 S3 r3 => ?_⟩
  cases w1 <;> try cases e
  cases r3
  exact ⟨rfl, q m3 H3 _ ((A1.trans A2).trans A3) S3 (rx.adv A3)⟩
end
theorem fnq_of {P : Program} {w : World} {K : PySem.W.Frag} {mg : Str → Option Value} {base : Heap} {x qual : Str} {st : Stmt} {f : Addr} {fd : FuncData} {N ps : List Str} {k : Nat} {body : FS} (F : Fun K x qual st f fd) (S : FnScope N ps (defScope st))
    (h : ∀ (cdv : Value) (A : Around) (outer : List Env) (s : Shared) (H : Hp) (E : XK), Room k (A.deeper (envOfC qual (defScope st) s.heap.objs.size f cdv)) → PSs (cxOf CX0 P w K mg base N qual (defScope st) f cdv A outer s H E).nox (defBody st) (tS K body)) :
    FnOk P w K mg base CX0 (k + 1) f fd ps (spF K ps.length (mkF ps.length N.length body)) := by
  refine F.ok S (fun vs H Q E h => h.1) (fun cdv A outer s H vs Q E hr hq => ⟨_, h cdv A outer s H E hr, ?_⟩)
  obtain ⟨hl, m, st, ws, r, sr, w, s', e, q⟩ := hq
  unfold mkF at e
  rw [if_pos (by rw [← r.len]; exact hl)] at e
  obtain ⟨o, s1, e1, e⟩ := bd_inv e
  refine ⟨m, _, st, ?_, sr, o, s1, e1, ?_⟩
  · unfold L2.start
    rw [r.len]
    exact r.env.app (ER.nones _)
  · cases o with
    | nx ρ1 => cases e; exact fun m' H' σ' A S _ => q m' H' _ A S .non
    | rt w => cases e; exact q
    | bk ρ1 => cases e
    | ct ρ1 => cases e
theorem mkF_ln {n N : Nat} {body : FS} {ws : List W} {s : Sto} {r : W × Sto} (e : mkF n N body ws s = some r) : ws.length = n := by
  unfold mkF at e
  split at e
  · assumption
  · cases e
theorem ownM_of {P : Program} {w : World} {K : PySem.W.Frag} {mg : Str → Option Value} {base : Heap} {c x qual : Str} {st : Stmt} {C f : Addr} {fd : FuncData} {N ps : List Str} {k : Nat} {body : FS} (F : Fun K x qual st f fd) (S : FnScope N ps (defScope st)) (hb : Binds K fd ps [])
    (hc : PySem.W.nsIn K mainGlobals c = some (some (.ref C))) (cl : Cls K C) (hm : Meth K C x f)
    (h : ∀ (cdv : Value) (A : Around) (outer : List Env) (s : Shared) (H : Hp) (E : XK), Room k (A.deeper (envOfC qual (defScope st) s.heap.objs.size f cdv)) → PSs (cxOf CX0 P w K mg base N qual (defScope st) f cdv A outer s H E).nox (defBody st) (tS K body)) :
    OwnM P w K mg base (k + 1) c x ps (mkF ps.length N.length body) := ⟨⟨C, f, fd, hc, cl, hm, fnq_of F S h, hb⟩, fun ws s r e => mkF_ln e⟩
theorem ownC_of {P : Program} {w : World} {K : PySem.W.Frag} {mg : Str → Option Value} {base : Heap} {c qual : Str} {st : Stmt} {C f : Addr} {fd : FuncData} {N ps : List Str} {k : Nat} {body : FS} (F : Fun K "__init__" qual st f fd) (S : FnScope N ps (defScope st)) (hb : Binds K fd ps [])
    (hc : PySem.W.nsIn K mainGlobals c = some (some (.ref C))) (hg : mg c = some (.ref C)) (M : Mk K C f)
    (h : ∀ (cdv : Value) (A : Around) (outer : List Env) (s : Shared) (H : Hp) (E : XK), Room k (A.deeper (envOfC qual (defScope st) s.heap.objs.size f cdv)) → PSs (cxOf CX0 P w K mg base N qual (defScope st) f cdv A outer s H E).nox (defBody st) (tS K body)) :
    OwnC P w K mg base (k + 2) c ps (mkF ps.length N.length body) := ⟨⟨C, f, fd, k + 1, Nat.le_refl _, hc, hg, M, fnq_of F S h, hb⟩, fun ws s r e => mkF_ln e⟩
end Mir

set_option Elab.async false
set_option linter.all false
set_option maxRecDepth 100000
namespace Mir
open PySem PySem.Spec PyProof.Rows L2
inductive OutX where
  | o (x : Out)
  | xc (c : Str) (ρ : EnvM)
abbrev RzX := Option (Sum W Str × Sto)
abbrev FEX := EnvM → Sto → RzX
abbrev FSX := EnvM → Sto → Option (OutX × Sto)
def isC (K : PySem.W.Frag) (c : Str) (C : Addr) : Prop := PySem.W.nsIn K mainGlobals c = some (some (.ref C))
theorem isC.one {K : PySem.W.Frag} {c : Str} {C D : Addr} (h : isC K c C) (g : isC K c D) : C = D := by
  unfold isC at h g
  rw [h] at g
  cases g
  rfl
def endX (K : PySem.W.Frag) (m : List Addr) (H : Hp) (Q : VK) (E : XK) (s : Sto) : Sum W Str → Prop
  | .inl w => ∀ m' H' v, Adv m H m' H' → SR K m' H' s → R K m' H' w v → Q v H'
  | .inr c => ∀ m' H' C, Adv m H m' H' → SR K m' H' s → isC K c C → E (.ref C) none H'
def wEX (K : PySem.W.Frag) (m : List Addr) (H : Hp) (r : RzX) (Q : VK) (E : XK) : Prop := ∃ o s, r = some (o, s) ∧ endX K m H Q E s o
def outX (K : PySem.W.Frag) (m : List Addr) (H : Hp) (s : Sto) (D : Ends) (W' : WX) : OutX → Prop
  | .o x => outE K m H s D x
  | .xc c ρ => ∀ m' H' σ' C, Adv m H m' H' → SR K m' H' s → ER K m' H' ρ σ' → isC K c C → W' (.ref C) none σ' H'
def wSX (K : PySem.W.Frag) (m : List Addr) (H : Hp) (r : Option (OutX × Sto)) (D : Ends) (W' : WX) : Prop := ∃ o s, r = some (o, s) ∧ outX K m H s D W' o
def tFX (K : PySem.W.Frag) (W' : WX) (f : FEX) : TE := fun σ H Q => ∃ m ρ s, ER K m H ρ σ ∧ SR K m H s ∧ wEX K m H (f ρ s) Q (WE W' σ)
def tSX (K : PySem.W.Frag) (W' : WX) (f : FSX) : TS := fun D σ H => ∃ m ρ s, ER K m H ρ σ ∧ SR K m H s ∧ wSX K m H (f ρ s) D W'
theorem endX.adv {K : PySem.W.Frag} {m m1 : List Addr} {H H1 : Hp} {Q : VK} {E : XK} {s : Sto} {o : Sum W Str} (h : endX K m H Q E s o) (A : Adv m H m1 H1) : endX K m1 H1 Q E s o := by
  cases o with
  | inl w => exact fun m' H' v A' => h m' H' v (A.trans A')
  | inr c => exact fun m' H' C A' => h m' H' C (A.trans A')
theorem outX.adv {K : PySem.W.Frag} {m m1 : List Addr} {H H1 : Hp} {s : Sto} {D : Ends} {W' : WX} {o : OutX} (h : outX K m H s D W' o) (A : Adv m H m1 H1) : outX K m1 H1 s D W' o := by
  cases o with
  | o x => exact outE.adv h A
  | xc c ρ => exact fun m' H' σ' C A' => h m' H' σ' C (A.trans A')
def eL (f : FE) : FEX := fun ρ s => match f ρ s with
  | some (w, s1) => some (.inl w, s1)
  | none => none
def sL (f : FS) : FSX := fun ρ s => match f ρ s with
  | some (w, s1) => some (.o w, s1)
  | none => none
def eFnX (F : List W → Sto → RzX) (a : FA) : FEX := fun ρ s => match a ρ s with
  | some (ws, s1) => F ws s1
  | none => none
def eMethX (c m : Str) (F : List W → Sto → RzX) (o : FE) (a : FA) : FEX := fun ρ s => match o ρ s with
  | some (x, s1) => match insOf x s1 with
    | some (_, c', fs) => if c' = c ∧ fs.lookup m = none then (match a ρ s1 with
      | some (ws, s2) => F (x :: ws) s2
      | none => none) else none
    | none => none
  | none => none
def eOpX (g : W → W → Sto → Rz W) (a : FE) (b : FEX) : FEX := fun ρ s => match a ρ s with
  | some (x, s1) => match b ρ s1 with
    | some (.inl y, s2) => (match g x y s2 with
      | some (z, s3) => some (.inl z, s3)
      | none => none)
    | some (.inr c, s2) => some (.inr c, s2)
    | none => none
  | none => none
def sSetX (i : Nat) (f : FEX) : FSX := fun ρ s => match f ρ s with
  | some (.inl w, s1) => some (.o (.nx (ρ.set i (some w))), s1)
  | some (.inr c, s1) => some (.xc c ρ, s1)
  | none => none
def sDoX (f : FEX) : FSX := fun ρ s => match f ρ s with
  | some (.inl w, s1) => some (.o (.nx ρ), s1)
  | some (.inr c, s1) => some (.xc c ρ, s1)
  | none => none
def sRetX (f : FEX) : FSX := fun ρ s => match f ρ s with
  | some (.inl w, s1) => some (.o (.rt w), s1)
  | some (.inr c, s1) => some (.xc c ρ, s1)
  | none => none
def sConsX (f g : FSX) : FSX := fun ρ s => match f ρ s with
  | some (.o (.nx ρ1), s1) => g ρ1 s1
  | some (o, s1) => some (o, s1)
  | none => none
def sIfX (t : FT) (f g : FSX) : FSX := fun ρ s => match t ρ s with
  | some (k, s1) => if k = true then f ρ s1 else g ρ s1
  | none => none
def sRaise (c : Str) : FSX := fun ρ s => some (.xc c ρ, s)
def sPutX (o : FE) (i : FEX) (f : FE) : FSX := fun ρ s => match f ρ s with
  | some (w, s1) => match o ρ s1 with
    | some (x, s2) => match i ρ s2 with
      | some (.inl y, s3) => (match setAt x y w s3 with
        | some s4 => some (.o (.nx ρ), s4)
        | none => none)
      | some (.inr c, s3) => some (.xc c ρ, s3)
      | none => none
    | none => none
  | none => none
def hit (T : List (Str × Bool)) (c : Str) : Option Bool := T.lookup c
def sTry (T : List (Str × Bool)) (b : FSX) (u : FS) : FS := fun ρ s => match b ρ s with
  | some (.o o, s1) => some (o, s1)
  | some (.xc c ρ1, s1) => match hit T c with
    | some true => u ρ1 s1
    | _ => none
  | none => none
def forget (i : Nat) : Out → Out
  | .nx ρ => .nx (ρ.set i none)
  | .bk ρ => .bk (ρ.set i none)
  | .ct ρ => .ct (ρ.set i none)
  | .rt w => .rt w
def sTryAs (T : List (Str × Bool)) (i : Nat) (b : FSX) (u : Str → Addr → FS) : FS := fun ρ s => match b ρ s with
  | some (.o o, s1) => some (o, s1)
  | some (.xc c ρ1, s1) => match hit T c with
    | some true => (match u c 0 (ρ1.set i (some (.xob 0))) s1 with
      | some (o, s2) => some (forget i o, s2)
      | none => none)
    | _ => none
  | none => none
def eIsX (a : Addr) (i : Nat) (b : Bool) : FE := fun ρ s => match ρ[i]? with
  | some (some (.xob a')) => if a' = a then some (.bl b, s) else none
  | _ => none
structure HitT (K : PySem.W.Frag) (mg : Str → Option Value) (h : Str) (T : List (Str × Bool)) (Ch : Addr) : Prop where
  at_ : mg h = some (.ref Ch)
  ok : ∀ c b, hit T c = some b → ∀ C, isC K c C → PySem.W.exmOne K (.ref C) (.ref Ch) = some b
structure RaiT (K : PySem.W.Frag) (mg : Str → Option Value) (c : Str) (C : Addr) : Prop where
  at_ : isC K c C
  gP : mg c = some (.ref C)
  xP : PySem.W.excIn K C [.type "ValueError", .type "Exception", .type "BaseException", .type "object"] "ValueError.__new__" = true
  kP : PySem.W.keepIn K (.ref C) = true
  bP : PySem.W.subIn K (.ref C) (.type "BaseException") = some true
  tP : PySem.W.typeIn K (.ref C) = some (.type "type")
structure KitT (K : PySem.W.Frag) (mg : Str → Option Value) (c h : Str) (b : Bool) : Prop where
  ok : ∀ C, isC K c C → ∃ Ch, mg h = some (.ref Ch) ∧ PySem.W.kitOne K (.ref C) (.ref Ch) = some b
section
variable {X : Cx} {e o a b : Expr} {es : List Expr} {pos pos' : Pos} {W' : WX} {st : Stmt} {rest : List Stmt}
theorem sL_inv {f : FS} {ρ : EnvM} {s : Sto} {r : OutX × Sto} (h : sL f ρ s = some r) : ∃ w s1, f ρ s = some (w, s1) ∧ r = (.o w, s1) := by
  unfold sL at h
  split at h
  · rename_i w s1 e
    cases h
    exact ⟨w, s1, e, rfl⟩
  · cases h
theorem mxs_of {f : FS} (h : PS X st (tS X.K f)) : PS X st (tSX X.K W' (sL f)) := h.imp fun D σ H ⟨m, ρ, s, er, sr, oo, s', e1, q⟩ => by
  obtain ⟨w, s1, e2, e3⟩ := sL_inv e1
  cases e3
  exact ⟨m, ρ, s, er, sr, w, s', e2, q⟩
theorem mxss_of {f : FS} (h : PSs X rest (tS X.K f)) : PSs X rest (tSX X.K W' (sL f)) := h.imp fun D σ H ⟨m, ρ, s, er, sr, oo, s', e1, q⟩ => by
  obtain ⟨w, s1, e2, e3⟩ := sL_inv e1
  cases e3
  exact ⟨m, ρ, s, er, sr, w, s', e2, q⟩
theorem mxss_one {f : FSX} (h : PS X st (tSX X.K W' f)) : PSs X [st] (tSX X.K W' f) := pss_one h
theorem mxss_nil : PSs X [] (tSX X.K W' (sL sNil)) := mxss_of mss_nil
theorem mxss_cons {f g : FSX} (h1 : PS X st (tSX X.K W' f)) (h2 : PSs X rest (tSX X.K W' g)) : PSs X (st :: rest) (tSX X.K W' (sConsX f g)) :=
  (pss_cons h1 h2).imp fun D σ H ⟨m, ρ, s, er, sr, oo, s', e, q⟩ => by
    unfold sConsX at e
    split at e
    · rename_i ρ1 s1 e1
      exact ⟨m, ρ, s, er, sr, _, s1, e1, fun m1 H1 σ1 A1 S1 er1 => ⟨m1, ρ1, s1, er1, S1, oo, s', e, q.adv A1⟩⟩
    · rename_i o1 s1 hn e1
      cases e
      refine ⟨m, ρ, s, er, sr, _, _, e1, ?_⟩
      cases o' : oo with
      | o x =>
        rw [o'] at q
        cases x with
        | nx ρ1 => exact (hn ρ1 o').elim
        | rt w => exact q
        | bk ρ1 => exact q
        | ct ρ1 => exact q
      | xc c ρ1 => rw [o'] at q; exact q
    · cases e
theorem mxs_set {i : Nat} {x : Str} {f : FEX} (hN : X.N.Nodup) (hi : X.N[i]? = some x) (hx : Loc X.env.scope x) (he : PE X e (tFX X.K W' f)) (hs : swapsWith e (some (.Name x pos')) pos.line X.env = pure false := by rfl) (hf : X.fn x = true ∨ X.env.scope.names.lookup x = some .local := by first | exact .inl rfl | exact .inr rfl | assumption) :
    PS X (.Assign [.Name x pos'] e pos) (tSX X.K W' (sSetX i f)) :=
  (ps_set hN hi hx he hs hf).imp fun D σ H ⟨m, ρ, s, er, sr, oo, s', e, q⟩ => by
    unfold sSetX at e
    refine ⟨m, ρ, s, er, sr, ?_⟩
    split at e
    · rename_i w s1 e1
      cases e
      exact ⟨_, _, e1, fun m1 H1 v A1 S1 r1 => q m1 H1 _ A1 S1 ((er.adv A1).set i r1)⟩
    · rename_i c s1 e1
      cases e
      exact ⟨_, _, e1, fun m1 H1 C A1 S1 hc => q m1 H1 σ C A1 S1 (er.adv A1) hc⟩
    · cases e
theorem mxs_expr {f : FEX} (he : PE X e (tFX X.K W' f)) (hs : swapsWith e none pos.line X.env = pure false := by rfl) : PS X (.Expr e pos) (tSX X.K W' (sDoX f)) :=
  (ps_expr he hs).imp fun D σ H ⟨m, ρ, s, er, sr, oo, s', e, q⟩ => by
    unfold sDoX at e
    refine ⟨m, ρ, s, er, sr, ?_⟩
    split at e
    · rename_i w s1 e1
      cases e
      exact ⟨_, _, e1, fun m1 H1 v A1 S1 r1 => q m1 H1 _ A1 S1 (er.adv A1)⟩
    · rename_i c s1 e1
      cases e
      exact ⟨_, _, e1, fun m1 H1 C A1 S1 hc => q m1 H1 σ C A1 S1 (er.adv A1) hc⟩
    · cases e
theorem mxs_ret {f : FEX} (he : PE X e (tFX X.K W' f)) : PS X (.Return (some e) pos) (tSX X.K W' (sRetX f)) :=
  (ps_ret he).imp fun D σ H ⟨m, ρ, s, er, sr, oo, s', e, q⟩ => by
    unfold sRetX at e
    refine ⟨m, ρ, s, er, sr, ?_⟩
    split at e
    · rename_i w s1 e1
      cases e
      exact ⟨_, _, e1, fun m1 H1 v A1 S1 r1 => q m1 H1 _ A1 S1 r1⟩
    · rename_i c s1 e1
      cases e
      exact ⟨_, _, e1, fun m1 H1 C A1 S1 hc => q m1 H1 σ C A1 S1 (er.adv A1) hc⟩
    · cases e
theorem mxs_if {c : Expr} {t : FT} {f g : FSX} {as bs : List Stmt} (hc : PT X c (tT X.K t)) (ha : PSs X as (tSX X.K W' f)) (hb : PSs X bs (tSX X.K W' g)) : PS X (.If c as bs pos) (tSX X.K W' (sIfX t f g)) :=
  (ps_if hc ha hb).imp fun D σ H ⟨m, ρ, s, er, sr, oo, s', e, q⟩ => by
    unfold sIfX at e
    refine ⟨m, ρ, s, er, sr, ?_⟩
    split at e
    · rename_i k s1 e1
      refine ⟨k, s1, e1, fun m1 H1 A1 S1 => ?_⟩
      cases k with
      | true =>
        rw [if_pos rfl] at e ⊢
        exact ⟨m1, ρ, s1, er.adv A1, S1, oo, s', e, q.adv A1⟩
      | false =>
        rw [if_neg Bool.false_ne_true] at e ⊢
        exact ⟨m1, ρ, s1, er.adv A1, S1, oo, s', e, q.adv A1⟩
    · cases e
theorem mxs_raise {c m0 : Str} {C : Addr} {j : Nat} {p p2 p3 : Pos} (hc : X.calm = true) (tk : Takes X W') (T : RaiT X.K X.mg c C) (hg : Gl X c) (hdb : (c == ("__debug__" : Str)) = false := by decide) : PS X (.Raise (some (.Call (.Name c p) [.Constant (.str m0) j p2] [] p3)) none pos) (tSX X.K W' (sRaise c)) :=
  (ps_raise hc tk (pmk_own PySem.F.excBase_ValueError T.xP T.gP T.kP (raises_own T.bP T.tP) hg hdb)).imp fun D σ H ⟨m, ρ, s, er, sr, oo, s', e, q⟩ => by
    cases e
    exact q m H σ C (Adv.refl m H) sr er T.at_
theorem mx_ix {r : R2} {g : W → W → Sto → Rz W} {fa : FE} {fb : FEX} (hr : IxR X r) (hg : OpF X.K r g) (ha : PE X a (tF X.K fa)) (hb : PE X b (tFX X.K W' fb)) (hs : PlainIx b) : PE X (.Subscript a b pos) (tFX X.K W' (eOpX g fa fb)) :=
  (pe_ix hr ha hb hs).imp fun σ H Q ⟨m, ρ, s, er, sr, oo, s', e, q⟩ => by
    unfold eOpX at e
    split at e
    · rename_i x s1 e1
      refine ⟨m, ρ, s, er, sr, x, s1, e1, fun m1 H1 v A1 S1 r1 => ⟨m1, ρ, s1, er.adv A1, S1, ?_⟩⟩
      split at e
      · rename_i y s2 e2
        split at e
        · rename_i z s3 e3
          cases e
          exact ⟨_, _, e2, fun m2 H2 u A2 S2 r2 => hg m2 H2 s2 x y v u Q S2 (r1.adv A2) r2 ⟨z, _, e3, fun m3 H3 w3 A3 => q m3 H3 w3 ((A1.trans A2).trans A3)⟩⟩
        · cases e
      · rename_i c s2 e2
        cases e
        exact ⟨_, _, e2, fun m2 H2 C A2 S2 hc => q m2 H2 C (A1.trans A2) S2 hc⟩
      · cases e
    · cases e
theorem mxs_put {i : Expr} {tpos : Pos} {fo f : FE} {fi : FEX} (he : PE X e (tF X.K f)) (ho : PE X o (tF X.K fo)) (hi : PE X i (tFX X.K W' fi))
    (ha : ∀ v, assign (.Subscript o i tpos) X.env v = (do
      let ov ← holding [v] (eval o X.env)
      let iv ← holding [v, ov] (eval i X.env)
      standAt tpos
      holding [v, ov, iv] (setItem ov iv v)
      release [v, ov, iv] []) := by intro _; rfl)
    (hs : swapsWithSole [.Subscript o i tpos] e pos.line X.env = pure false := by rfl) (hw : swappedStores [.Subscript o i tpos] e X.env = pure none := by rfl)
    (h1 : (assignEach [.Subscript o i tpos] X.env).map (·.2) = [assign (.Subscript o i tpos) X.env] := by rfl) : PS X (.Assign [.Subscript o i tpos] e pos) (tSX X.K W' (sPutX fo fi f)) :=
  (ps_asg he (pg_sub ho hi set_list ha) hs hw h1).imp fun D σ H ⟨m, ρ, s, er, sr, oo, s', e, q⟩ => by
    unfold sPutX at e
    split at e
    · rename_i w s1 e1
      refine ⟨m, ρ, s, er, sr, w, s1, e1, fun m1 H1 v A1 S1 r1 => ?_⟩
      split at e
      · rename_i x s2 e2
        refine ⟨m1, ρ, s1, er.adv A1, S1, x, s2, e2, fun m2 H2 u A2 S2 r2 => ⟨m2, ρ, s2, (er.adv A1).adv A2, S2, ?_⟩⟩
        split at e
        · rename_i y s3 e3
          refine ⟨_, _, e3, fun m3 H3 z A3 S3 r3 => ?_⟩
          have r2' := r2.adv A3
          have r1' := (r1.adv A2).adv A3
          cases es : setAt x y w s3 with
          | none => simp only [es] at e; cases e
          | some s4 =>
            simp only [es] at e
            cases e
            cases r2' with
            | @ref n a hn =>
              cases r3 with
              | int k =>
                simp only [setAt] at es
                cases eo : s3[n]? with
                | none => simp only [eo] at es; cases es
                | some ob =>
                  cases ob with
                  | dct _ => simp only [eo] at es; cases es
                  | dtt _ => simp only [eo] at es; cases es
                  | lam _ _ => simp only [eo] at es; cases es
                  | tab _ _ => simp only [eo] at es; cases es
                  | dead => simp only [eo] at es; cases es
                  | frd _ => simp only [eo] at es; cases es
                  | ins _ _ => simp only [eo] at es; cases es
                  | lst ws =>
                    simp only [eo] at es
                    cases ek : ixN ws.length k with
                    | none => simp only [ek] at es; cases es
                    | some j =>
                      simp only [ek] at es
                      cases es
                      obtain ⟨a', h2, vs, h3, h4⟩ := S3.at eo
                      rw [hn] at h2
                      cases h2
                      refine ⟨a, vs, k, j, rfl, rfl, h3, by rw [h4.len]; exact ek, ?_⟩
                      have A4 : Adv m3 H3 m3 (upd H3 a (.lst (vs.set j v))) := Adv.write S3 hn ⟨_, h3, .inl ⟨_, rfl⟩⟩
                      exact q m3 _ σ (((A1.trans A2).trans A3).trans A4) (S3.write hn ⟨_, h3, .inl ⟨_, rfl⟩⟩ ⟨_, upd_same, (h4.adv A4).set j (r1'.adv A4)⟩) ((((er.adv A1).adv A2).adv A3).adv A4)
              | _ => simp only [setAt] at es <;> cases es
            | _ => simp only [setAt] at es <;> cases es
        · rename_i c s3 e3
          cases e
          exact ⟨_, _, e3, fun m3 H3 C A3 S3 hc => q m3 H3 σ C ((A1.trans A2).trans A3) S3 (((er.adv A1).adv A2).adv A3) hc⟩
        · cases e
      · cases e
    · cases e
end
end Mir

set_option Elab.async false
set_option linter.all false
set_option maxRecDepth 100000
namespace Mir
open PySem PySem.Spec PyProof.Rows L2
def spX (K : PySem.W.Frag) (n : Nat) (F : List W → Sto → RzX) : Sp := fun vs H Q E => vs.length = n ∧ ∃ m s ws, RL K m H ws vs ∧ SR K m H s ∧ wEX K m H (F ws s) Q E
def mkFX (n N : Nat) (body : FSX) : List W → Sto → RzX := fun ws s => if ws.length = n then (match body (ws.map some ++ List.replicate (N - ws.length) none) s with
  | some (.o (.rt w), s1) => some (.inl w, s1)
  | some (.o (.nx _), s1) => some (.inl .non, s1)
  | some (.xc c _, s1) => some (.inr c, s1)
  | _ => none)
  else none
structure OwnX (P : Program) (w : World) (K : PySem.W.Frag) (mg : Str → Option Value) (base : Heap) (k : Nat) (x : Str) (ps : List Str) (F : List W → Sto → RzX) : Prop where
  ex : ∃ (f : Addr) (fd : FuncData), FnOk P w K mg base (L2.CX P w) k f fd ps (spX K ps.length F) ∧ Binds K fd ps [] ∧ PySem.W.keepIn K (.ref f) = true ∧ mg x = some (.ref f)
  ln : ∀ ws s r, F ws s = some r → ws.length = ps.length
structure OwnMX (P : Program) (w : World) (K : PySem.W.Frag) (mg : Str → Option Value) (base : Heap) (k : Nat) (c x : Str) (ps : List Str) (F : List W → Sto → RzX) : Prop where
  ex : ∃ (C f : Addr) (fd : FuncData), PySem.W.nsIn K mainGlobals c = some (some (.ref C)) ∧ Cls K C ∧ Meth K C x f ∧ FnOk P w K mg base (L2.CX P w) k f fd ps (spX K ps.length F) ∧ Binds K fd ps []
  ln : ∀ ws s r, F ws s = some r → ws.length = ps.length
section
variable {P : Program} {w : World} {K : PySem.W.Frag} {mg : Str → Option Value} {base : Heap} {j k : Nat} {c x : Str} {ps : List Str} {F : List W → Sto → RzX}
theorem OwnX.mono (h : OwnX P w K mg base j x ps F) (hk : j ≤ k) : OwnX P w K mg base k x ps F := by
  obtain ⟨f, fd, h1, h2, h3, h4⟩ := h.ex
  exact ⟨⟨f, fd, h1.mono hk, h2, h3, h4⟩, h.ln⟩
theorem OwnMX.mono (h : OwnMX P w K mg base j c x ps F) (hk : j ≤ k) : OwnMX P w K mg base k c x ps F := by
  obtain ⟨C, f, fd, h1, h2, h3, h4, h5⟩ := h.ex
  exact ⟨⟨C, f, fd, h1, h2, h3, h4.mono hk, h5⟩, h.ln⟩
theorem mkFX_ln {n N : Nat} {body : FSX} {ws : List W} {s : Sto} {r : Sum W Str × Sto} (e : mkFX n N body ws s = some r) : ws.length = n := by
  unfold mkFX at e
  split at e
  · assumption
  · cases e
theorem fnx_of {qual : Str} {st : Stmt} {f : Addr} {fd : FuncData} {N : List Str} {body : FSX} (F : Fun K x qual st f fd) (S : FnScope N ps (defScope st))
    (h : ∀ (cdv : Value) (A : Around) (outer : List Env) (s : Shared) (H : Hp) (E : XK), Room k (A.deeper (envOfC qual (defScope st) s.heap.objs.size f cdv)) → Takes (cxOf (L2.CX P w) P w K mg base N qual (defScope st) f cdv A outer s H E) (fun cls d _ H' => E cls d H') → PSs (cxOf (L2.CX P w) P w K mg base N qual (defScope st) f cdv A outer s H E) (defBody st) (tSX K (fun cls d _ H' => E cls d H') body)) :
    FnOk P w K mg base (L2.CX P w) (k + 1) f fd ps (spX K ps.length (mkFX ps.length N.length body)) := by
  refine F.okX S (fun vs H Q E h => h.1) (fun cdv A outer s H vs Q E hr hq => ⟨_, h cdv A outer s H E hr (takes_of rfl rfl rfl rfl), ?_⟩)
  obtain ⟨hl, m, st', ws, r, sr, o, s', e, q⟩ := hq
  unfold mkFX at e
  rw [if_pos (by rw [← r.len]; exact hl)] at e
  refine ⟨m, ws.map some ++ List.replicate (N.length - ws.length) none, st', ?_, sr, ?_⟩
  · unfold L2.start
    rw [r.len]
    exact r.env.app (ER.nones _)
  · split at e
    · rename_i w1 s1 e1
      cases e
      exact ⟨_, _, e1, q⟩
    · rename_i ρ1 s1 e1
      cases e
      exact ⟨_, _, e1, fun m' H' σ' A S _ => q m' H' _ A S .non⟩
    · rename_i c1 ρ1 s1 e1
      cases e
      exact ⟨_, _, e1, fun m' H' σ' C A S _ hc => q m' H' C A S hc⟩
    · cases e
theorem ownMX_of {qual : Str} {st : Stmt} {C f : Addr} {fd : FuncData} {N : List Str} {body : FSX} (F : Fun K x qual st f fd) (S : FnScope N ps (defScope st)) (hb : Binds K fd ps [])
    (hc : PySem.W.nsIn K mainGlobals c = some (some (.ref C))) (cl : Cls K C) (hm : Meth K C x f)
    (h : ∀ (cdv : Value) (A : Around) (outer : List Env) (s : Shared) (H : Hp) (E : XK), Room k (A.deeper (envOfC qual (defScope st) s.heap.objs.size f cdv)) → Takes (cxOf (L2.CX P w) P w K mg base N qual (defScope st) f cdv A outer s H E) (fun cls d _ H' => E cls d H') → PSs (cxOf (L2.CX P w) P w K mg base N qual (defScope st) f cdv A outer s H E) (defBody st) (tSX K (fun cls d _ H' => E cls d H') body)) :
    OwnMX P w K mg base (k + 1) c x ps (mkFX ps.length N.length body) := ⟨⟨C, f, fd, hc, cl, hm, fnx_of F S h, hb⟩, fun ws s r e => mkFX_ln e⟩
end
section
variable {X : Cx} {CX : CXT} {k : Nat} {f C : Addr} {fd : FuncData} {ps : List Str} {sp : Sp} {E : L2.St → XK} {x m : Str} {p pos apos : Pos} {e o : Expr} {es : List Expr} {ta : TE} {t : TA}
def tMethS (C : Addr) (m : Str) (sp : Sp) (E : L2.St → XK) (ta : TE) (t : TA) : TE := fun σ H Q => ta σ H fun x H1 => ∃ a dx fs, x = .ref a ∧ H1 a = some (.ins C dx fs) ∧ fs.lookup m = none ∧
  t σ H1 fun vs H2 => sp (x :: vs) H2 Q (E σ)
theorem pe_methE {pl : Sem Bool} (he : PE X o ta) (c : Cls X.K C) (hm : Meth X.K C m f) (F : FnOk X.prog X.w X.K X.mg X.base CX k f fd ps sp) (hr : Room k X.A) (hb : Binds X.K fd ps []) (hx : ∀ σ, PassesAt CX X σ (E σ)) (ha : PA X (e :: es) t)
    (hst : starEach (e :: es) X.env = (false, eval e X.env) :: starEach es X.env := by rfl) (hpl : (backTo pos (starEach es X.env)).any (·.1) = false := by rfl)
    (ht : eval (.Call (.Attribute o m apos) (e :: es) [] pos) X.env = (do
      let ov ← eval o X.env
      standAt apos.atName
      let (f, first) ← holding [ov] (getMethod ov m pl)
      callWith pos f first (backTo pos (starEach (e :: es) X.env)) (backToKw pos (keywordEach [] X.env))) := by rfl) :
    PE X (.Call (.Attribute o m apos) (e :: es) [] pos) (tMethS C m sp E ta t) := by
  refine ⟨fun pins s σ H Q I h => ?_⟩
  refine PySem.W.methodCall_KW (pl := pl) (thn (he.run pins s σ H _ I h) fun u s1 ⟨x, H1, I1, rx, a, dx, fs, ex, ea, l, q⟩ => ?_) ht
  subst ex
  obtain rfl : u = Value.ref a := rx
  refine getmeth_ok I1 ea c hm l ?_
  refine PySem.W.callWith_K (first := [.ref a]) (h₀ := X.base) I.ok.mod.kin hm.kp (thn (ha.run pos pins s1 σ H1 _ I1 q) fun us s2 ⟨vs, H2, I2, r, q2⟩ => ⟨I2.kIn, ?_⟩) hst hpl
  exact run_fnS (us := .ref a :: us) (vs := .ref a :: vs) F hr hb (hx σ) I2 (.cons rfl r) q2
variable {W' : WX}
theorem mx_meth {c mt : Str} {F : List W → Sto → RzX} {fo : FE} {fa : FA} {pl : Sem Bool} (O : OwnMX X.prog X.w X.K X.mg X.base k c mt ps F) (hr : Room k X.A) (tk : Takes X W') (ho : PE X o (tF X.K fo)) (ha : PA X (e :: es) (tA X.K fa))
    (hst : starEach (e :: es) X.env = (false, eval e X.env) :: starEach es X.env := by rfl) (hpl : (backTo pos (starEach es X.env)).any (·.1) = false := by rfl)
    (ht : eval (.Call (.Attribute o mt apos) (e :: es) [] pos) X.env = (do
      let ov ← eval o X.env
      standAt apos.atName
      let (f, first) ← holding [ov] (getMethod ov mt pl)
      callWith pos f first (backTo pos (starEach (e :: es) X.env)) (backToKw pos (keywordEach [] X.env))) := by rfl) : PE X (.Call (.Attribute o mt apos) (e :: es) [] pos) (tFX X.K W' (eMethX c mt F fo fa)) := by
  obtain ⟨C, f, fd, hn, cl, hm, h1, h2⟩ := O.ex
  refine (pe_methE (pl := pl) ho cl hm h1 hr h2 (fun σ => passAt tk σ) ha hst hpl ht).imp fun σ H Q ⟨m, ρ, s, er, sr, oo, s', e, q⟩ => ?_
  unfold eMethX at e
  split at e
  · rename_i x s1 e1
    refine ⟨m, ρ, s, er, sr, x, s1, e1, fun m1 H1 v A1 S1 r1 => ?_⟩
    split at e
    · rename_i n c' fs ei
      by_cases hc : c' = c ∧ fs.lookup mt = none
      · rw [if_pos hc] at e
        obtain ⟨hc, hl⟩ := hc
        rw [hc] at ei
        split at e
        · rename_i ws s2 e2
          obtain ⟨a, C', dx, vs, rfl, hm', hs, ha, hn', rf⟩ := ins_of S1 r1 ei
          rw [hn] at hn'
          cases hn'
          refine ⟨a, dx, vs, rfl, ha, (rf.lookup mt).2 hl, m1, ρ, s1, er.adv A1, S1, ws, s2, e2, fun m2 H2 us A2 S2 r2 => ?_⟩
          have rr : RL X.K m2 H2 (x :: ws) (.ref a :: us) := .cons (r1.adv A2) r2
          exact ⟨by rw [rr.len]; exact O.ln _ _ _ e, m2, s2, _, rr, S2, oo, s', e, (q.adv A1).adv A2⟩
        · cases e
      · rw [if_neg hc] at e; cases e
    · cases e
  · cases e
variable {body suite : List Stmt} {b₀ : Stmt} {np pos' : Pos} {n : Str} {i : Nat}
theorem ms_try {T : List (Str × Bool)} {Ch : Addr} {fb : FSX} {fs : FS} (hs : X.stack = X.env :: X.outer) (hf : X.env.frame = some X.env.locals) (h : HitT X.K X.mg x T Ch) (hg : Gl X x)
    (hb : ∀ (W' : WX) (pn : List (Addr × Obj)) (xe : Value → Shared → Prop), Takes (X.tr pn xe) W' → PassesOwn (model X.prog X.w) X.A X.env xe → PSs (X.tr pn xe) body (tSX X.K W' fb))
    (hsu : ∀ (a : Addr) (oe : Obj) (pn : List (Addr × Obj)), PSs (X.suite a ((a, oe) :: pn)) (b₀ :: suite) (tS X.K fs)) (hdb : (x == ("__debug__" : Str)) = false := by decide) :
    PS X (.Try body [.ExceptHandler (some (.Name x np)) none (b₀ :: suite) pos'] [] [] pos) (tS X.K (sTry T fb fs)) :=
  (ps_try_only (Wout := fun _ _ _ _ => False) (tb := fun W' => tSX X.K W' fb) (ts := fun _ _ _ => tS X.K fs) (c := .ref Ch) hs hf ⟨hg, hdb, .inl h.at_⟩ takes0 hb (fun a oe cls d pn _ _ => hsu a oe pn)).imp fun D σ H ⟨m, ρ, s, er, sr, oo, s', e, q⟩ => by
    unfold sTry at e
    refine ⟨m, ρ, s, er, sr, ?_⟩
    split at e
    · rename_i o1 s1 e1
      cases e
      exact ⟨_, _, e1, q⟩
    · rename_i c1 ρ1 s1 e1
      split at e
      · rename_i ht
        exact ⟨_, _, e1, fun m1 H1 σ1 C A1 S1 er1 hc => ⟨true, h.ok _ _ ht C hc, fun _ a ha => ⟨m1, ρ1, s1, er1, S1, oo, s', e, q.adv A1⟩, fun z => by cases z⟩⟩
      · cases e
    · cases e
theorem ER.setX {K : PySem.W.Frag} {m : List Addr} {H : Hp} : ∀ {ρ : EnvM} {σ : L2.St} (i : Nat) (v : Option V), ER K m H ρ σ → ER K m H (ρ.set i none) (σ.set i v)
  | _, _, _, _, .nil => .nil
  | _, _, 0, _, .cons h t => .cons trivial t
  | _, _, i + 1, v, .cons h t => .cons h (ER.setX i v t)
def IndS (i : Nat) (u : Addr → FS) : Prop := ∀ (a : Addr) (ρ : EnvM) (s : Sto) (o : Out) (s2 : Sto), u 0 (ρ.set i (some (.xob 0))) s = some (o, s2) → ∃ o', u a (ρ.set i (some (.xob a))) s = some (o', s2) ∧ forget i o' = forget i o
theorem forget_out {K : PySem.W.Frag} {m : List Addr} {H : Hp} {s : Sto} {D : Ends} {o o' : Out} (hf : forget i o' = forget i o) (h : outE K m H s D (forget i o)) :
    outE K m H s { nx := fun σ' H' => D.nx (σ'.set i none) H', rt := D.rt, bk := fun σ' H' => D.bk (σ'.set i none) H', ct := fun σ' H' => D.ct (σ'.set i none) H' } o' := by
  rw [← hf] at h
  cases o' with
  | nx ρ => exact fun m' H' σ' A S er => h m' H' _ A S (er.setX i none)
  | bk ρ => exact fun m' H' σ' A S er => h m' H' _ A S (er.setX i none)
  | ct ρ => exact fun m' H' σ' A S er => h m' H' _ A S (er.setX i none)
  | rt w => exact h
theorem ms_tryAs {T : List (Str × Bool)} {Ch : Addr} {fb : FSX} {fs : Str → Addr → FS} (hs : X.stack = X.env :: X.outer) (hf : X.env.frame = some X.env.locals) (hN : X.N.Nodup) (hi : X.N[i]? = some n) (hln : X.env.kindOf n = some .local) (h : HitT X.K X.mg x T Ch) (hg : Gl X x)
    (hI : ∀ c : Str, IndS i (fs c))
    (hb : ∀ (W' : WX) (pn : List (Addr × Obj)) (xe : Value → Shared → Prop), Takes (X.tr pn xe) W' → PassesOwn (model X.prog X.w) X.A X.env xe → PSs (X.tr pn xe) body (tSX X.K W' fb))
    (hsu : ∀ (a : Addr) (oe : Obj) (cls : Value) (d : Option Addr) (pn : List (Addr × Obj)), Zc cls d oe → (∃ vs, oe.data = .fields vs) → PSs (X.suite a ((a, oe) :: pn)) (b₀ :: suite) (fun D σ H => ∃ c C, isC X.K c C ∧ hit T c = some true ∧ cls = .ref C ∧ d = none ∧ tS X.K (fs c a) D σ H)) (hdb : (x == ("__debug__" : Str)) = false := by decide) :
    PS X (.Try body [.ExceptHandler (some (.Name x np)) (some n) (b₀ :: suite) pos'] [] [] pos) (tS X.K (sTryAs T i fb fs)) :=
  (ps_try_as (Wout := fun _ _ _ _ => False) (tb := fun W' => tSX X.K W' fb) (ts := fun a cls d => fun D σ H => ∃ c C, isC X.K c C ∧ hit T c = some true ∧ cls = .ref C ∧ d = none ∧ tS X.K (fs c a) D σ H) (c := .ref Ch) hs hf hN hi hln ⟨hg, hdb, .inl h.at_⟩ takes0 hb hsu).imp fun D σ H ⟨m, ρ, s, er, sr, oo, s', e, q⟩ => by
    unfold sTryAs at e
    refine ⟨m, ρ, s, er, sr, ?_⟩
    split at e
    · rename_i o1 s1 e1
      cases e
      exact ⟨_, _, e1, q⟩
    · rename_i c1 ρ1 s1 e1
      split at e
      · rename_i ht
        split at e
        · rename_i o2 s2 e2
          cases e
          refine ⟨_, _, e1, fun m1 H1 σ1 C A1 S1 er1 hc => ⟨true, h.ok _ _ ht C hc, fun _ a ha => ?_, fun z => by cases z⟩⟩
          obtain ⟨o', e3, hfo⟩ := hI c1 a ρ1 s1 _ _ e2
          exact ⟨c1, C, hc, ht, rfl, rfl, m1, _, s1, er1.set i (.xob a), S1, o', _, e3, forget_out hfo (q.adv A1)⟩
        · cases e
      · cases e
    · cases e
theorem suite_by {T : List (Str × Bool)} {fs : Str → Addr → FS} {a : Addr} {oe : Obj} {cls : Value} {d : Option Addr} {pn : List (Addr × Obj)} {b1 : List Stmt} (hz : Zc cls d oe) (h : ∀ c C, isC X.K c C → hit T c = some true → Zc (.ref C) none oe → PSs (X.suite a ((a, oe) :: pn)) b1 (tS X.K (fs c a))) :
    PSs (X.suite a ((a, oe) :: pn)) b1 (fun D σ H => ∃ c C, isC X.K c C ∧ hit T c = some true ∧ cls = .ref C ∧ d = none ∧ tS X.K (fs c a) D σ H) := by
  refine ⟨fun pins s σ H D I ⟨c, C, hc, ht, e1, e2, q⟩ => ?_⟩
  subst e1 e2
  exact (h c C hc ht hz).run pins s σ H D I q
theorem m_isX {a D : Addr} {c T : Str} {b : Bool} {oe : Obj} {pn : List (Addr × Obj)} {p1 p2 p3 pos : Pos} (C : ExcC X.K D) (hz : Zc (.ref D) none oe) (hf : ∃ vs, oe.data = .fields vs) (hc : isC X.K c D) (k : KitT X.K X.mg c T b) (i : Nat) (hN : X.N[i]? = some n) (nb : X.mg "isinstance" = none) (hgi : Gl X "isinstance") (hgT : Gl X T)
    (hv : Vis X.env.scope n := by first | exact Or.inl rfl | exact Or.inr (Or.inl rfl) | exact Or.inr (Or.inr rfl)) (hd : (n == ("__debug__" : Str)) = false := by decide) (hcd : (n == ("__classdict__" : Str)) = false := by decide) (hdT : (T == ("__debug__" : Str)) = false := by decide)
    (he : starEach [.Name n p1, .Name T p2] (X.suite a ((a, oe) :: pn)).env = (false, eval (.Name n p1) (X.suite a ((a, oe) :: pn)).env) :: starEach [.Name T p2] (X.suite a ((a, oe) :: pn)).env := by rfl)
    (he2 : starEach [.Name T p2] (X.suite a ((a, oe) :: pn)).env = (false, eval (.Name T p2) (X.suite a ((a, oe) :: pn)).env) :: starEach [] (X.suite a ((a, oe) :: pn)).env := by rfl)
    (hpl : (backTo pos (starEach [.Name T p2] (X.suite a ((a, oe) :: pn)).env)).any (·.1) = false := by rfl) :
    PE (X.suite a ((a, oe) :: pn)) (.Call (.Name "isinstance" p3) [.Name n p1, .Name T p2] [] pos) (tF X.K (eIsX a i b)) := by
  obtain ⟨CT, hT, kt⟩ := k.ok D hc
  refine (pe_callB (X := X.suite a ((a, oe) :: pn)) (call_isE C hz hf) hgi nb (by decide +kernel) (pa_cons (pe_var (X := X.suite a ((a, oe) :: pn)) (i := i) hN hv hd hcd) (pa_cons (pe_glob (X := X.suite a ((a, oe) :: pn)) (v := .ref CT) hgT hT rfl hdT) pa_nil he2) he) (by decide) (by decide) he hpl).imp fun σ H Q ⟨m, ρ, s, er, sr, w, s', e, q⟩ => ?_
  unfold eIsX at e
  split at e
  · rename_i a' ea
    split at e
    · rename_i ha
      subst ha
      cases e
      obtain ⟨v, hv, r⟩ := er.get ea
      cases r
      exact ⟨_, hv, .ref CT, .ref CT, b, rfl, fun u hu => hu, kt, q m H _ (Adv.refl m H) sr (.bl b)⟩
    · cases e
  · cases e
end
end Mir

set_option Elab.async false
set_option linter.all false
set_option maxRecDepth 100000
namespace Mir
open PySem PySem.Spec PyProof.Rows L2
def eDn (f : FEX) : FE := fun ρ s => match f ρ s with
  | some (.inl w, s1) => some (w, s1)
  | _ => none
theorem m_dn {X : Cx} {e : Expr} {f : FEX} (h : PE X e (tFX X.K (fun _ _ _ _ => False) f)) : PE X e (tF X.K (eDn f)) := h.imp fun σ H Q ⟨m, ρ, s, er, sr, w, s', e, q⟩ => by
  unfold eDn at e
  split at e
  · rename_i w1 s1 e1
    cases e
    exact ⟨m, ρ, s, er, sr, _, _, e1, q⟩
  · cases e
def IndE (i : Nat) (u : Addr → FE) : Prop := ∀ (a : Addr) (ρ : EnvM) (s : Sto), u a (ρ.set i (some (.xob a))) s = u 0 (ρ.set i (some (.xob 0))) s
def IndT (i : Nat) (u : Addr → FT) : Prop := ∀ (a : Addr) (ρ : EnvM) (s : Sto), u a (ρ.set i (some (.xob a))) s = u 0 (ρ.set i (some (.xob 0))) s
section
variable {i j : Nat}
theorem ind_var (h : i ≠ j) : IndE i fun _ => eVar j := fun a ρ s => by dsimp only; unfold eVar; rw [List.getElem?_set_ne h, List.getElem?_set_ne h]
theorem ind_c {w : W} : IndE i fun _ => eC w := fun a ρ s => rfl
theorem ind_isX {b : Bool} : IndE i fun a => eIsX a i b := fun a ρ s => by
  dsimp only
  unfold eIsX
  by_cases h : i < ρ.length
  · rw [List.getElem?_set_self h, List.getElem?_set_self h]
    simp
  · rw [List.getElem?_eq_none (by rw [List.length_set]; omega), List.getElem?_eq_none (by rw [List.length_set]; omega)]
theorem ind_not {u : Addr → FE} (h : IndE i u) : IndE i fun a => eNot (u a) := fun a ρ s => by dsimp only; unfold eNot; rw [h a ρ s]
theorem bd_ext {α β : Type} {x : Rz α} {f g : α → Sto → Rz β} (h : ∀ a s, f a s = g a s) : bd x f = bd x g := by
  cases x with
  | none => rfl
  | some p => exact h _ _
theorem ind_and {u v : Addr → FE} (h : IndE i u) (g : IndE i v) : IndE i fun a => eAnd (u a) (v a) := fun a ρ s => by
  dsimp only; unfold eAnd; rw [h a ρ s]
  exact bd_ext fun x s1 => by rw [g a ρ s1]
theorem ind_or {u v : Addr → FE} (h : IndE i u) (g : IndE i v) : IndE i fun a => eOr (u a) (v a) := fun a ρ s => by
  dsimp only; unfold eOr; rw [h a ρ s]
  exact bd_ext fun x s1 => by rw [g a ρ s1]
theorem ind_if {t : Addr → FT} {u v : Addr → FE} (h0 : IndT i t) (h : IndE i u) (g : IndE i v) : IndE i fun a => eIf (t a) (u a) (v a) := fun a ρ s => by
  dsimp only; unfold eIf; rw [h0 a ρ s]
  exact bd_ext fun x s1 => by rw [g a ρ s1, h a ρ s1]
theorem ind_op {g0 : W → W → Sto → Rz W} {u v : Addr → FE} (h : IndE i u) (g : IndE i v) : IndE i fun a => eOp g0 (u a) (v a) := fun a ρ s => by
  dsimp only; unfold eOp; rw [h a ρ s]
  exact bd_ext fun x s1 => by rw [g a ρ s1]
theorem ind_tru {u : Addr → FE} (h : IndE i u) : IndT i fun a => bTruth (u a) := fun a ρ s => by dsimp only; unfold bTruth; rw [h a ρ s]
theorem ind_tst {u : Addr → FE} (h : IndE i u) : IndT i fun a => bTest (u a) := fun a ρ s => by dsimp only; unfold bTest; rw [h a ρ s]
theorem ind_tand {u v : Addr → FT} (h : IndT i u) (g : IndT i v) : IndT i fun a => bAnd (u a) (v a) := fun a ρ s => by
  dsimp only; unfold bAnd; rw [h a ρ s]
  exact bd_ext fun x s1 => by rw [g a ρ s1]
theorem ind_tor {u v : Addr → FT} (h : IndT i u) (g : IndT i v) : IndT i fun a => bOr (u a) (v a) := fun a ρ s => by
  dsimp only; unfold bOr; rw [h a ρ s]
  exact bd_ext fun x s1 => by rw [g a ρ s1]
theorem ind_tnot {u : Addr → FT} (h : IndT i u) : IndT i fun a => bNot (u a) := fun a ρ s => by dsimp only; unfold bNot; rw [h a ρ s]
theorem ind_ret {u : Addr → FE} (h : IndE i u) : IndS i fun a => sRet (u a) := fun a ρ s o s2 e => by
  refine ⟨o, ?_, rfl⟩
  dsimp only at e ⊢
  unfold sRet at e ⊢
  rw [h a ρ s]
  exact e
theorem ind_aug {g : W → W → Sto → Rz W} {u : Addr → FE} (hj : i ≠ j) (h : IndE i u) : IndS i fun a => sAug j g (u a) := fun a ρ s o s2 e => by
  dsimp only at e ⊢
  unfold sAug at e ⊢
  rw [List.getElem?_set_ne hj] at e ⊢
  split at e
  · rename_i x ex
    obtain ⟨y, s1, e1, e⟩ := bd_inv e
    obtain ⟨z, s3, e2, e⟩ := bd_inv e
    cases e
    refine ⟨.nx ((ρ.set i (some (.xob a))).set j (some z)), ?_, ?_⟩
    · rw [h a ρ s, e1, bd_some, e2, bd_some]
    · show Out.nx _ = Out.nx _
      rw [List.set_comm _ _ hj.symm, List.set_set, List.set_comm _ _ hj.symm, List.set_set]
  · cases e
end
structure KitA (K : PySem.W.Frag) (mg : Str → Option Value) (T : List (Str × Bool)) (h : Str) (B : List (Str × Bool)) : Prop where
  ok : ∀ c, hit T c = some true → KitT K mg c h ((hit B c).getD false)
structure ExcA (K : PySem.W.Frag) (T : List (Str × Bool)) : Prop where
  ok : ∀ c D, hit T c = some true → isC K c D → ExcC K D
theorem hit_mem {T : List (Str × Bool)} {c : Str} {b : Bool} (h : hit T c = some b) : (c, b) ∈ T := by
  unfold hit at h
  induction T with
  | nil => cases h
  | cons p r ih =>
    obtain ⟨x, y⟩ := p
    by_cases q : c == x
    · simp only [List.lookup, q] at h
      cases h
      rw [eq_of_beq q]
      exact List.mem_cons_self
    · have q' : (c == x) = false := by simpa using q
      simp only [List.lookup, q'] at h
      exact List.mem_cons_of_mem _ (ih h)
theorem kit_ref {K : PySem.W.Frag} {C D : Addr} {b : Bool} (hd : PySem.W.hasDictIn K C = true) (ht : PySem.W.typeIn K (.ref C) = some (.type "type")) (h : PySem.W.subIn K (.ref D) (.ref C) = some b) (hs : PySem.W.subIn K (.ref C) (.ref C) = some true) : PySem.W.kitOne K (.ref D) (.ref C) = some b := by
  obtain ⟨cd, hc, _⟩ := PySem.W.any_some hd
  have e2 : ((PySem.W.clsIn K C).isSome && PySem.W.typeIn K (.ref C) == some (.type "type")) = true := by rw [hc, ht] <;> rfl
  unfold PySem.W.kitOne
  by_cases q : ((Value.ref D) == (Value.ref C)) = true
  · rw [if_pos q]
    have e : D = C := Value.ref.inj (beq_iff_eq.mp q)
    rw [e, hs] at h
    exact h
  · rw [if_neg q]
    show (if ((PySem.W.clsIn K C).isSome && PySem.W.typeIn K (.ref C) == some (.type "type")) = true then PySem.W.subIn K (.ref D) (.ref C) else none) = some b
    rw [if_pos e2]
    exact h
end Mir

set_option Elab.async false
set_option linter.all false
set_option maxRecDepth 100000
namespace K72
open PySem PySem.Spec PyProof.Rows L2 Mir
def topS (i : Nat) : Stmt := PySem.Challenge.pw_shapewright_k72_blocks_of_the_heap.main.body.getD i (.Pass ⟨0, 0, 0, 0⟩)
abbrev sWordOfBlock : Stmt := topS 7
theorem scWordOfBlock : FnScope ["address"] ["address"] (defScope sWordOfBlock) := ⟨rfl, rfl, rfl, by decide +kernel, rfl, by decide +kernel, by decide +kernel⟩
abbrev sNamesBlock : Stmt := topS 8
theorem scNamesBlock : FnScope ["word"] ["word"] (defScope sNamesBlock) := ⟨rfl, rfl, rfl, by decide +kernel, rfl, by decide +kernel, by decide +kernel⟩
abbrev sAddressOf : Stmt := topS 9
theorem scAddressOf : FnScope ["word"] ["word"] (defScope sAddressOf) := ⟨rfl, rfl, rfl, by decide +kernel, rfl, by decide +kernel, by decide +kernel⟩
abbrev sLawMix : Stmt := topS 13
theorem scLawMix : FnScope ["number"] ["number"] (defScope sLawMix) := ⟨rfl, rfl, rfl, by decide +kernel, rfl, by decide +kernel, by decide +kernel⟩
abbrev sLawTape : Stmt := topS 14
theorem scLawTape : FnScope ["script", "budget"] ["script", "budget"] (defScope sLawTape) := ⟨rfl, rfl, rfl, by decide +kernel, rfl, by decide +kernel, by decide +kernel⟩
abbrev sLawTake : Stmt := topS 15
theorem scLawTake : FnScope ["tape", "many", "cell", "digit"] ["tape", "many"] (defScope sLawTake) := ⟨rfl, rfl, rfl, by decide +kernel, rfl, by decide +kernel, by decide +kernel⟩
abbrev sLawWord : Stmt := topS 16
theorem scLawWord : FnScope ["tape", "blocks", "draw"] ["tape", "blocks"] (defScope sLawWord) := ⟨rfl, rfl, rfl, by decide +kernel, rfl, by decide +kernel, by decide +kernel⟩
abbrev sLawMake : Stmt := topS 17
theorem scLawMake : FnScope ["tape", "heap", "model", "blocks", "cells", "fields", "kept", "enough", "told", "kind", "a", "b", "word", "wrong", "k"] ["tape", "heap", "model", "blocks", "cells"] (defScope sLawMake) := ⟨rfl, rfl, rfl, by decide +kernel, rfl, by decide +kernel, by decide +kernel⟩
abbrev sLawRefused : Stmt := topS 18
theorem scLawRefused : FnScope ["heap", "word", "i", "count", "wrong"] ["heap", "word", "i"] (defScope sLawRefused) := ⟨rfl, rfl, rfl, by decide +kernel, rfl, by decide +kernel, by decide +kernel⟩
abbrev sLawLook : Stmt := topS 19
theorem scLawLook : FnScope ["tape", "heap", "model", "blocks", "at", "word", "i", "bad"] ["tape", "heap", "model", "blocks"] (defScope sLawLook) := ⟨rfl, rfl, rfl, by decide +kernel, rfl, by decide +kernel, by decide +kernel⟩
abbrev sLaw : Stmt := topS 20
theorem scLaw : FnScope ["script", "tape", "cells", "heap", "second", "model", "blocks", "k", "fine"] ["script"] (defScope sLaw) := ⟨rfl, rfl, rfl, by decide +kernel, rfl, by decide +kernel, by decide +kernel⟩
abbrev sHeapInit : Stmt := (inClass (topS 11) 0)
theorem scHeapInit : FnScope ["self", "cells"] ["self", "cells"] (defScope sHeapInit) := ⟨rfl, rfl, rfl, by decide +kernel, rfl, by decide +kernel, by decide +kernel⟩
abbrev sHeapFits : Stmt := (inClass (topS 11) 1)
theorem scHeapFits : FnScope ["self", "n"] ["self", "n"] (defScope sHeapFits) := ⟨rfl, rfl, rfl, by decide +kernel, rfl, by decide +kernel, by decide +kernel⟩
abbrev sHeapMake : Stmt := (inClass (topS 11) 2)
theorem scHeapMake : FnScope ["self", "kind", "a", "b", "fields", "address"] ["self", "kind", "a", "b", "fields"] (defScope sHeapMake) := ⟨rfl, rfl, rfl, by decide +kernel, rfl, by decide +kernel, by decide +kernel⟩
abbrev sHeapHeader : Stmt := (inClass (topS 11) 3)
theorem scHeapHeader : FnScope ["self", "word", "address"] ["self", "word"] (defScope sHeapHeader) := ⟨rfl, rfl, rfl, by decide +kernel, rfl, by decide +kernel, by decide +kernel⟩
abbrev sHeapField : Stmt := (inClass (topS 11) 4)
theorem scHeapField : FnScope ["self", "word", "i"] ["self", "word", "i"] (defScope sHeapField) := ⟨rfl, rfl, rfl, by decide +kernel, rfl, by decide +kernel, by decide +kernel⟩
abbrev sHeapStoreField : Stmt := (inClass (topS 11) 5)
theorem scHeapStoreField : FnScope ["self", "word", "i", "value"] ["self", "word", "i", "value"] (defScope sHeapStoreField) := ⟨rfl, rfl, rfl, by decide +kernel, rfl, by decide +kernel, by decide +kernel⟩
abbrev sHeapBlockAddress : Stmt := (inClass (topS 11) 6)
theorem scHeapBlockAddress : FnScope ["self", "word"] ["self", "word"] (defScope sHeapBlockAddress) := ⟨rfl, rfl, rfl, by decide +kernel, rfl, by decide +kernel, by decide +kernel⟩
abbrev sHeapFieldAddress : Stmt := (inClass (topS 11) 7)
theorem scHeapFieldAddress : FnScope ["self", "word", "i", "address"] ["self", "word", "i"] (defScope sHeapFieldAddress) := ⟨rfl, rfl, rfl, by decide +kernel, rfl, by decide +kernel, by decide +kernel⟩
def HT_ShapewrightError : List (Str × Bool) := [("NoBlock", true), ("OutOfRoom", true)]
def HT_OutOfRoom : List (Str × Bool) := [("NoBlock", false), ("OutOfRoom", true)]
def HT_NoBlock : List (Str × Bool) := [("NoBlock", true), ("OutOfRoom", false)]
noncomputable def BWordOfBlock : FS := (sRet (eOp gAdd (eOp gMul (eC (.int 4)) (eVar 0)) (eC (.int 1))))
noncomputable def FWordOfBlock : List W → Sto → Rz W := mkF 1 1 BWordOfBlock
noncomputable def BNamesBlock : FS := (sRet (eOp gEq (eOp gMod (eVar 0) (eC (.int 4))) (eC (.int 1))))
noncomputable def FNamesBlock : List W → Sto → Rz W := mkF 1 1 BNamesBlock
noncomputable def BAddressOf : FS := (sRet (eOp gDiv (eVar 0) (eC (.int 4))))
noncomputable def FAddressOf : List W → Sto → Rz W := mkF 1 1 BAddressOf
noncomputable def BLawMix : FS := (sCons (sSet 0 (eOp gMod (eFn gInt1 (aCons (eOp gAdd (eOp gMul (eVar 0) (eC (.int 6364136223846793005))) (eC (.int 1442695040888963407))) aNil)) (eC (.int 18446744073709551616))))
    (sRet (eOp gMod (eFn gInt1 (aCons (eOp gAdd (eOp gDivW (eOp gMul (eVar 0) (eVar 0)) (eC (.int 4294967296))) (eOp gMul (eVar 0) (eC (.int 69621)))) aNil)) (eC (.int 18446744073709551557)))))
noncomputable def FLawMix : List W → Sto → Rz W := mkF 1 1 BLawMix
noncomputable def BLawTape : FS := (sRet (eLst (aCons (eFn gList (aCons (eVar 0) aNil)) (aCons (eC (.int 0)) (aCons (eC (.int 0)) (aCons (eC (.int 1)) (aCons (eVar 1) aNil)))))))
noncomputable def FLawTape : List W → Sto → Rz W := mkF 2 2 BLawTape
noncomputable def BLawTake : FS := (sCons (sIf (bTest (eOp gLt (eOp gIx (eVar 0) (eC (.int 2))) (eVar 1))) (sIf (bTest (eOp gLt (eOp gIx (eVar 0) (eC (.int 1))) (eFn gLen (aCons (eOp gIx (eVar 0) (eC (.int 0))) aNil)))) (sCons (sSet 2 (eOp gIx (eOp gIx (eVar 0) (eC (.int 0))) (eOp gIx (eVar 0) (eC (.int 1)))))
    (sCons (sSet 2 (eIf (bTest (eOp gGe (eVar 2) (eC (.int 0)))) (eOp gMul (eC (.int 2)) (eVar 2)) (eOp gSub (eOp gMul (eUn gNeg (eC (.int 2))) (eVar 2)) (eC (.int 1)))))
    (sCons (sPut (eVar 0) (eC (.int 1)) (eOp gAdd (eOp gIx (eVar 0) (eC (.int 1))) (eC (.int 1))))
    (sCons (sPut (eVar 0) (eC (.int 3)) (eFn FLawMix (aCons (eOp gAdd (eOp gIx (eVar 0) (eC (.int 3))) (eVar 2)) aNil)))
    (sPut (eVar 0) (eC (.int 2)) (eIf (bTest (eOp gGe (eVar 2) (eOp gPow (eC (.int 10)) (eC (.int 18))))) (eVar 2) (eFn FLawMix (aCons (eFn FLawMix (aCons (eVar 2) aNil)) aNil)))))))) (sCons (sPut (eVar 0) (eC (.int 3)) (eFn FLawMix (aCons (eOp gAdd (eOp gIx (eVar 0) (eC (.int 3))) (eC (.int 1))) aNil)))
    (sPut (eVar 0) (eC (.int 2)) (eOp gIx (eVar 0) (eC (.int 3)))))) sNil)
    (sCons (sSet 3 (eOp gMod (eFn gInt1 (aCons (eOp gIx (eVar 0) (eC (.int 2))) aNil)) (eVar 1)))
    (sCons (sPut (eVar 0) (eC (.int 2)) (eOp gDivW (eOp gIx (eVar 0) (eC (.int 2))) (eVar 1)))
    (sRet (eVar 3)))))
noncomputable def FLawTake : List W → Sto → Rz W := mkF 2 4 BLawTake
noncomputable def BLawWord : FS := (sCons (sSet 2 (eFn FLawTake (aCons (eVar 0) (aCons (eC (.int 5)) aNil))))
    (sCons (sIf (bAnd (bTest (eOp gLt (eVar 2) (eC (.int 3)))) (bTest (eOp gGt (eFn gLen (aCons (eVar 1) aNil)) (eC (.int 0))))) (sRet (eOp gAdd (eOp gMul (eC (.int 4)) (eOp gIx (eVar 1) (eFn FLawTake (aCons (eVar 0) (aCons (eFn gLen (aCons (eVar 1) aNil)) aNil))))) (eC (.int 1)))) sNil)
    (sCons (sIf (bTest (eOp gEq (eVar 2) (eC (.int 3)))) (sRet (eOp gAdd (eOp gMul (eC (.int 4)) (eOp gAdd (eOp gMul (eC (.int 16)) (eFn FLawTake (aCons (eVar 0) (aCons (eC (.int 5)) aNil)))) (eFn FLawTake (aCons (eVar 0) (aCons (eC (.int 12)) aNil))))) (eC (.int 2)))) sNil)
    (sRet (eIf (bAnd (bTest (eOp gEq (eVar 2) (eC (.int 4)))) (bTest (eOp gEq (eFn FLawTake (aCons (eVar 0) (aCons (eC (.int 2)) aNil))) (eC (.int 0))))) (eC (.int 3)) (eOp gMul (eC (.int 4)) (eOp gSub (eFn FLawTake (aCons (eVar 0) (aCons (eC (.int 100)) aNil))) (eC (.int 50)))))))))
noncomputable def FLawWord : List W → Sto → Rz W := mkF 2 3 BLawWord
noncomputable def BHeapFits : FS := (sRet (eOp gLe (eOp gAdd (eOp gAdd (eFn gLen (aCons (eFld "Heap" "words" (eVar 0)) aNil)) (eC (.int 4))) (eVar 1)) (eFld "Heap" "cells" (eVar 0))))
noncomputable def FHeapFits : List W → Sto → Rz W := mkF 2 2 BHeapFits
noncomputable def BHeapMake : FSX := (sConsX (sIfX (bNot (bTruth (eMeth "Heap" "fits" FHeapFits (eVar 0) (aCons (eFn gLen (aCons (eVar 4) aNil)) aNil)))) (sRaise "OutOfRoom") (sL sNil))
    (sConsX (sL (sSet 5 (eFn gLen (aCons (eFld "Heap" "words" (eVar 0)) aNil))))
    (sConsX (sL (sDput (eFld "Heap" "beginnings" (eVar 0)) (eVar 5) (eC (.bl true))))
    (sConsX (sL (sDo (eMt isL gExtend (eFld "Heap" "words" (eVar 0)) (aCons (eLst (aCons (eVar 1) (aCons (eVar 2) (aCons (eVar 3) (aCons (eFn gLen (aCons (eVar 4) aNil)) (aStar (eVar 4) aNil)))))) aNil))))
    (sL (sRet (eFn FWordOfBlock (aCons (eVar 5) aNil))))))))
noncomputable def FHeapMake : List W → Sto → RzX := mkFX 5 6 BHeapMake
noncomputable def BHeapBlockAddress : FSX := (sConsX (sIfX (bOr (bNot (bTruth (eFn FNamesBlock (aCons (eVar 1) aNil)))) (bTest (eDin true (eFn FAddressOf (aCons (eVar 1) aNil)) (eFld "Heap" "beginnings" (eVar 0))))) (sRaise "NoBlock") (sL sNil))
    (sL (sRet (eFn FAddressOf (aCons (eVar 1) aNil)))))
noncomputable def FHeapBlockAddress : List W → Sto → RzX := mkFX 2 2 BHeapBlockAddress
noncomputable def BHeapFieldAddress : FSX := (sConsX (sSetX 3 (eMethX "Heap" "block_address" FHeapBlockAddress (eVar 0) (aCons (eVar 1) aNil)))
    (sConsX (sIfX (bNot (bTest (eChain gLe gLt (eC (.int 0)) (eVar 2) (eOp gIx (eFld "Heap" "words" (eVar 0)) (eOp gSub (eOp gAdd (eVar 3) (eC (.int 4))) (eC (.int 1))))))) (sRaise "NoBlock") (sL sNil))
    (sL (sRet (eOp gAdd (eOp gAdd (eVar 3) (eC (.int 4))) (eVar 2))))))
noncomputable def FHeapFieldAddress : List W → Sto → RzX := mkFX 3 4 BHeapFieldAddress
noncomputable def BHeapField : FSX := (sRetX (eOpX gIx (eFld "Heap" "words" (eVar 0)) (eMethX "Heap" "field_address" FHeapFieldAddress (eVar 0) (aCons (eVar 1) (aCons (eVar 2) aNil)))))
noncomputable def FHeapField : List W → Sto → RzX := mkFX 3 3 BHeapField
noncomputable def BLawMake : FS := (sCons (sSet 5 (eLc [14] (iRng1 (eFn FLawTake (aCons (eVar 0) (aCons (eC (.int 5)) aNil)))) (.name 14) bYes (eFn FLawWord (aCons (eVar 0) (aCons (eVar 3) aNil)))))
    (sCons (sSet 6 (eFn gList (aCons (eVar 5) aNil)))
    (sCons (sSet 7 (eOp gLe (eOp gAdd (eOp gAdd (eFn gLen (aCons (eVar 2) aNil)) (eC (.int 4))) (eFn gLen (aCons (eVar 5) aNil))) (eVar 4)))
    (sCons (sSet 8 (eMeth "Heap" "fits" FHeapFits (eVar 1) (aCons (eFn gLen (aCons (eVar 5) aNil)) aNil)))
    (sCons (sIf (bOr (bNot (bTruth (eIsi "bool" (eVar 8)))) (bTest (eOp gNe (eVar 8) (eVar 7)))) (sRet (eC (.bl false))) sNil)
    (sCons (sSet 9 (eFn FLawTake (aCons (eVar 0) (aCons (eC (.int 7)) aNil))))
    (sCons (sSet 10 (eFn FLawTake (aCons (eVar 0) (aCons (eC (.int 9)) aNil))))
    (sCons (sSet 11 (eFn FLawTake (aCons (eVar 0) (aCons (eC (.int 12)) aNil))))
    (sCons (sTryAs HT_OutOfRoom 13 (sSetX 12 (eMethX "Heap" "make" FHeapMake (eVar 1) (aCons (eVar 9) (aCons (eVar 10) (aCons (eVar 11) (aCons (eVar 5) aNil)))))) (fun c a => (sRet (eAnd (eNot (eVar 7)) (eAnd (eIsX a 13 ((hit HT_ShapewrightError c).getD false)) (eNot (eIsX a 13 ((hit HT_NoBlock c).getD false))))))))
    (sCons (sIf (bOr (bNot (bTruth (eVar 7))) (bOr (bTest (eOp gNe (eVar 5) (eVar 6))) (bTest (eOp gNe (eVar 12) (eOp gAdd (eOp gMul (eC (.int 4)) (eFn gLen (aCons (eVar 2) aNil))) (eC (.int 1))))))) (sRet (eC (.bl false))) sNil)
    (sCons (sIf (bTest (eOp gGt (eFn gLen (aCons (eVar 5) aNil)) (eC (.int 0)))) (sCons (sPut (eVar 5) (eC (.int 0)) (eUn gNeg (eC (.int 4))))
    (sIf (bTest (eOp gNe (eDn (eMethX "Heap" "field" FHeapField (eVar 1) (aCons (eVar 12) (aCons (eC (.int 0)) aNil)))) (eOp gIx (eVar 6) (eC (.int 0))))) (sRet (eC (.bl false))) sNil)) sNil)
    (sCons (sDo (eMt isL gAppend (eVar 3) (aCons (eFn gLen (aCons (eVar 2) aNil)) aNil)))
    (sCons (sDo (eMt isL gExtend (eVar 2) (aCons (eLst (aCons (eVar 9) (aCons (eVar 10) (aCons (eVar 11) (aCons (eFn gLen (aCons (eVar 6) aNil)) aNil))))) aNil)))
    (sCons (sDo (eMt isL gExtend (eVar 2) (aCons (eVar 6) aNil)))
    (sRet (eC (.bl true)))))))))))))))))
noncomputable def FLawMake : List W → Sto → Rz W := mkF 5 15 BLawMake
noncomputable def BHeapHeader : FSX := (sConsX (sSetX 2 (eMethX "Heap" "block_address" FHeapBlockAddress (eVar 0) (aCons (eVar 1) aNil)))
    (sL (sRet (eFn gTuple (aCons (eSl gSlA (eFld "Heap" "words" (eVar 0)) (pAt (eVar 2)) (pAt (eOp gAdd (eVar 2) (eC (.int 4))))) aNil)))))
noncomputable def FHeapHeader : List W → Sto → RzX := mkFX 2 3 BHeapHeader
noncomputable def BHeapStoreField : FSX := (sPutX (eFld "Heap" "words" (eVar 0)) (eMethX "Heap" "field_address" FHeapFieldAddress (eVar 0) (aCons (eVar 1) (aCons (eVar 2) aNil))) (eVar 3))
noncomputable def FHeapStoreField : List W → Sto → RzX := mkFX 4 4 BHeapStoreField
noncomputable def BLawRefused : FS := (sCons (sSet 3 (eC (.int 0)))
    (sCons (sTry HT_NoBlock (sDoX (eMethX "Heap" "header" FHeapHeader (eVar 0) (aCons (eVar 1) aNil))) (sAug 3 gIAdd (eC (.int 1))))
    (sCons (sTry HT_NoBlock (sDoX (eMethX "Heap" "field" FHeapField (eVar 0) (aCons (eVar 1) (aCons (eVar 2) aNil)))) (sAug 3 gIAdd (eC (.int 1))))
    (sCons (sTryAs HT_NoBlock 4 (sDoX (eMethX "Heap" "store_field" FHeapStoreField (eVar 0) (aCons (eVar 1) (aCons (eVar 2) (aCons (eC (.int 0)) aNil))))) (fun c a => (sAug 3 gIAdd (eIf (bAnd (bTruth (eIsX a 4 ((hit HT_ShapewrightError c).getD false))) (bNot (bTruth (eIsX a 4 ((hit HT_OutOfRoom c).getD false))))) (eC (.int 1)) (eC (.int 0))))))
    (sRet (eVar 3))))))
noncomputable def FLawRefused : List W → Sto → Rz W := mkF 3 5 BLawRefused
noncomputable def BLawLook : FS := (sCons (sIf (bTest (eOp gEq (eFn gLen (aCons (eVar 3) aNil)) (eC (.int 0)))) (sRet (eAnd (eOp gEq (eFn FLawRefused (aCons (eVar 1) (aCons (eC (.int 1)) (aCons (eC (.int 0)) aNil)))) (eC (.int 3))) (eOp gEq (eFn FLawRefused (aCons (eVar 1) (aCons (eC (.int 3)) (aCons (eC (.int 0)) aNil)))) (eC (.int 3))))) sNil)
    (sCons (sSet 4 (eOp gIx (eVar 3) (eFn FLawTake (aCons (eVar 0) (aCons (eFn gLen (aCons (eVar 3) aNil)) aNil)))))
    (sCons (sSet 5 (eOp gAdd (eOp gMul (eC (.int 4)) (eVar 4)) (eC (.int 1))))
    (sCons (sIf (bTest (eOp gNe (eDn (eMethX "Heap" "header" FHeapHeader (eVar 1) (aCons (eVar 5) aNil))) (eFn gTuple (aCons (eSl gSlA (eVar 2) (pAt (eVar 4)) (pAt (eOp gAdd (eVar 4) (eC (.int 4))))) aNil)))) (sRet (eC (.bl false))) sNil)
    (sCons (sFor (iRng1 (eOp gIx (eVar 2) (eOp gAdd (eVar 4) (eC (.int 3))))) (.name 6) (sIf (bTest (eOp gNe (eDn (eMethX "Heap" "field" FHeapField (eVar 1) (aCons (eVar 5) (aCons (eVar 6) aNil)))) (eOp gIx (eVar 2) (eOp gAdd (eOp gAdd (eVar 4) (eC (.int 4))) (eVar 6))))) (sRet (eC (.bl false))) sNil))
    (sCons (sIf (bTest (eOp gGt (eOp gIx (eVar 2) (eOp gAdd (eVar 4) (eC (.int 3)))) (eC (.int 0)))) (sCons (sSet 6 (eFn FLawTake (aCons (eVar 0) (aCons (eOp gIx (eVar 2) (eOp gAdd (eVar 4) (eC (.int 3)))) aNil))))
    (sCons (sPut (eVar 2) (eOp gAdd (eOp gAdd (eVar 4) (eC (.int 4))) (eVar 6)) (eFn FLawWord (aCons (eVar 0) (aCons (eVar 3) aNil))))
    (sCons (sDo (eDn (eMethX "Heap" "store_field" FHeapStoreField (eVar 1) (aCons (eVar 5) (aCons (eVar 6) (aCons (eOp gIx (eVar 2) (eOp gAdd (eOp gAdd (eVar 4) (eC (.int 4))) (eVar 6))) aNil))))))
    (sIf (bTest (eOp gNe (eDn (eMethX "Heap" "field" FHeapField (eVar 1) (aCons (eVar 5) (aCons (eVar 6) aNil)))) (eOp gIx (eVar 2) (eOp gAdd (eOp gAdd (eVar 4) (eC (.int 4))) (eVar 6))))) (sRet (eC (.bl false))) sNil)))) sNil)
    (sCons (sSet 7 (eOp gIx (eLst (aCons (eOp gMul (eC (.int 4)) (eVar 4)) (aCons (eOp gAdd (eOp gMul (eC (.int 4)) (eVar 4)) (eC (.int 2))) (aCons (eC (.int 3)) (aCons (eOp gAdd (eOp gMul (eC (.int 4)) (eOp gAdd (eVar 4) (eC (.int 1)))) (eC (.int 1))) (aCons (eOp gAdd (eOp gMul (eC (.int 4)) (eFn gLen (aCons (eVar 2) aNil))) (eC (.int 1))) (aCons (eUn gNeg (eC (.int 3))) aNil))))))) (eFn FLawTake (aCons (eVar 0) (aCons (eC (.int 6)) aNil)))))
    (sRet (eAnd (eOp gEq (eFn FLawRefused (aCons (eVar 1) (aCons (eVar 7) (aCons (eC (.int 0)) aNil)))) (eC (.int 3))) (eAnd (eOp gEq (eFn FLawRefused (aCons (eVar 1) (aCons (eVar 5) (aCons (eOp gIx (eVar 2) (eOp gAdd (eVar 4) (eC (.int 3)))) aNil)))) (eC (.int 2))) (eOp gEq (eFn FLawRefused (aCons (eVar 1) (aCons (eVar 5) (aCons (eUn gNeg (eC (.int 1))) aNil)))) (eC (.int 2)))))))))))))
noncomputable def FLawLook : List W → Sto → Rz W := mkF 4 8 BLawLook
noncomputable def BHeapInit : FS := (sCons (sFldP "Heap" "cells" (eVar 0) (eVar 1))
    (sCons (sFldP "Heap" "words" (eVar 0) (eLst aNil))
    (sFldP "Heap" "beginnings" (eVar 0) eDnew)))
noncomputable def FHeapInit : List W → Sto → Rz W := mkF 2 2 BHeapInit
noncomputable def BLaw : FS := (sCons (sSet 1 (eFn FLawTape (aCons (eVar 0) (aCons (eC (.int 0)) aNil))))
    (sCons (sSet 2 (eFn FLawTake (aCons (eVar 1) (aCons (eC (.int 61)) aNil))))
    (sCons (sSet 3 (eMake "Heap" FHeapInit (aCons (eVar 2) aNil)))
    (sCons (sSet 4 (eMake "Heap" FHeapInit (aCons (eVar 2) aNil)))
    (sCons (sSet 5 (eLst aNil))
    (sCons (sSet 6 (eLst aNil))
    (sCons (sFor (iRng1 (eFn FLawTake (aCons (eVar 1) (aCons (eC (.int 16)) aNil)))) (.name 7) (sCons (sIf (bTest (eOp gGt (eFn FLawTake (aCons (eVar 1) (aCons (eC (.int 3)) aNil))) (eC (.int 0)))) (sSet 8 (eFn FLawMake (aCons (eVar 1) (aCons (eVar 3) (aCons (eVar 5) (aCons (eVar 6) (aCons (eVar 2) aNil))))))) (sSet 8 (eFn FLawLook (aCons (eVar 1) (aCons (eVar 3) (aCons (eVar 5) (aCons (eVar 6) aNil)))))))
    (sIf (bOr (bNot (bTruth (eVar 8))) (bOr (bTest (eOp gNe (eFld "Heap" "words" (eVar 3)) (eVar 5))) (bTest (eOp gNe (eFld "Heap" "cells" (eVar 3)) (eVar 2))))) (sRet (eC (.bl false))) sNil)))
    (sRet (eAnd (eOp gEq (eFld "Heap" "words" (eVar 4)) (eLst aNil)) (eOp gEq (eFld "Heap" "cells" (eVar 4)) (eVar 2)))))))))))
noncomputable def FLaw : List W → Sto → Rz W := mkF 1 9 BLaw
end K72

set_option Elab.async false
set_option linter.all false
set_option maxRecDepth 100000
namespace K72
open PySem PySem.Spec PyProof.Rows L2 Mir
theorem okWordOfBlock {P : Program} {w : World} {K : PySem.W.Frag} {mg : Str → Option Value} {base : Heap} {f : Addr} {fd : FuncData} {k : Nat} (F : Fun K "word_of_block" "word_of_block" sWordOfBlock f fd) (hb : Binds K fd ["address"] []) (hm : mg "word_of_block" = some (.ref f)) : Own P w K mg base (k + 1) "word_of_block" ["address"] FWordOfBlock :=
  own_of F scWordOfBlock hb hm fun cdv A outer s H E hr =>
    (mss_one (ms_ret (m_op op_addA f_add (m_op op_mulA f_mul m_int (m_var 0)) m_int)))
theorem okNamesBlock {P : Program} {w : World} {K : PySem.W.Frag} {mg : Str → Option Value} {base : Heap} {f : Addr} {fd : FuncData} {k : Nat} (F : Fun K "names_block" "names_block" sNamesBlock f fd) (hb : Binds K fd ["word"] []) (hm : mg "names_block" = some (.ref f)) : Own P w K mg base (k + 1) "names_block" ["word"] FNamesBlock :=
  own_of F scNamesBlock hb hm fun cdv A outer s H E hr =>
    (mss_one (ms_ret (m_cmp (op_eqA hr.units) f_eq (m_op op_mod f_mod (m_var 0) m_int) m_int (nomark _))))
theorem okAddressOf {P : Program} {w : World} {K : PySem.W.Frag} {mg : Str → Option Value} {base : Heap} {f : Addr} {fd : FuncData} {k : Nat} (F : Fun K "address_of" "address_of" sAddressOf f fd) (hb : Binds K fd ["word"] []) (hm : mg "address_of" = some (.ref f)) : Own P w K mg base (k + 1) "address_of" ["word"] FAddressOf :=
  own_of F scAddressOf hb hm fun cdv A outer s H E hr =>
    (mss_one (ms_ret (m_op op_fdiv f_div (m_var 0) m_int)))
theorem okLawMix {P : Program} {w : World} {K : PySem.W.Frag} {mg : Str → Option Value} {base : Heap} {f : Addr} {fd : FuncData} {k : Nat} (F : Fun K "_law_mix" "_law_mix" sLawMix f fd) (hb : Binds K fd ["number"] []) (hm : mg "_law_mix" = some (.ref f)) (nb_int : mg "int" = none) : Own P w K mg base (k + 1) "_law_mix" ["number"] FLawMix :=
  own_of F scLawMix hb hm fun cdv A outer s H E hr =>
    (mss_cons (ms_set (i := 0) scLawMix.nd rfl (.inl rfl) (m_op op_mod f_mod (m_callTy call_int1 f_int1 rfl nb_int (by decide +kernel) (ma_cons (m_op op_addA f_add (m_op op_mulA f_mul (m_var 0) m_int) m_int) ma_nil)) m_int))
    (mss_one (ms_ret (m_op op_mod f_mod (m_callTy call_int1 f_int1 rfl nb_int (by decide +kernel) (ma_cons (m_op op_addA f_add (m_op op_fdivW f_divW (m_op op_mulA f_mul (m_var 0) (m_var 0)) m_int) (m_op op_mulA f_mul (m_var 0) m_int)) ma_nil)) m_int))))
theorem okLawTape {P : Program} {w : World} {K : PySem.W.Frag} {mg : Str → Option Value} {base : Heap} {f : Addr} {fd : FuncData} {k : Nat} (F : Fun K "_law_tape" "_law_tape" sLawTape f fd) (hb : Binds K fd ["script", "budget"] []) (hm : mg "_law_tape" = some (.ref f)) (nb_list : mg "list" = none) : Own P w K mg base (k + 1) "_law_tape" ["script", "budget"] FLawTape :=
  own_of F scLawTape hb hm fun cdv A outer s H E hr =>
    (mss_one (ms_ret (m_lst (ma_cons (m_callTy call_list_of f_list rfl nb_list (by decide +kernel) (ma_cons (m_var 0) ma_nil)) (ma_cons m_int (ma_cons m_int (ma_cons m_int (ma_cons (m_var 1) ma_nil))))))))
theorem okLawTake {P : Program} {w : World} {K : PySem.W.Frag} {mg : Str → Option Value} {base : Heap} {f : Addr} {fd : FuncData} {k : Nat} (F : Fun K "_law_take" "_law_take" sLawTake f fd) (hb : Binds K fd ["tape", "many"] []) (hm : mg "_law_take" = some (.ref f)) (OLawMix : Own P w K mg base k "_law_mix" ["number"] FLawMix) (nb_int : mg "int" = none) (nb_len : mg "len" = none) : Own P w K mg base (k + 1) "_law_take" ["tape", "many"] FLawTake :=
  own_of F scLawTake hb hm fun cdv A outer s H E hr =>
    (mss_cons (ms_if (mt_cmp op_lt f_lt (m_ix ix_seq f_ix (m_var 0) m_int (fun _ _ => rfl)) (m_var 1) (nomark _)) (mss_one (ms_if (mt_cmp op_lt f_lt (m_ix ix_seq f_ix (m_var 0) m_int (fun _ _ => rfl)) (m_callB call_lenA f_len rfl nb_len (by decide +kernel) (ma_cons (m_ix ix_seq f_ix (m_var 0) m_int (fun _ _ => rfl)) ma_nil)) (nomark _)) (mss_cons (ms_set (i := 2) scLawTake.nd rfl (.inl rfl) (m_ix ix_seq f_ix (m_ix ix_seq f_ix (m_var 0) m_int (fun _ _ => rfl)) (m_ix ix_seq f_ix (m_var 0) m_int (fun _ _ => rfl)) (fun _ _ => rfl)))
    (mss_cons (ms_set (i := 2) scLawTake.nd rfl (.inl rfl) (m_if (mt_cmp op_ge f_ge (m_var 2) m_int (nomark _)) (m_op op_mulA f_mul m_int (m_var 2)) (m_op op_sub f_sub (m_op op_mulA f_mul (m_un un_neg f_neg m_int) (m_var 2)) m_int)))
    (mss_cons (ms_put (m_op op_addA f_add (m_ix ix_seq f_ix (m_var 0) m_int (fun _ _ => rfl)) m_int) (m_var 0) m_int)
    (mss_cons (ms_put (m_call OLawMix hr rfl (ma_cons (m_op op_addA f_add (m_ix ix_seq f_ix (m_var 0) m_int (fun _ _ => rfl)) (m_var 2)) ma_nil)) (m_var 0) m_int)
    (mss_one (ms_put (m_if (mt_cmp op_ge f_ge (m_var 2) (m_op op_pow f_pow m_int m_int) (nomark _)) (m_var 2) (m_call OLawMix hr rfl (ma_cons (m_call OLawMix hr rfl (ma_cons (m_var 2) ma_nil)) ma_nil))) (m_var 0) m_int)))))) (mss_cons (ms_put (m_call OLawMix hr rfl (ma_cons (m_op op_addA f_add (m_ix ix_seq f_ix (m_var 0) m_int (fun _ _ => rfl)) m_int) ma_nil)) (m_var 0) m_int)
    (mss_one (ms_put (m_ix ix_seq f_ix (m_var 0) m_int (fun _ _ => rfl)) (m_var 0) m_int))))) mss_nil)
    (mss_cons (ms_set (i := 3) scLawTake.nd rfl (.inl rfl) (m_op op_mod f_mod (m_callTy call_int1 f_int1 rfl nb_int (by decide +kernel) (ma_cons (m_ix ix_seq f_ix (m_var 0) m_int (fun _ _ => rfl)) ma_nil)) (m_var 1)))
    (mss_cons (ms_put (m_op op_fdivW f_divW (m_ix ix_seq f_ix (m_var 0) m_int (fun _ _ => rfl)) (m_var 1)) (m_var 0) m_int)
    (mss_one (ms_ret (m_var 3))))))
theorem okLawWord {P : Program} {w : World} {K : PySem.W.Frag} {mg : Str → Option Value} {base : Heap} {f : Addr} {fd : FuncData} {k : Nat} (F : Fun K "_law_word" "_law_word" sLawWord f fd) (hb : Binds K fd ["tape", "blocks"] []) (hm : mg "_law_word" = some (.ref f)) (OLawTake : Own P w K mg base k "_law_take" ["tape", "many"] FLawTake) (nb_len : mg "len" = none) : Own P w K mg base (k + 1) "_law_word" ["tape", "blocks"] FLawWord :=
  own_of F scLawWord hb hm fun cdv A outer s H E hr =>
    (mss_cons (ms_set (i := 2) scLawWord.nd rfl (.inl rfl) (m_call OLawTake hr rfl (ma_cons (m_var 0) (ma_cons m_int ma_nil))))
    (mss_cons (ms_if (PW.pt (mw_and (mt_cmp op_lt f_lt (m_var 2) m_int (nomark _)) (mw_and1 (mt_cmp op_gt f_gt (m_callB call_lenA f_len rfl nb_len (by decide +kernel) (ma_cons (m_var 1) ma_nil)) m_int (nomark _))))) (mss_one (ms_ret (m_op op_addA f_add (m_op op_mulA f_mul m_int (m_ix ix_seq f_ix (m_var 1) (m_call OLawTake hr rfl (ma_cons (m_var 0) (ma_cons (m_callB call_lenA f_len rfl nb_len (by decide +kernel) (ma_cons (m_var 1) ma_nil)) ma_nil))) (fun _ _ => rfl))) m_int))) mss_nil)
    (mss_cons (ms_if (mt_cmp (op_eqA hr.units) f_eq (m_var 2) m_int (nomark _)) (mss_one (ms_ret (m_op op_addA f_add (m_op op_mulA f_mul m_int (m_op op_addA f_add (m_op op_mulA f_mul m_int (m_call OLawTake hr rfl (ma_cons (m_var 0) (ma_cons m_int ma_nil)))) (m_call OLawTake hr rfl (ma_cons (m_var 0) (ma_cons m_int ma_nil))))) m_int))) mss_nil)
    (mss_one (ms_ret (m_if (PW.pt (mw_and (mt_cmp (op_eqA hr.units) f_eq (m_var 2) m_int (nomark _)) (mw_and1 (mt_cmp (op_eqA hr.units) f_eq (m_call OLawTake hr rfl (ma_cons (m_var 0) (ma_cons m_int ma_nil))) m_int (nomark _))))) m_int (m_op op_mulA f_mul m_int (m_op op_sub f_sub (m_call OLawTake hr rfl (ma_cons (m_var 0) (ma_cons m_int ma_nil))) m_int))))))))
theorem okHeapFits {P : Program} {w : World} {K : PySem.W.Frag} {mg : Str → Option Value} {base : Heap} {f C : Addr} {fd : FuncData} {k : Nat} (F : Fun K "fits" "Heap.fits" sHeapFits f fd) (hb : Binds K fd ["self", "n"] []) (hc : PySem.W.nsIn K mainGlobals "Heap" = some (some (.ref C))) (cl : Cls K C) (hm : Meth K C "fits" f) (cl_Heap : ClT K "Heap" ["beginnings", "cells", "words"]) (nb_len : mg "len" = none) (c_HEADER : Cst K mg "HEADER" (.int 4)) : OwnM P w K mg base (k + 1) "Heap" "fits" ["self", "n"] FHeapFits :=
  ownM_of F scHeapFits hb hc cl hm fun cdv A outer s H E hr =>
    (mss_one (ms_ret (m_cmp op_le f_le (m_op op_addA f_add (m_op op_addA f_add (m_callB call_lenA f_len rfl nb_len (by decide +kernel) (ma_cons (m_fld (c := "Heap") cl_Heap (by decide +kernel) (m_var 0)) ma_nil)) (m_glob c_HEADER rfl)) (m_var 1)) (m_fld (c := "Heap") cl_Heap (by decide +kernel) (m_var 0)) (nomark _))))
theorem okHeapMake {P : Program} {w : World} {K : PySem.W.Frag} {mg : Str → Option Value} {base : Heap} {f C : Addr} {fd : FuncData} {k : Nat} (F : Fun K "make" "Heap.make" sHeapMake f fd) (hb : Binds K fd ["self", "kind", "a", "b", "fields"] []) (hc : PySem.W.nsIn K mainGlobals "Heap" = some (some (.ref C))) (cl : Cls K C) (hm : Meth K C "make" f) (OWordOfBlock : Own P w K mg base k "word_of_block" ["address"] FWordOfBlock) (OHeapFits : OwnM P w K mg base k "Heap" "fits" ["self", "n"] FHeapFits) (cl_Heap : ClT K "Heap" ["beginnings", "cells", "words"]) {Cr_OutOfRoom : Addr} (rai_OutOfRoom : RaiT K mg "OutOfRoom" Cr_OutOfRoom) (nb_len : mg "len" = none) : OwnMX P w K mg base (k + 1) "Heap" "make" ["self", "kind", "a", "b", "fields"] FHeapMake :=
  ownMX_of F scHeapMake hb hc cl hm fun cdv A outer s H E hr tk =>
    (mxss_cons (mxs_if (mt_not (mt_truth (m_meth OHeapFits hr (m_var 0) (ma_cons (m_callB call_lenA f_len rfl nb_len (by decide +kernel) (ma_cons (m_var 4) ma_nil)) ma_nil)))) (mxss_one (mxs_raise rfl tk rai_OutOfRoom rfl)) mxss_nil)
    (mxss_cons (mxs_of (ms_set (i := 5) scHeapMake.nd rfl (.inl rfl) (m_callB call_lenA f_len rfl nb_len (by decide +kernel) (ma_cons (m_fld (c := "Heap") cl_Heap (by decide +kernel) (m_var 0)) ma_nil))))
    (mxss_cons (mxs_of (ms_dput (hu_of hr) (m_fld (c := "Heap") cl_Heap (by decide +kernel) (m_var 0)) (m_var 5) m_bl))
    (mxss_cons (mxs_of (ms_expr (m_extend (m_fld (c := "Heap") cl_Heap (by decide +kernel) (m_var 0)) (ma_cons (m_lst (ma_cons (m_var 1) (ma_cons (m_var 2) (ma_cons (m_var 3) (ma_cons (m_callB call_lenA f_len rfl nb_len (by decide +kernel) (ma_cons (m_var 4) ma_nil)) (ma_star (m_var 4) ma_nil)))))) ma_nil))))
    (mxss_one (mxs_of (ms_ret (m_call OWordOfBlock hr rfl (ma_cons (m_var 5) ma_nil)))))))))
theorem okHeapBlockAddress {P : Program} {w : World} {K : PySem.W.Frag} {mg : Str → Option Value} {base : Heap} {f C : Addr} {fd : FuncData} {k : Nat} (F : Fun K "block_address" "Heap.block_address" sHeapBlockAddress f fd) (hb : Binds K fd ["self", "word"] []) (hc : PySem.W.nsIn K mainGlobals "Heap" = some (some (.ref C))) (cl : Cls K C) (hm : Meth K C "block_address" f) (OAddressOf : Own P w K mg base k "address_of" ["word"] FAddressOf) (ONamesBlock : Own P w K mg base k "names_block" ["word"] FNamesBlock) (cl_Heap : ClT K "Heap" ["beginnings", "cells", "words"]) {Cr_NoBlock : Addr} (rai_NoBlock : RaiT K mg "NoBlock" Cr_NoBlock) : OwnMX P w K mg base (k + 1) "Heap" "block_address" ["self", "word"] FHeapBlockAddress :=
  ownMX_of F scHeapBlockAddress hb hc cl hm fun cdv A outer s H E hr tk =>
    (mxss_cons (mxs_if (PW.pt (mw_or (mt_not (mt_truth (m_call ONamesBlock hr rfl (ma_cons (m_var 1) ma_nil)))) (mw_or1 (mt_dnotin (hu_of hr) (m_call OAddressOf hr rfl (ma_cons (m_var 1) ma_nil)) (m_fld (c := "Heap") cl_Heap (by decide +kernel) (m_var 0)))))) (mxss_one (mxs_raise rfl tk rai_NoBlock rfl)) mxss_nil)
    (mxss_one (mxs_of (ms_ret (m_call OAddressOf hr rfl (ma_cons (m_var 1) ma_nil))))))
theorem okHeapFieldAddress {P : Program} {w : World} {K : PySem.W.Frag} {mg : Str → Option Value} {base : Heap} {f C : Addr} {fd : FuncData} {k : Nat} (F : Fun K "field_address" "Heap.field_address" sHeapFieldAddress f fd) (hb : Binds K fd ["self", "word", "i"] []) (hc : PySem.W.nsIn K mainGlobals "Heap" = some (some (.ref C))) (cl : Cls K C) (hm : Meth K C "field_address" f) (OHeapBlockAddress : OwnMX P w K mg base k "Heap" "block_address" ["self", "word"] FHeapBlockAddress) (cl_Heap : ClT K "Heap" ["beginnings", "cells", "words"]) {Cr_NoBlock : Addr} (rai_NoBlock : RaiT K mg "NoBlock" Cr_NoBlock) (c_HEADER : Cst K mg "HEADER" (.int 4)) : OwnMX P w K mg base (k + 1) "Heap" "field_address" ["self", "word", "i"] FHeapFieldAddress :=
  ownMX_of F scHeapFieldAddress hb hc cl hm fun cdv A outer s H E hr tk =>
    (mxss_cons (mxs_set (i := 3) scHeapFieldAddress.nd rfl (.inl rfl) (mx_meth OHeapBlockAddress hr tk (m_var 0) (ma_cons (m_var 1) ma_nil)))
    (mxss_cons (mxs_if (mt_not (mt_chain op_le op_lt f_le f_lt m_int (m_var 2) (m_ix ix_seq f_ix (m_fld (c := "Heap") cl_Heap (by decide +kernel) (m_var 0)) (m_op op_sub f_sub (m_op op_addA f_add (m_var 3) (m_glob c_HEADER rfl)) m_int) (fun _ _ => rfl)))) (mxss_one (mxs_raise rfl tk rai_NoBlock rfl)) mxss_nil)
    (mxss_one (mxs_of (ms_ret (m_op op_addA f_add (m_op op_addA f_add (m_var 3) (m_glob c_HEADER rfl)) (m_var 2)))))))
theorem okHeapField {P : Program} {w : World} {K : PySem.W.Frag} {mg : Str → Option Value} {base : Heap} {f C : Addr} {fd : FuncData} {k : Nat} (F : Fun K "field" "Heap.field" sHeapField f fd) (hb : Binds K fd ["self", "word", "i"] []) (hc : PySem.W.nsIn K mainGlobals "Heap" = some (some (.ref C))) (cl : Cls K C) (hm : Meth K C "field" f) (OHeapFieldAddress : OwnMX P w K mg base k "Heap" "field_address" ["self", "word", "i"] FHeapFieldAddress) (cl_Heap : ClT K "Heap" ["beginnings", "cells", "words"]) : OwnMX P w K mg base (k + 1) "Heap" "field" ["self", "word", "i"] FHeapField :=
  ownMX_of F scHeapField hb hc cl hm fun cdv A outer s H E hr tk =>
    (mxss_one (mxs_ret (mx_ix ix_seq f_ix (m_fld (c := "Heap") cl_Heap (by decide +kernel) (m_var 0)) (mx_meth OHeapFieldAddress hr tk (m_var 0) (ma_cons (m_var 1) (ma_cons (m_var 2) ma_nil))) (fun _ _ => rfl))))
theorem okLawMake {P : Program} {w : World} {K : PySem.W.Frag} {mg : Str → Option Value} {base : Heap} {f : Addr} {fd : FuncData} {k : Nat} (F : Fun K "_law_make" "_law_make" sLawMake f fd) (hb : Binds K fd ["tape", "heap", "model", "blocks", "cells"] []) (hm : mg "_law_make" = some (.ref f)) (OHeapField : OwnMX P w K mg base k "Heap" "field" ["self", "word", "i"] FHeapField) (OHeapMake : OwnMX P w K mg base k "Heap" "make" ["self", "kind", "a", "b", "fields"] FHeapMake) (OLawTake : Own P w K mg base k "_law_take" ["tape", "many"] FLawTake) (OHeapFits : OwnM P w K mg base k "Heap" "fits" ["self", "n"] FHeapFits) (OLawWord : Own P w K mg base k "_law_word" ["tape", "blocks"] FLawWord) {Ch_OutOfRoom : Addr} (hit_OutOfRoom : HitT K mg "OutOfRoom" HT_OutOfRoom Ch_OutOfRoom) (exc_OutOfRoom : ExcA K HT_OutOfRoom) (kit_OutOfRoom_NoBlock : KitA K mg HT_OutOfRoom "NoBlock" HT_NoBlock) (kit_OutOfRoom_ShapewrightError : KitA K mg HT_OutOfRoom "ShapewrightError" HT_ShapewrightError) (nb_bool : mg "bool" = none) (nb_isinstance : mg "isinstance" = none) (nb_len : mg "len" = none) (nb_list : mg "list" = none) (nb_range : mg "range" = none) : Own P w K mg base (k + 1) "_law_make" ["tape", "heap", "model", "blocks", "cells"] FLawMake :=
  own_of F scLawMake hb hm fun cdv A outer s H E hr =>
    (mss_cons (ms_setLc (i := 5) (own := [("k", 14)]) (t := (.name 14)) (u := bYes) (f := (eFn FLawWord (aCons (eVar 0) (aCons (eVar 3) aNil)))) (by decide) rfl scLawMake.nd rfl rfl (sw_true rfl rfl rfl (by decide +kernel)) (mi_rng1 rfl nb_range (m_call OLawTake hr rfl (ma_cons (m_var 0) (ma_cons m_int ma_nil)))) (blkOk_by (own := [("k", 14)]) (N := ["tape", "heap", "model", "blocks", "cells", "fields", "kept", "enough", "told", "kind", "a", "b", "word", "wrong", "k"]) (sc := defScope sLawMake) (by decide +kernel)) (fun _ _ _ _ _ => (pg_name (i := 14) scLawMake.nd rfl (.inl rfl))) (fun _ _ _ _ _ => mts_nil) (fun _ _ _ _ _ => (m_call OLawWord hr rfl (ma_cons (m_var 0) (ma_cons (m_var 3) ma_nil)))))
    (mss_cons (ms_set (i := 6) scLawMake.nd rfl (.inl rfl) (m_callTy call_list_of f_list rfl nb_list (by decide +kernel) (ma_cons (m_var 5) ma_nil)))
    (mss_cons (ms_set (i := 7) scLawMake.nd rfl (.inl rfl) (m_cmp op_le f_le (m_op op_addA f_add (m_op op_addA f_add (m_callB call_lenA f_len rfl nb_len (by decide +kernel) (ma_cons (m_var 2) ma_nil)) m_int) (m_callB call_lenA f_len rfl nb_len (by decide +kernel) (ma_cons (m_var 5) ma_nil))) (m_var 4) (nomark _)))
    (mss_cons (ms_set (i := 8) scLawMake.nd rfl (.inl rfl) (m_meth OHeapFits hr (m_var 1) (ma_cons (m_callB call_lenA f_len rfl nb_len (by decide +kernel) (ma_cons (m_var 5) ma_nil)) ma_nil)))
    (mss_cons (ms_if (PW.pt (mw_or (mt_not (mt_truth (m_isi kit_bool rfl nb_isinstance rfl nb_bool (by decide +kernel) (m_var 8)))) (mw_or1 (mt_cmp (op_neA hr.units) f_ne (m_var 8) (m_var 7) (nomark _))))) (mss_one (ms_ret m_bl)) mss_nil)
    (mss_cons (ms_set (i := 9) scLawMake.nd rfl (.inl rfl) (m_call OLawTake hr rfl (ma_cons (m_var 0) (ma_cons m_int ma_nil))))
    (mss_cons (ms_set (i := 10) scLawMake.nd rfl (.inl rfl) (m_call OLawTake hr rfl (ma_cons (m_var 0) (ma_cons m_int ma_nil))))
    (mss_cons (ms_set (i := 11) scLawMake.nd rfl (.inl rfl) (m_call OLawTake hr rfl (ma_cons (m_var 0) (ma_cons m_int ma_nil))))
    (mss_cons (ms_tryAs (i := 13) rfl rfl scLawMake.nd rfl rfl hit_OutOfRoom rfl (fun c => by (try dsimp only); (repeat first | with_reducible apply ind_ret | with_reducible apply ind_aug | with_reducible exact ind_isX | with_reducible exact ind_var (by decide) | with_reducible exact ind_c | with_reducible apply ind_not | with_reducible apply ind_and | with_reducible apply ind_or | with_reducible apply ind_if | with_reducible apply ind_tand | with_reducible apply ind_tor | with_reducible apply ind_tnot | with_reducible apply ind_tru | with_reducible apply ind_tst | with_reducible apply ind_op | decide)) (fun W' pn xe tk _ => (mxss_one (mxs_set (i := 12) scLawMake.nd rfl (.inl rfl) (mx_meth OHeapMake hr tk (m_var 1) (ma_cons (m_var 9) (ma_cons (m_var 10) (ma_cons (m_var 11) (ma_cons (m_var 5) ma_nil)))))))) (fun a oe cls d pn hz hf => by refine suite_by (X := (cxOf CX0 P w K mg base ["tape", "heap", "model", "blocks", "cells", "fields", "kept", "enough", "told", "kind", "a", "b", "word", "wrong", "k"] "_law_make" (defScope sLawMake) f cdv A outer s H E).nox) (T := HT_OutOfRoom) (fs := fun c a => (sRet (eAnd (eNot (eVar 7)) (eAnd (eIsX a 13 ((hit HT_ShapewrightError c).getD false)) (eNot (eIsX a 13 ((hit HT_NoBlock c).getD false))))))) (a := a) (pn := pn) hz fun c C hc ht hz => ?_; exact (mss_one (ms_ret (m_and (m_not (m_var 7)) (m_and (m_isX (X := (cxOf CX0 P w K mg base ["tape", "heap", "model", "blocks", "cells", "fields", "kept", "enough", "told", "kind", "a", "b", "word", "wrong", "k"] "_law_make" (defScope sLawMake) f cdv A outer s H E).nox) (a := a) (pn := pn) (exc_OutOfRoom.ok c C ht hc) hz hf hc (kit_OutOfRoom_ShapewrightError.ok c ht) 13 rfl nb_isinstance (by rfl) (by rfl)) (m_one (m_not (m_isX (X := (cxOf CX0 P w K mg base ["tape", "heap", "model", "blocks", "cells", "fields", "kept", "enough", "told", "kind", "a", "b", "word", "wrong", "k"] "_law_make" (defScope sLawMake) f cdv A outer s H E).nox) (a := a) (pn := pn) (exc_OutOfRoom.ok c C ht hc) hz hf hc (kit_OutOfRoom_NoBlock.ok c ht) 13 rfl nb_isinstance (by rfl) (by rfl))))))))))
    (mss_cons (ms_if (PW.pt (mw_or (mt_not (mt_truth (m_var 7))) (mw_or (mt_cmp (op_neA hr.units) f_ne (m_var 5) (m_var 6) (nomark _)) (mw_or1 (mt_cmp (op_neA hr.units) f_ne (m_var 12) (m_op op_addA f_add (m_op op_mulA f_mul m_int (m_callB call_lenA f_len rfl nb_len (by decide +kernel) (ma_cons (m_var 2) ma_nil))) m_int) (nomark _)))))) (mss_one (ms_ret m_bl)) mss_nil)
    (mss_cons (ms_if (mt_cmp op_gt f_gt (m_callB call_lenA f_len rfl nb_len (by decide +kernel) (ma_cons (m_var 5) ma_nil)) m_int (nomark _)) (mss_cons (ms_put (m_un un_neg f_neg m_int) (m_var 5) m_int)
    (mss_one (ms_if (mt_cmp (op_neA hr.units) f_ne (m_dn (mx_meth OHeapField hr takes0 (m_var 1) (ma_cons (m_var 12) (ma_cons m_int ma_nil)))) (m_ix ix_seq f_ix (m_var 6) m_int (fun _ _ => rfl)) (nomark _)) (mss_one (ms_ret m_bl)) mss_nil))) mss_nil)
    (mss_cons (ms_expr (m_append (m_var 3) (ma_cons (m_callB call_lenA f_len rfl nb_len (by decide +kernel) (ma_cons (m_var 2) ma_nil)) ma_nil)))
    (mss_cons (ms_expr (m_extend (m_var 2) (ma_cons (m_lst (ma_cons (m_var 9) (ma_cons (m_var 10) (ma_cons (m_var 11) (ma_cons (m_callB call_lenA f_len rfl nb_len (by decide +kernel) (ma_cons (m_var 6) ma_nil)) ma_nil))))) ma_nil)))
    (mss_cons (ms_expr (m_extend (m_var 2) (ma_cons (m_var 6) ma_nil)))
    (mss_one (ms_ret m_bl))))))))))))))))
theorem okHeapHeader {P : Program} {w : World} {K : PySem.W.Frag} {mg : Str → Option Value} {base : Heap} {f C : Addr} {fd : FuncData} {k : Nat} (F : Fun K "header" "Heap.header" sHeapHeader f fd) (hb : Binds K fd ["self", "word"] []) (hc : PySem.W.nsIn K mainGlobals "Heap" = some (some (.ref C))) (cl : Cls K C) (hm : Meth K C "header" f) (OHeapBlockAddress : OwnMX P w K mg base k "Heap" "block_address" ["self", "word"] FHeapBlockAddress) (cl_Heap : ClT K "Heap" ["beginnings", "cells", "words"]) (nb_tuple : mg "tuple" = none) (c_HEADER : Cst K mg "HEADER" (.int 4)) : OwnMX P w K mg base (k + 1) "Heap" "header" ["self", "word"] FHeapHeader :=
  ownMX_of F scHeapHeader hb hc cl hm fun cdv A outer s H E hr tk =>
    (mxss_cons (mxs_set (i := 2) scHeapHeader.nd rfl (.inl rfl) (mx_meth OHeapBlockAddress hr tk (m_var 0) (ma_cons (m_var 1) ma_nil)))
    (mxss_one (mxs_of (ms_ret (m_callTy call_tuple_of f_tuple rfl nb_tuple (by decide +kernel) (ma_cons (m_slice sl_any f_sl (m_fld (c := "Heap") cl_Heap (by decide +kernel) (m_var 0)) (mp_some (m_var 2)) (mp_some (m_op op_addA f_add (m_var 2) (m_glob c_HEADER rfl)))) ma_nil))))))
theorem okHeapStoreField {P : Program} {w : World} {K : PySem.W.Frag} {mg : Str → Option Value} {base : Heap} {f C : Addr} {fd : FuncData} {k : Nat} (F : Fun K "store_field" "Heap.store_field" sHeapStoreField f fd) (hb : Binds K fd ["self", "word", "i", "value"] []) (hc : PySem.W.nsIn K mainGlobals "Heap" = some (some (.ref C))) (cl : Cls K C) (hm : Meth K C "store_field" f) (OHeapFieldAddress : OwnMX P w K mg base k "Heap" "field_address" ["self", "word", "i"] FHeapFieldAddress) (cl_Heap : ClT K "Heap" ["beginnings", "cells", "words"]) : OwnMX P w K mg base (k + 1) "Heap" "store_field" ["self", "word", "i", "value"] FHeapStoreField :=
  ownMX_of F scHeapStoreField hb hc cl hm fun cdv A outer s H E hr tk =>
    (mxss_one (mxs_put (m_var 3) (m_fld (c := "Heap") cl_Heap (by decide +kernel) (m_var 0)) (mx_meth OHeapFieldAddress hr tk (m_var 0) (ma_cons (m_var 1) (ma_cons (m_var 2) ma_nil)))))
theorem okLawRefused {P : Program} {w : World} {K : PySem.W.Frag} {mg : Str → Option Value} {base : Heap} {f : Addr} {fd : FuncData} {k : Nat} (F : Fun K "_law_refused" "_law_refused" sLawRefused f fd) (hb : Binds K fd ["heap", "word", "i"] []) (hm : mg "_law_refused" = some (.ref f)) (OHeapStoreField : OwnMX P w K mg base k "Heap" "store_field" ["self", "word", "i", "value"] FHeapStoreField) (OHeapField : OwnMX P w K mg base k "Heap" "field" ["self", "word", "i"] FHeapField) (OHeapHeader : OwnMX P w K mg base k "Heap" "header" ["self", "word"] FHeapHeader) {Ch_NoBlock : Addr} (hit_NoBlock : HitT K mg "NoBlock" HT_NoBlock Ch_NoBlock) (exc_NoBlock : ExcA K HT_NoBlock) (kit_NoBlock_OutOfRoom : KitA K mg HT_NoBlock "OutOfRoom" HT_OutOfRoom) (kit_NoBlock_ShapewrightError : KitA K mg HT_NoBlock "ShapewrightError" HT_ShapewrightError) (nb_isinstance : mg "isinstance" = none) : Own P w K mg base (k + 1) "_law_refused" ["heap", "word", "i"] FLawRefused :=
  own_of F scLawRefused hb hm fun cdv A outer s H E hr =>
    (mss_cons (ms_set (i := 3) scLawRefused.nd rfl (.inl rfl) m_int)
    (mss_cons (ms_try rfl rfl hit_NoBlock rfl (fun W' pn xe tk _ => (mxss_one (mxs_expr (mx_meth OHeapHeader hr tk (m_var 0) (ma_cons (m_var 1) ma_nil))))) (fun a oe pn => (mss_one (ms_aug (i := 3) scLawRefused.nd rfl (.inl rfl) m_int ip_addA f_iadd))))
    (mss_cons (ms_try rfl rfl hit_NoBlock rfl (fun W' pn xe tk _ => (mxss_one (mxs_expr (mx_meth OHeapField hr tk (m_var 0) (ma_cons (m_var 1) (ma_cons (m_var 2) ma_nil)))))) (fun a oe pn => (mss_one (ms_aug (i := 3) scLawRefused.nd rfl (.inl rfl) m_int ip_addA f_iadd))))
    (mss_cons (ms_tryAs (i := 4) rfl rfl scLawRefused.nd rfl rfl hit_NoBlock rfl (fun c => by (try dsimp only); (repeat first | with_reducible apply ind_ret | with_reducible apply ind_aug | with_reducible exact ind_isX | with_reducible exact ind_var (by decide) | with_reducible exact ind_c | with_reducible apply ind_not | with_reducible apply ind_and | with_reducible apply ind_or | with_reducible apply ind_if | with_reducible apply ind_tand | with_reducible apply ind_tor | with_reducible apply ind_tnot | with_reducible apply ind_tru | with_reducible apply ind_tst | with_reducible apply ind_op | decide)) (fun W' pn xe tk _ => (mxss_one (mxs_expr (mx_meth OHeapStoreField hr tk (m_var 0) (ma_cons (m_var 1) (ma_cons (m_var 2) (ma_cons m_int ma_nil))))))) (fun a oe cls d pn hz hf => by refine suite_by (X := (cxOf CX0 P w K mg base ["heap", "word", "i", "count", "wrong"] "_law_refused" (defScope sLawRefused) f cdv A outer s H E).nox) (T := HT_NoBlock) (fs := fun c a => (sAug 3 gIAdd (eIf (bAnd (bTruth (eIsX a 4 ((hit HT_ShapewrightError c).getD false))) (bNot (bTruth (eIsX a 4 ((hit HT_OutOfRoom c).getD false))))) (eC (.int 1)) (eC (.int 0))))) (a := a) (pn := pn) hz fun c C hc ht hz => ?_; exact (mss_one (ms_aug (i := 3) scLawRefused.nd rfl (.inl rfl) (m_if (PW.pt (mw_and (mt_truth (m_isX (X := (cxOf CX0 P w K mg base ["heap", "word", "i", "count", "wrong"] "_law_refused" (defScope sLawRefused) f cdv A outer s H E).nox) (a := a) (pn := pn) (exc_NoBlock.ok c C ht hc) hz hf hc (kit_NoBlock_ShapewrightError.ok c ht) 4 rfl nb_isinstance (by rfl) (by rfl))) (mw_and1 (mt_not (mt_truth (m_isX (X := (cxOf CX0 P w K mg base ["heap", "word", "i", "count", "wrong"] "_law_refused" (defScope sLawRefused) f cdv A outer s H E).nox) (a := a) (pn := pn) (exc_NoBlock.ok c C ht hc) hz hf hc (kit_NoBlock_OutOfRoom.ok c ht) 4 rfl nb_isinstance (by rfl) (by rfl))))))) m_int m_int) ip_addA f_iadd))))
    (mss_one (ms_ret (m_var 3)))))))
theorem okLawLook {P : Program} {w : World} {K : PySem.W.Frag} {mg : Str → Option Value} {base : Heap} {f : Addr} {fd : FuncData} {k : Nat} (F : Fun K "_law_look" "_law_look" sLawLook f fd) (hb : Binds K fd ["tape", "heap", "model", "blocks"] []) (hm : mg "_law_look" = some (.ref f)) (OLawRefused : Own P w K mg base k "_law_refused" ["heap", "word", "i"] FLawRefused) (OLawTake : Own P w K mg base k "_law_take" ["tape", "many"] FLawTake) (OHeapField : OwnMX P w K mg base k "Heap" "field" ["self", "word", "i"] FHeapField) (OHeapStoreField : OwnMX P w K mg base k "Heap" "store_field" ["self", "word", "i", "value"] FHeapStoreField) (OLawWord : Own P w K mg base k "_law_word" ["tape", "blocks"] FLawWord) (OHeapHeader : OwnMX P w K mg base k "Heap" "header" ["self", "word"] FHeapHeader) (nb_len : mg "len" = none) (nb_range : mg "range" = none) (nb_tuple : mg "tuple" = none) : Own P w K mg base (k + 1) "_law_look" ["tape", "heap", "model", "blocks"] FLawLook :=
  own_of F scLawLook hb hm fun cdv A outer s H E hr =>
    (mss_cons (ms_if (mt_cmp (op_eqA hr.units) f_eq (m_callB call_lenA f_len rfl nb_len (by decide +kernel) (ma_cons (m_var 3) ma_nil)) m_int (nomark _)) (mss_one (ms_ret (m_and (m_cmp (op_eqA hr.units) f_eq (m_call OLawRefused hr rfl (ma_cons (m_var 1) (ma_cons m_int (ma_cons m_int ma_nil)))) m_int (nomark _)) (m_one (m_cmp (op_eqA hr.units) f_eq (m_call OLawRefused hr rfl (ma_cons (m_var 1) (ma_cons m_int (ma_cons m_int ma_nil)))) m_int (nomark _)))))) mss_nil)
    (mss_cons (ms_set (i := 4) scLawLook.nd rfl (.inl rfl) (m_ix ix_seq f_ix (m_var 3) (m_call OLawTake hr rfl (ma_cons (m_var 0) (ma_cons (m_callB call_lenA f_len rfl nb_len (by decide +kernel) (ma_cons (m_var 3) ma_nil)) ma_nil))) (fun _ _ => rfl)))
    (mss_cons (ms_set (i := 5) scLawLook.nd rfl (.inl rfl) (m_op op_addA f_add (m_op op_mulA f_mul m_int (m_var 4)) m_int))
    (mss_cons (ms_if (mt_cmp (op_neA hr.units) f_ne (m_dn (mx_meth OHeapHeader hr takes0 (m_var 1) (ma_cons (m_var 5) ma_nil))) (m_callTy call_tuple_of f_tuple rfl nb_tuple (by decide +kernel) (ma_cons (m_slice sl_any f_sl (m_var 2) (mp_some (m_var 4)) (mp_some (m_op op_addA f_add (m_var 4) m_int))) ma_nil)) (nomark _)) (mss_one (ms_ret m_bl)) mss_nil)
    (mss_cons (ms_for (t := (.name 6)) PassesOwn.never rfl (mi_rng1 rfl nb_range (m_ix ix_seq f_ix (m_var 2) (m_op op_addA f_add (m_var 4) m_int) (fun _ _ => rfl))) (pg_name (i := 6) scLawLook.nd rfl (.inl rfl)) (mss_one (ms_if (mt_cmp (op_neA hr.units) f_ne (m_dn (mx_meth OHeapField hr takes0 (m_var 1) (ma_cons (m_var 5) (ma_cons (m_var 6) ma_nil)))) (m_ix ix_seq f_ix (m_var 2) (m_op op_addA f_add (m_op op_addA f_add (m_var 4) m_int) (m_var 6)) (fun _ _ => rfl)) (nomark _)) (mss_one (ms_ret m_bl)) mss_nil)))
    (mss_cons (ms_if (mt_cmp op_gt f_gt (m_ix ix_seq f_ix (m_var 2) (m_op op_addA f_add (m_var 4) m_int) (fun _ _ => rfl)) m_int (nomark _)) (mss_cons (ms_set (i := 6) scLawLook.nd rfl (.inl rfl) (m_call OLawTake hr rfl (ma_cons (m_var 0) (ma_cons (m_ix ix_seq f_ix (m_var 2) (m_op op_addA f_add (m_var 4) m_int) (fun _ _ => rfl)) ma_nil))))
    (mss_cons (ms_put (m_call OLawWord hr rfl (ma_cons (m_var 0) (ma_cons (m_var 3) ma_nil))) (m_var 2) (m_op op_addA f_add (m_op op_addA f_add (m_var 4) m_int) (m_var 6)))
    (mss_cons (ms_expr (m_dn (mx_meth OHeapStoreField hr takes0 (m_var 1) (ma_cons (m_var 5) (ma_cons (m_var 6) (ma_cons (m_ix ix_seq f_ix (m_var 2) (m_op op_addA f_add (m_op op_addA f_add (m_var 4) m_int) (m_var 6)) (fun _ _ => rfl)) ma_nil))))))
    (mss_one (ms_if (mt_cmp (op_neA hr.units) f_ne (m_dn (mx_meth OHeapField hr takes0 (m_var 1) (ma_cons (m_var 5) (ma_cons (m_var 6) ma_nil)))) (m_ix ix_seq f_ix (m_var 2) (m_op op_addA f_add (m_op op_addA f_add (m_var 4) m_int) (m_var 6)) (fun _ _ => rfl)) (nomark _)) (mss_one (ms_ret m_bl)) mss_nil))))) mss_nil)
    (mss_cons (ms_set (i := 7) scLawLook.nd rfl (.inl rfl) (m_ix ix_seq f_ix (m_lst (ma_cons (m_op op_mulA f_mul m_int (m_var 4)) (ma_cons (m_op op_addA f_add (m_op op_mulA f_mul m_int (m_var 4)) m_int) (ma_cons m_int (ma_cons (m_op op_addA f_add (m_op op_mulA f_mul m_int (m_op op_addA f_add (m_var 4) m_int)) m_int) (ma_cons (m_op op_addA f_add (m_op op_mulA f_mul m_int (m_callB call_lenA f_len rfl nb_len (by decide +kernel) (ma_cons (m_var 2) ma_nil))) m_int) (ma_cons (m_un un_neg f_neg m_int) ma_nil))))))) (m_call OLawTake hr rfl (ma_cons (m_var 0) (ma_cons m_int ma_nil))) (fun _ _ => rfl)))
    (mss_one (ms_ret (m_and (m_cmp (op_eqA hr.units) f_eq (m_call OLawRefused hr rfl (ma_cons (m_var 1) (ma_cons (m_var 7) (ma_cons m_int ma_nil)))) m_int (nomark _)) (m_and (m_cmp (op_eqA hr.units) f_eq (m_call OLawRefused hr rfl (ma_cons (m_var 1) (ma_cons (m_var 5) (ma_cons (m_ix ix_seq f_ix (m_var 2) (m_op op_addA f_add (m_var 4) m_int) (fun _ _ => rfl)) ma_nil)))) m_int (nomark _)) (m_one (m_cmp (op_eqA hr.units) f_eq (m_call OLawRefused hr rfl (ma_cons (m_var 1) (ma_cons (m_var 5) (ma_cons (m_un un_neg f_neg m_int) ma_nil)))) m_int (nomark _))))))))))))))
theorem okHeapInit {P : Program} {w : World} {K : PySem.W.Frag} {mg : Str → Option Value} {base : Heap} {f C : Addr} {fd : FuncData} {k : Nat} (F : Fun K "__init__" "Heap.__init__" sHeapInit f fd) (hb : Binds K fd ["self", "cells"] []) (hc : PySem.W.nsIn K mainGlobals "Heap" = some (some (.ref C))) (hg : mg "Heap" = some (.ref C)) (M : Mk K C f) (cl_Heap : ClT K "Heap" ["beginnings", "cells", "words"]) : OwnC P w K mg base (k + 2) "Heap" ["self", "cells"] FHeapInit :=
  ownC_of F scHeapInit hb hc hg M fun cdv A outer s H E hr =>
    (mss_cons (ms_fld (c := "Heap") cl_Heap (by decide +kernel) (m_var 0) (m_var 1))
    (mss_cons (ms_fld (c := "Heap") cl_Heap (by decide +kernel) (m_var 0) (m_lst ma_nil))
    (mss_one (ms_fld (c := "Heap") cl_Heap (by decide +kernel) (m_var 0) m_dnew))))
theorem okLaw {P : Program} {w : World} {K : PySem.W.Frag} {mg : Str → Option Value} {base : Heap} {f : Addr} {fd : FuncData} {k : Nat} (F : Fun K "law" "law" sLaw f fd) (OLawTake : Own P w K mg base k "_law_take" ["tape", "many"] FLawTake) (OLawMake : Own P w K mg base k "_law_make" ["tape", "heap", "model", "blocks", "cells"] FLawMake) (OLawLook : Own P w K mg base k "_law_look" ["tape", "heap", "model", "blocks"] FLawLook) (OHeapInit : OwnC P w K mg base k "Heap" ["self", "cells"] FHeapInit) (OLawTape : Own P w K mg base k "_law_tape" ["script", "budget"] FLawTape) (cl_Heap : ClT K "Heap" ["beginnings", "cells", "words"]) (nb_range : mg "range" = none) : FnOk P w K mg base CX0 (k + 1) f fd ["script"] (spF K 1 FLaw) :=
  fnm_of F scLaw fun cdv A outer s H E hr =>
    (mss_cons (ms_set (i := 1) scLaw.nd rfl (.inl rfl) (m_call OLawTape hr rfl (ma_cons (m_var 0) (ma_cons m_int ma_nil))))
    (mss_cons (ms_set (i := 2) scLaw.nd rfl (.inl rfl) (m_call OLawTake hr rfl (ma_cons (m_var 1) (ma_cons m_int ma_nil))))
    (mss_cons (ms_set (i := 3) scLaw.nd rfl (.inl rfl) (m_make OHeapInit hr rfl (ma_cons (m_var 2) ma_nil)))
    (mss_cons (ms_set (i := 4) scLaw.nd rfl (.inl rfl) (m_make OHeapInit hr rfl (ma_cons (m_var 2) ma_nil)))
    (mss_cons (ms_set (i := 5) scLaw.nd rfl (.inl rfl) (m_lst ma_nil))
    (mss_cons (ms_set (i := 6) scLaw.nd rfl (.inl rfl) (m_lst ma_nil))
    (mss_cons (ms_for (t := (.name 7)) PassesOwn.never rfl (mi_rng1 rfl nb_range (m_call OLawTake hr rfl (ma_cons (m_var 1) (ma_cons m_int ma_nil)))) (pg_name (i := 7) scLaw.nd rfl (.inl rfl)) (mss_cons (ms_if (mt_cmp op_gt f_gt (m_call OLawTake hr rfl (ma_cons (m_var 1) (ma_cons m_int ma_nil))) m_int (nomark _)) (mss_one (ms_set (i := 8) scLaw.nd rfl (.inl rfl) (m_call OLawMake hr rfl (ma_cons (m_var 1) (ma_cons (m_var 3) (ma_cons (m_var 5) (ma_cons (m_var 6) (ma_cons (m_var 2) ma_nil)))))))) (mss_one (ms_set (i := 8) scLaw.nd rfl (.inl rfl) (m_call OLawLook hr rfl (ma_cons (m_var 1) (ma_cons (m_var 3) (ma_cons (m_var 5) (ma_cons (m_var 6) ma_nil))))))))
    (mss_one (ms_if (PW.pt (mw_or (mt_not (mt_truth (m_var 8))) (mw_or (mt_cmp (op_neA hr.units) f_ne (m_fld (c := "Heap") cl_Heap (by decide +kernel) (m_var 3)) (m_var 5) (nomark _)) (mw_or1 (mt_cmp (op_neA hr.units) f_ne (m_fld (c := "Heap") cl_Heap (by decide +kernel) (m_var 3)) (m_var 2) (nomark _)))))) (mss_one (ms_ret m_bl)) mss_nil))))
    (mss_one (ms_ret (m_and (m_cmp (op_eqA hr.units) f_eq (m_fld (c := "Heap") cl_Heap (by decide +kernel) (m_var 4)) (m_lst ma_nil) (nomark _)) (m_one (m_cmp (op_eqA hr.units) f_eq (m_fld (c := "Heap") cl_Heap (by decide +kernel) (m_var 4)) (m_var 2) (nomark _)))))))))))))
end K72

set_option Elab.async false
set_option linter.all false
set_option maxRecDepth 100000
namespace Mir
open PySem PySem.Spec PyProof.Rows L2
def gFld (c f : Str) : W → Sto → Rz W := fun x s1 => match insOf x s1 with
  | some (_, c', fs) => if c' = c then (match fs.lookup f with
    | some w => some (w, s1)
    | none => none) else none
  | none => none
def isI (c m : Str) (x : W) (s : Sto) : Bool := match insOf x s with
  | some (_, c', fs) => decide (c' = c) && (fs.lookup m).isNone
  | none => false
section
variable {ρ : EnvM} {s s1 : Sto} {fs : List FS} {Q : Out → Sto → Prop} {R : W → Sto → Prop} {QX : OutX → Sto → Prop} {RX : Sum W Str → Sto → Prop} {c m f : Str}
theorem insR {n : Nat} {c : Str} {l : List (Str × W)} (h : s[n]? = some (.ins c l)) : insOf (.ref n) s = some (n, c, l) := by simp only [insOf, h]
theorem fldR {n : Nat} {l : List (Str × W)} {w : W} (h : s[n]? = some (.ins c l)) (hl : l.lookup f = some w) : gFld c f (.ref n) s = some (w, s) := by
  simp only [gFld, insR h, if_true, hl]
theorem isIR {n : Nat} {l : List (Str × W)} (h : s[n]? = some (.ins c l)) (hl : l.lookup m = none) : isI c m (.ref n) s = true := by
  simp [isI, insR h, hl]
theorem eFld_eq {a : FE} : eFld c f a ρ s = bd (a ρ s) (gFld c f) := rfl
theorem eMeth_eq {F : List W → Sto → Rz W} {o : FE} {a : FA} : eMeth c m F o a ρ s = bd (o ρ s) fun x s1 => if isI c m x s1 = true then bd (a ρ s1) fun ws s2 => F (x :: ws) s2 else none := by
  unfold eMeth
  refine bd_ext fun x s1 => ?_
  unfold isI
  cases insOf x s1 with
  | none => rfl
  | some t =>
    obtain ⟨n, c', l⟩ := t
    simp only [Bool.and_eq_true, decide_eq_true_eq, Option.isNone_iff_eq_none]
theorem wp_meth {F : List W → Sto → Rz W} {o : FE} {a : FA} : Wp (eMeth c m F o a ρ s) R = Wp (o ρ s) (fun x s1 => if isI c m x s1 = true then Wp (a ρ s1) (fun ws s2 => Wp (F (x :: ws) s2) R) else False) := by
  rw [eMeth_eq, wp_bd]
  congr 1
  funext x s1
  rw [wp_ite, wp_bd, wp_none]
theorem wp_make {F : List W → Sto → Rz W} {a : FA} : Wp (eMake c F a ρ s) R = Wp (a ρ s) (fun ws s1 => Wp (F (.ref s1.length :: ws) (s1 ++ [.ins c []])) (fun w s2 => w = .non ∧ R (.ref s1.length) s2)) := by
  unfold eMake
  rw [wp_bd]
  congr 1
  funext ws s1
  rw [wp_bd]
  congr 1
  funext w s2
  cases w <;> simp [wp_some, wp_none]
theorem wp_fld {a : FE} : Wp (eFld c f a ρ s) R = Wp (a ρ s) (fun x s1 => Wp (gFld c f x s1) R) := by rw [eFld_eq, wp_bd]
theorem wps_fld {o v : FE} : WpS (sFldP c f o v :: fs) ρ s Q = Wp (v ρ s) (fun y s1 => Wp (o ρ s1) (fun x s2 => match insOf x s2 with
    | some (n, c', l) => (c' = c ∧ l.length < 1000) ∧ WpS fs ρ (s2.set n (.ins c (pF f y l))) Q
    | none => False)) := by
  rw [wps_cut]
  unfold sFldP
  rw [wp_bd]
  congr 1
  funext y s1
  rw [wp_bd]
  congr 1
  funext x s2
  cases insOf x s2 with
  | none => simp only [wp_none]
  | some t =>
    obtain ⟨n, c', l⟩ := t
    simp only [wp_ite, wp_some, wp_none]
    by_cases h : c' = c ∧ l.length < 1000
    · simp [h]
    · simp [h]
theorem wpx_eL {a : FE} : Wp (eL a ρ s) RX = Wp (a ρ s) (fun w s1 => RX (.inl w) s1) := by
  unfold eL
  cases a ρ s with
  | none => simp only [wp_none]
  | some p => obtain ⟨w, s1⟩ := p; simp only [wp_some]
theorem wpx_sL {a : FS} : Wp (sL a ρ s) QX = WpS [a] ρ s (fun o s1 => QX (.o o) s1) := by
  rw [wps_one]
  unfold sL
  cases a ρ s with
  | none => simp only [wp_none]
  | some p => obtain ⟨w, s1⟩ := p; simp only [wp_some]
def KX (g : FSX) (QX : OutX → Sto → Prop) : OutX → Sto → Prop := fun o s1 => match o with
  | .o (.nx ρ1) => Wp (g ρ1 s1) QX
  | o => QX o s1
theorem kx_nx {g : FSX} : KX g QX (.o (.nx ρ)) s = Wp (g ρ s) QX := rfl
theorem kx_rt {g : FSX} {w : W} : KX g QX (.o (.rt w)) s = QX (.o (.rt w)) s := rfl
theorem kx_xc {g : FSX} {c : Str} : KX g QX (.xc c ρ) s = QX (.xc c ρ) s := rfl
theorem wpx_cons {f g : FSX} : Wp (sConsX f g ρ s) QX = Wp (f ρ s) (KX g QX) := by
  unfold sConsX
  cases f ρ s with
  | none => simp only [wp_none]
  | some p =>
    obtain ⟨o, s1⟩ := p
    rw [wp_some]
    cases o with
    | o x => cases x <;> first | rfl | (simp only [wp_some]; rfl)
    | xc c ρ1 => simp only [wp_some]; rfl
theorem wpx_if {t : FT} {f g : FSX} : Wp (sIfX t f g ρ s) QX = Wp (t ρ s) (fun k s1 => if k = true then Wp (f ρ s1) QX else Wp (g ρ s1) QX) := by
  unfold sIfX
  cases t ρ s with
  | none => simp only [wp_none]
  | some p => obtain ⟨k, s1⟩ := p; simp only [wp_some, wp_ite]
theorem wpx_raise {c : Str} : Wp (sRaise c ρ s) QX = QX (.xc c ρ) s := wp_some
def VX (ρ : EnvM) (k : W → OutX) (QX : OutX → Sto → Prop) : Sum W Str → Sto → Prop := fun o s1 => match o with
  | .inl w => QX (k w) s1
  | .inr c => QX (.xc c ρ) s1
theorem vx_l {k : W → OutX} {w : W} : VX ρ k QX (.inl w) s = QX (k w) s := rfl
theorem vx_r {k : W → OutX} {c : Str} : VX ρ k QX (.inr c) s = QX (.xc c ρ) s := rfl
theorem wpx_set {i : Nat} {f : FEX} : Wp (sSetX i f ρ s) QX = Wp (f ρ s) (VX ρ (fun w => .o (.nx (ρ.set i (some w)))) QX) := by
  unfold sSetX
  cases f ρ s with
  | none => simp only [wp_none]
  | some p => obtain ⟨o, s1⟩ := p; cases o <;> (simp only [wp_some]; rfl)
theorem wpx_do {f : FEX} : Wp (sDoX f ρ s) QX = Wp (f ρ s) (VX ρ (fun _ => .o (.nx ρ)) QX) := by
  unfold sDoX
  cases f ρ s with
  | none => simp only [wp_none]
  | some p => obtain ⟨o, s1⟩ := p; cases o <;> (simp only [wp_some]; rfl)
theorem wpx_ret {f : FEX} : Wp (sRetX f ρ s) QX = Wp (f ρ s) (VX ρ (fun w => .o (.rt w)) QX) := by
  unfold sRetX
  cases f ρ s with
  | none => simp only [wp_none]
  | some p => obtain ⟨o, s1⟩ := p; cases o <;> (simp only [wp_some]; rfl)
def GX (g : W → W → Sto → Rz W) (x : W) (RX : Sum W Str → Sto → Prop) : Sum W Str → Sto → Prop := fun o s1 => match o with
  | .inl y => Wp (g x y s1) (fun z s2 => RX (.inl z) s2)
  | .inr c => RX (.inr c) s1
theorem gx_l {g : W → W → Sto → Rz W} {x y : W} : GX g x RX (.inl y) s = Wp (g x y s) (fun z s2 => RX (.inl z) s2) := rfl
theorem gx_r {g : W → W → Sto → Rz W} {x : W} {c : Str} : GX g x RX (.inr c) s = RX (.inr c) s := rfl
theorem wpx_op {g : W → W → Sto → Rz W} {a : FE} {b : FEX} : Wp (eOpX g a b ρ s) RX = Wp (a ρ s) (fun x s1 => Wp (b ρ s1) (GX g x RX)) := by
  unfold eOpX
  cases a ρ s with
  | none => simp only [wp_none]
  | some p =>
    obtain ⟨x, s1⟩ := p
    simp only [wp_some]
    cases b ρ s1 with
    | none => simp only [wp_none]
    | some p =>
      obtain ⟨o, s2⟩ := p
      cases o with
      | inl y =>
        simp only [wp_some]
        rw [gx_l]
        cases g x y s2 with
        | none => simp only [wp_none]
        | some p => obtain ⟨z, s3⟩ := p; simp only [wp_some]
      | inr c => simp only [wp_some]; rfl
def PX (x w : W) (ρ : EnvM) (QX : OutX → Sto → Prop) : Sum W Str → Sto → Prop := fun o s3 => match o with
  | .inl y => (match setAt x y w s3 with
    | some s4 => QX (.o (.nx ρ)) s4
    | none => False)
  | .inr c => QX (.xc c ρ) s3
theorem px_l {x w y : W} : PX x w ρ QX (.inl y) s = (match setAt x y w s with
    | some s4 => QX (.o (.nx ρ)) s4
    | none => False) := rfl
theorem px_r {x w : W} {c : Str} : PX x w ρ QX (.inr c) s = QX (.xc c ρ) s := rfl
theorem wpx_put {o f : FE} {i : FEX} : Wp (sPutX o i f ρ s) QX = Wp (f ρ s) (fun w s1 => Wp (o ρ s1) (fun x s2 => Wp (i ρ s2) (PX x w ρ QX))) := by
  unfold sPutX
  cases f ρ s with
  | none => simp only [wp_none]
  | some p =>
    obtain ⟨w, s1⟩ := p
    simp only [wp_some]
    cases o ρ s1 with
    | none => simp only [wp_none]
    | some p =>
      obtain ⟨x, s2⟩ := p
      simp only [wp_some]
      cases i ρ s2 with
      | none => simp only [wp_none]
      | some p =>
        obtain ⟨y, s3⟩ := p
        cases y with
        | inl y =>
          simp only [wp_some]
          rw [px_l]
          cases setAt x y w s3 with
          | none => simp only [wp_none]
          | some s4 => simp only [wp_some]
        | inr c => simp only [wp_some]; rfl
theorem wpx_meth {F : List W → Sto → RzX} {o : FE} {a : FA} : Wp (eMethX c m F o a ρ s) RX = Wp (o ρ s) (fun x s1 => if isI c m x s1 = true then Wp (a ρ s1) (fun ws s2 => Wp (F (x :: ws) s2) RX) else False) := by
  unfold eMethX
  cases o ρ s with
  | none => simp only [wp_none]
  | some p =>
    obtain ⟨x, s1⟩ := p
    simp only [wp_some]
    unfold isI
    cases insOf x s1 with
    | none => simp only [wp_none, Bool.false_eq_true, if_false]
    | some t =>
      obtain ⟨n, c', l⟩ := t
      simp only [wp_ite, wp_none, Bool.and_eq_true, decide_eq_true_eq, Option.isNone_iff_eq_none]
      split
      · cases a ρ s1 with
        | none => simp only [wp_none]
        | some p => obtain ⟨ws, s2⟩ := p; simp only [wp_some]
      · rfl
theorem wpx_fn {F : List W → Sto → RzX} {a : FA} : Wp (eFnX F a ρ s) RX = Wp (a ρ s) (fun ws s1 => Wp (F ws s1) RX) := by
  unfold eFnX
  cases a ρ s with
  | none => simp only [wp_none]
  | some p => obtain ⟨ws, s1⟩ := p; simp only [wp_some]
def EXK (RX : Sum W Str → Sto → Prop) : OutX → Sto → Prop := fun o s1 => match o with
  | .o (.rt w) => RX (.inl w) s1
  | .o (.nx _) => RX (.inl .non) s1
  | .xc c _ => RX (.inr c) s1
  | _ => False
theorem exk_rt {w : W} : EXK RX (.o (.rt w)) s = RX (.inl w) s := rfl
theorem exk_nx : EXK RX (.o (.nx ρ)) s = RX (.inl .non) s := rfl
theorem exk_xc {c : Str} : EXK RX (.xc c ρ) s = RX (.inr c) s := rfl
theorem wpx_mk {n N : Nat} {b : FSX} {ws : List W} (h : ws.length = n) : Wp (mkFX n N b ws s) RX = Wp (b (ws.map some ++ List.replicate (N - ws.length) none) s) (EXK RX) := by
  unfold mkFX
  rw [if_pos h]
  cases b (ws.map some ++ List.replicate (N - ws.length) none) s with
  | none => simp only [wp_none]
  | some p =>
    obtain ⟨o, s1⟩ := p
    rw [wp_some]
    cases o with
    | o x => cases x <;> first | (simp only [wp_some]; rfl) | (simp only [wp_none]; rfl)
    | xc c ρ1 => simp only [wp_some]; rfl
theorem wp_dn {a : FEX} : Wp (eDn a ρ s) R = Wp (a ρ s) (fun o s1 => match o with
    | .inl w => R w s1
    | .inr _ => False) := by
  unfold eDn
  cases a ρ s with
  | none => simp only [wp_none]
  | some p => obtain ⟨o, s1⟩ := p; cases o <;> simp only [wp_some, wp_none]
def TX (T : List (Str × Bool)) (u : FS) (fs : List FS) (Q : Out → Sto → Prop) : OutX → Sto → Prop := fun o s1 => match o with
  | .o (.nx ρ1) => WpS fs ρ1 s1 Q
  | .o o => Q o s1
  | .xc c ρ1 => hit T c = some true ∧ WpS (u :: fs) ρ1 s1 Q
theorem tx_nx {T : List (Str × Bool)} {u : FS} : TX T u fs Q (.o (.nx ρ)) s = WpS fs ρ s Q := rfl
theorem tx_rt {T : List (Str × Bool)} {u : FS} {w : W} : TX T u fs Q (.o (.rt w)) s = Q (.rt w) s := rfl
theorem tx_xc {T : List (Str × Bool)} {u : FS} {c : Str} : TX T u fs Q (.xc c ρ) s = (hit T c = some true ∧ WpS (u :: fs) ρ s Q) := rfl
theorem wps_try {T : List (Str × Bool)} {b : FSX} {u : FS} : WpS (sTry T b u :: fs) ρ s Q = Wp (b ρ s) (TX T u fs Q) := by
  rw [wps_cut]
  unfold sTry
  cases b ρ s with
  | none => simp only [wp_none]
  | some p =>
    obtain ⟨o, s1⟩ := p
    rw [wp_some]
    cases o with
    | o x => cases x <;> (simp only [wp_some]; rfl)
    | xc c ρ1 =>
      rw [tx_xc]
      simp only []
      split
      · rename_i h
        rw [wps_cut]
        simp only [h, true_and]
      · rename_i h
        rw [wp_none]
        refine propext ⟨fun z => z.elim, fun z => h z.1⟩
def TXA (T : List (Str × Bool)) (i : Nat) (u : Str → Addr → FS) (fs : List FS) (Q : Out → Sto → Prop) : OutX → Sto → Prop := fun o s1 => match o with
  | .o (.nx ρ1) => WpS fs ρ1 s1 Q
  | .o o => Q o s1
  | .xc c ρ1 => hit T c = some true ∧ WpS [u c 0] (ρ1.set i (some (.xob 0))) s1 (fun o s2 => match o with
    | .nx ρ2 => WpS fs (ρ2.set i none) s2 Q
    | .bk ρ2 => Q (.bk (ρ2.set i none)) s2
    | .ct ρ2 => Q (.ct (ρ2.set i none)) s2
    | .rt w => Q (.rt w) s2)
theorem txa_nx {T : List (Str × Bool)} {i : Nat} {u : Str → Addr → FS} : TXA T i u fs Q (.o (.nx ρ)) s = WpS fs ρ s Q := rfl
theorem txa_rt {T : List (Str × Bool)} {i : Nat} {u : Str → Addr → FS} {w : W} : TXA T i u fs Q (.o (.rt w)) s = Q (.rt w) s := rfl
theorem txa_xc {T : List (Str × Bool)} {i : Nat} {u : Str → Addr → FS} {c : Str} : TXA T i u fs Q (.xc c ρ) s = (hit T c = some true ∧ WpS [u c 0] (ρ.set i (some (.xob 0))) s (fun o s2 => match o with
    | .nx ρ2 => WpS fs (ρ2.set i none) s2 Q
    | .bk ρ2 => Q (.bk (ρ2.set i none)) s2
    | .ct ρ2 => Q (.ct (ρ2.set i none)) s2
    | .rt w => Q (.rt w) s2)) := rfl
theorem wps_tryAs {T : List (Str × Bool)} {i : Nat} {b : FSX} {u : Str → Addr → FS} : WpS (sTryAs T i b u :: fs) ρ s Q = Wp (b ρ s) (TXA T i u fs Q) := by
  rw [wps_cut]
  unfold sTryAs
  cases b ρ s with
  | none => simp only [wp_none]
  | some p =>
    obtain ⟨o, s1⟩ := p
    rw [wp_some]
    cases o with
    | o x => cases x <;> (simp only [wp_some]; rfl)
    | xc c ρ1 =>
      rw [txa_xc]
      simp only []
      split
      · rename_i h
        rw [wps_one]
        simp only [h, true_and]
        cases u c 0 (ρ1.set i (some (.xob 0))) s1 with
        | none => simp only [wp_none]
        | some p =>
          obtain ⟨o, s2⟩ := p
          cases o <;> simp only [wp_some, forget]
      · rename_i h
        rw [wp_none]
        refine propext ⟨fun z => z.elim, fun z => h z.1⟩
end
end Mir

set_option Elab.async false
set_option linter.all false
set_option maxRecDepth 100000
namespace K72
open PySem PySem.Spec PyProof.Rows L2 Mir
theorem leI {i j : Int} {s : Sto} : gLe (.int i) (.int j) s = some (.bl (decide (i ≤ j)), s) := rfl
theorem ltI {i j : Int} {s : Sto} : gLt (.int i) (.int j) s = some (.bl (decide (i < j)), s) := rfl
theorem gtI {i j : Int} {s : Sto} : gGt (.int i) (.int j) s = some (.bl (decide (j < i)), s) := rfl
def bk (b : Nat) : Key × W := (.inl (b : Int), .bl true)
structure HpOk (M : List Int) (B : List Nat) : Prop where
  ok : ∀ b ∈ B, ∃ n : Nat, M[b + 3]? = some (n : Int) ∧ b + 4 + n ≤ M.length ∧ ∀ b' ∈ B, b < b' → b + 4 + n ≤ b'
  len : 4 * B.length ≤ M.length
  sz : M.length ≤ 90000
def hF (c : Int) (wr br : Nat) : List (Str × W) := [("cells", .int c), ("words", .ref wr), ("beginnings", .ref br)]
structure Ht (s : Sto) (hp wr br : Nat) (c : Int) (M : List Int) (B : List Nat) : Prop where
  ins : s[hp]? = some (.ins "Heap" (hF c wr br))
  wds : s[wr]? = some (.lst (wi M))
  bgs : s[br]? = some (.dct (B.map bk))
theorem lkC {c : Int} {wr br : Nat} : (hF c wr br).lookup ("cells" : Str) = some (.int c) := by
  simp only [hF, List.lookup, show (("cells" : Str) == ("cells" : Str)) = true from by decide +kernel]
theorem lkW {c : Int} {wr br : Nat} : (hF c wr br).lookup ("words" : Str) = some (.ref wr) := by
  simp only [hF, List.lookup, show (("words" : Str) == ("cells" : Str)) = false from by decide +kernel, show (("words" : Str) == ("words" : Str)) = true from by decide +kernel]
theorem lkB {c : Int} {wr br : Nat} : (hF c wr br).lookup ("beginnings" : Str) = some (.ref br) := by
  simp only [hF, List.lookup, show (("beginnings" : Str) == ("cells" : Str)) = false from by decide +kernel, show (("beginnings" : Str) == ("words" : Str)) = false from by decide +kernel, show (("beginnings" : Str) == ("beginnings" : Str)) = true from by decide +kernel]
theorem lkN {c : Int} {wr br : Nat} {m : Str} (h1 : (m == ("cells" : Str)) = false) (h2 : (m == ("words" : Str)) = false) (h3 : (m == ("beginnings" : Str)) = false) : (hF c wr br).lookup m = none := by
  simp only [hF, List.lookup, h1, h2, h3]
section
variable {s : Sto} {hp wr br : Nat} {c : Int} {M : List Int} {B : List Nat}
theorem Ht.fC (h : Ht s hp wr br c M B) : gFld "Heap" "cells" (.ref hp) s = some (.int c, s) := fldR h.ins lkC
theorem Ht.fW (h : Ht s hp wr br c M B) : gFld "Heap" "words" (.ref hp) s = some (.ref wr, s) := fldR h.ins lkW
theorem Ht.fB (h : Ht s hp wr br c M B) : gFld "Heap" "beginnings" (.ref hp) s = some (.ref br, s) := fldR h.ins lkB
theorem Ht.iM (h : Ht s hp wr br c M B) {m : Str} (h1 : (m == ("cells" : Str)) = false := by decide +kernel) (h2 : (m == ("words" : Str)) = false := by decide +kernel) (h3 : (m == ("beginnings" : Str)) = false := by decide +kernel) : isI "Heap" m (.ref hp) s = true := isIR h.ins (lkN h1 h2 h3)
theorem Ht.fr {s' : Sto} {L : List Nat} (h : Ht s hp wr br c M B) (f : Fr L s s') (h1 : hp ∉ L) (h2 : wr ∉ L) (h3 : br ∉ L) : Ht s' hp wr br c M B := ⟨f.at_ _ _ h1 h.ins, f.at_ _ _ h2 h.wds, f.at_ _ _ h3 h.bgs⟩
theorem look_bk (i : Int) : ∀ B : List Nat, (look (B.map bk) (.inl i)).isSome = B.any (fun b => decide ((b : Int) = i))
  | [] => rfl
  | b :: B => by
    have ih := look_bk i B
    unfold look at ih ⊢
    simp only [List.map_cons, List.find?_cons, List.any_cons, bk] at ih ⊢
    by_cases e : (b : Int) = i
    · simp [e]
    · have : ¬ ((Sum.inl (b : Int) : Key) = Sum.inl i) := fun z => e (Sum.inl.inj z)
      simp only [this, decide_false, e, Bool.false_or]
      exact ih
theorem nb_ok {w : Int} : FNamesBlock [.int w] s = some (.bl (decide (w % 4 = 1)), s) := by
  have m1 : gMod (.int w) (.int 4) s = some (.int (w % 4), s) := modR (by decide)
  unfold FNamesBlock BNamesBlock
  simp only [mkF, bd_some, bd_none, sCons, sNil, sSet, sAsg, sPar, sDo, sRet, sRetN, sIf, sPut, sAug, sBrk, sCnt, sFor, iSeq, iEnu, Mir.iRev, Mir.iRng1, Mir.iRng2, eVar, eC, eOp, eUn, eFn, eMt, aNil, aCons, eTup, eLst, eAnd, eOr, eNot, eIf, bTest, bTruth, bAnd, bOr, bNot, bYes, eSl, pNo, pAt, tgM_name, tgM_tup, tgMs_nil, tgMs_name, tgMs_tup, List.getElem?_cons_succ, List.getElem?_cons_zero, List.set_cons_succ, List.set_cons_zero, List.map_cons, List.map_nil, List.length_cons, List.length_nil, List.replicate, List.nil_append, List.cons_append, if_true, if_false, Bool.false_eq_true, Nat.reduceAdd, Nat.reduceSub, Nat.reduceLeDiff, Nat.zero_add, Bool.not_true, Bool.not_false, m1, eqI]
theorem ad_ok {w : Int} : FAddressOf [.int w] s = some (.int (w / 4), s) := by
  have m1 : gDiv (.int w) (.int 4) s = some (.int (w / 4), s) := divR (by decide) (by decide)
  unfold FAddressOf BAddressOf
  simp only [mkF, bd_some, bd_none, sCons, sNil, sSet, sAsg, sPar, sDo, sRet, sRetN, sIf, sPut, sAug, sBrk, sCnt, sFor, iSeq, iEnu, Mir.iRev, Mir.iRng1, Mir.iRng2, eVar, eC, eOp, eUn, eFn, eMt, aNil, aCons, eTup, eLst, eAnd, eOr, eNot, eIf, bTest, bTruth, bAnd, bOr, bNot, bYes, eSl, pNo, pAt, tgM_name, tgM_tup, tgMs_nil, tgMs_name, tgMs_tup, List.getElem?_cons_succ, List.getElem?_cons_zero, List.set_cons_succ, List.set_cons_zero, List.map_cons, List.map_nil, List.length_cons, List.length_nil, List.replicate, List.nil_append, List.cons_append, if_true, if_false, Bool.false_eq_true, Nat.reduceAdd, Nat.reduceSub, Nat.reduceLeDiff, Nat.zero_add, Bool.not_true, Bool.not_false, m1]
theorem wb_ok {w : Int} : FWordOfBlock [.int w] s = some (.int (4 * w + 1), s) := by
  have m1 : Mir.gMul (.int 4) (.int w) s = some (.int (4 * w), s) := mulL (by decide) (by decide)
  unfold FWordOfBlock BWordOfBlock
  simp only [mkF, bd_some, bd_none, sCons, sNil, sSet, sAsg, sPar, sDo, sRet, sRetN, sIf, sPut, sAug, sBrk, sCnt, sFor, iSeq, iEnu, Mir.iRev, Mir.iRng1, Mir.iRng2, eVar, eC, eOp, eUn, eFn, eMt, aNil, aCons, eTup, eLst, eAnd, eOr, eNot, eIf, bTest, bTruth, bAnd, bOr, bNot, bYes, eSl, pNo, pAt, tgM_name, tgM_tup, tgMs_nil, tgMs_name, tgMs_tup, List.getElem?_cons_succ, List.getElem?_cons_zero, List.set_cons_succ, List.set_cons_zero, List.map_cons, List.map_nil, List.length_cons, List.length_nil, List.replicate, List.nil_append, List.cons_append, if_true, if_false, Bool.false_eq_true, Nat.reduceAdd, Nat.reduceSub, Nat.reduceLeDiff, Nat.zero_add, Bool.not_true, Bool.not_false, m1, addI]
theorem ba_ok {w : Int} {R : Sum W Str → Sto → Prop} (h : Ht s hp wr br c M B) (h1 : ∀ b : Nat, b ∈ B → w = 4 * (b : Int) + 1 → R (.inl (.int (b : Int))) s) (h2 : (∀ b ∈ B, w ≠ 4 * (b : Int) + 1) → R (.inr "NoBlock") s) : Wp (FHeapBlockAddress [.ref hp, .int w] s) R := by
  unfold FHeapBlockAddress
  rw [wpx_mk (by rfl)]
  unfold BHeapBlockAddress
  repeat first | with_reducible refine Eq.mpr wps_cons ?_ | with_reducible refine Eq.mpr wps_pass ?_ | with_reducible refine Eq.mpr wps_nil ?_ | with_reducible refine Eq.mpr wps_set ?_ | with_reducible refine Eq.mpr wps_do ?_ | with_reducible refine Eq.mpr wps_ret ?_ | with_reducible refine Eq.mpr wps_retN ?_ | with_reducible refine Eq.mpr wps_brk ?_ | with_reducible refine Eq.mpr wps_cnt ?_ | with_reducible refine Eq.mpr wps_if ?_ | with_reducible refine Eq.mpr wps_asg ?_ | with_reducible refine wps_asgL ?_ | with_reducible refine Eq.mpr wps_put ?_ | with_reducible refine Eq.mpr wps_dput ?_ | with_reducible refine Eq.mpr wps_aug ?_ | with_reducible refine Eq.mpr wps_par ?_ | with_reducible refine Eq.mpr wps_for ?_ | with_reducible refine Eq.mpr wps_wh ?_ | with_reducible refine Eq.mpr wps_fld ?_ | with_reducible refine Eq.mpr wps_try ?_ | with_reducible refine Eq.mpr wps_tryAs ?_ | simp only [wp_tup0, wp_tup1, wp_tup2, wp_tup3, wp_tup4, wp_tup5, wp_tup6, wp_tup7, wp_lst0, wp_lst1, wp_lst2, wp_lst3, wp_lst4, wp_lst5, wp_lst6, wp_lst7, wp_lst8, wp_lst9, wp_lst10, wp_lst11, wp_lst12, wp_bd, wp_lc, ql_nx, ql_ct, ql_bk, ql_rt, iSeq, iEnu, Mir.iRev, chkR, chkT, chkO, lstO, wp_some, wp_ite, wp_none, bd_some, eVar, eC, eOp, eUn, eFn, eMt, aNil, aCons,  eAnd, eOr, eNot, eIf, eIsi, eChain, bTest, bTruth, bAnd, bOr, bNot, bYes, eSl, pNo, pAt, eRinA, eRinB, eDnew, eDin, eDget, eDget2, tgM_name, tgM_tup, tgMs_nil, tgMs_name, tgMs_tup, List.getElem?_cons_succ, List.getElem?_cons_zero, List.set_cons_succ, List.set_cons_zero, List.map_cons, List.map_nil, List.length_cons, List.length_nil, List.replicate, List.nil_append, List.cons_append, if_true, if_false, Bool.false_eq_true, Bool.true_eq_false, Nat.reduceAdd, Nat.reduceSub, Nat.reduceLeDiff, Nat.zero_add, Bool.not_true, Bool.not_false, nc0, nc1, nc2, nc3, not_true_eq_false, not_false_eq_true, ii, addI, subI, negI, int1, eqI, neI, eqS, neS, ix0, ix1, ix2, ix3, decide_eq_true_eq, Bool.not_eq_true', decide_eq_false_iff_not, truB, truN, keyI, keyS, lenT, wipeM, wp_fld, wp_meth, wp_make, wpx_eL, wpx_sL, wpx_cons, kx_nx, kx_rt, kx_xc, wpx_if, wpx_raise, wpx_set, wpx_do, wpx_ret, vx_l, vx_r, wpx_op, gx_l, gx_r, wpx_put, px_l, px_r, wpx_meth, wpx_fn, exk_rt, exk_nx, exk_xc, wp_dn, tx_nx, tx_rt, tx_xc, txa_nx, txa_rt, txa_xc, nb_ok, ad_ok, h.fB, dcR h.bgs, look_bk]
  by_cases m : w % 4 = 1
  · cases e : B.any (fun b => decide ((b : Int) = w / 4)) with
    | true =>
      obtain ⟨b, hb, e2⟩ := List.any_eq_true.mp e
      have e2 : (b : Int) = w / 4 := of_decide_eq_true e2
      repeat first | with_reducible refine Eq.mpr wps_cons ?_ | with_reducible refine Eq.mpr wps_pass ?_ | with_reducible refine Eq.mpr wps_nil ?_ | with_reducible refine Eq.mpr wps_set ?_ | with_reducible refine Eq.mpr wps_do ?_ | with_reducible refine Eq.mpr wps_ret ?_ | with_reducible refine Eq.mpr wps_retN ?_ | with_reducible refine Eq.mpr wps_brk ?_ | with_reducible refine Eq.mpr wps_cnt ?_ | with_reducible refine Eq.mpr wps_if ?_ | with_reducible refine Eq.mpr wps_asg ?_ | with_reducible refine wps_asgL ?_ | with_reducible refine Eq.mpr wps_put ?_ | with_reducible refine Eq.mpr wps_dput ?_ | with_reducible refine Eq.mpr wps_aug ?_ | with_reducible refine Eq.mpr wps_par ?_ | with_reducible refine Eq.mpr wps_for ?_ | with_reducible refine Eq.mpr wps_wh ?_ | with_reducible refine Eq.mpr wps_fld ?_ | with_reducible refine Eq.mpr wps_try ?_ | with_reducible refine Eq.mpr wps_tryAs ?_ | simp only [wp_tup0, wp_tup1, wp_tup2, wp_tup3, wp_tup4, wp_tup5, wp_tup6, wp_tup7, wp_lst0, wp_lst1, wp_lst2, wp_lst3, wp_lst4, wp_lst5, wp_lst6, wp_lst7, wp_lst8, wp_lst9, wp_lst10, wp_lst11, wp_lst12, wp_bd, wp_lc, ql_nx, ql_ct, ql_bk, ql_rt, iSeq, iEnu, Mir.iRev, chkR, chkT, chkO, lstO, wp_some, wp_ite, wp_none, bd_some, eVar, eC, eOp, eUn, eFn, eMt, aNil, aCons,  eAnd, eOr, eNot, eIf, eIsi, eChain, bTest, bTruth, bAnd, bOr, bNot, bYes, eSl, pNo, pAt, eRinA, eRinB, eDnew, eDin, eDget, eDget2, tgM_name, tgM_tup, tgMs_nil, tgMs_name, tgMs_tup, List.getElem?_cons_succ, List.getElem?_cons_zero, List.set_cons_succ, List.set_cons_zero, List.map_cons, List.map_nil, List.length_cons, List.length_nil, List.replicate, List.nil_append, List.cons_append, if_true, if_false, Bool.false_eq_true, Bool.true_eq_false, Nat.reduceAdd, Nat.reduceSub, Nat.reduceLeDiff, Nat.zero_add, Bool.not_true, Bool.not_false, nc0, nc1, nc2, nc3, not_true_eq_false, not_false_eq_true, ii, addI, subI, negI, int1, eqI, neI, eqS, neS, ix0, ix1, ix2, ix3, decide_eq_true_eq, Bool.not_eq_true', decide_eq_false_iff_not, truB, truN, keyI, keyS, lenT, wipeM, wp_fld, wp_meth, wp_make, wpx_eL, wpx_sL, wpx_cons, kx_nx, kx_rt, kx_xc, wpx_if, wpx_raise, wpx_set, wpx_do, wpx_ret, vx_l, vx_r, wpx_op, gx_l, gx_r, wpx_put, px_l, px_r, wpx_meth, wpx_fn, exk_rt, exk_nx, exk_xc, wp_dn, tx_nx, tx_rt, tx_xc, txa_nx, txa_rt, txa_xc, m, e, decide_true, nb_ok, ad_ok, h.fB, dcR h.bgs, look_bk]
      rw [← e2]
      exact h1 b hb (by omega)
    | false =>
      repeat first | with_reducible refine Eq.mpr wps_cons ?_ | with_reducible refine Eq.mpr wps_pass ?_ | with_reducible refine Eq.mpr wps_nil ?_ | with_reducible refine Eq.mpr wps_set ?_ | with_reducible refine Eq.mpr wps_do ?_ | with_reducible refine Eq.mpr wps_ret ?_ | with_reducible refine Eq.mpr wps_retN ?_ | with_reducible refine Eq.mpr wps_brk ?_ | with_reducible refine Eq.mpr wps_cnt ?_ | with_reducible refine Eq.mpr wps_if ?_ | with_reducible refine Eq.mpr wps_asg ?_ | with_reducible refine wps_asgL ?_ | with_reducible refine Eq.mpr wps_put ?_ | with_reducible refine Eq.mpr wps_dput ?_ | with_reducible refine Eq.mpr wps_aug ?_ | with_reducible refine Eq.mpr wps_par ?_ | with_reducible refine Eq.mpr wps_for ?_ | with_reducible refine Eq.mpr wps_wh ?_ | with_reducible refine Eq.mpr wps_fld ?_ | with_reducible refine Eq.mpr wps_try ?_ | with_reducible refine Eq.mpr wps_tryAs ?_ | simp only [wp_tup0, wp_tup1, wp_tup2, wp_tup3, wp_tup4, wp_tup5, wp_tup6, wp_tup7, wp_lst0, wp_lst1, wp_lst2, wp_lst3, wp_lst4, wp_lst5, wp_lst6, wp_lst7, wp_lst8, wp_lst9, wp_lst10, wp_lst11, wp_lst12, wp_bd, wp_lc, ql_nx, ql_ct, ql_bk, ql_rt, iSeq, iEnu, Mir.iRev, chkR, chkT, chkO, lstO, wp_some, wp_ite, wp_none, bd_some, eVar, eC, eOp, eUn, eFn, eMt, aNil, aCons,  eAnd, eOr, eNot, eIf, eIsi, eChain, bTest, bTruth, bAnd, bOr, bNot, bYes, eSl, pNo, pAt, eRinA, eRinB, eDnew, eDin, eDget, eDget2, tgM_name, tgM_tup, tgMs_nil, tgMs_name, tgMs_tup, List.getElem?_cons_succ, List.getElem?_cons_zero, List.set_cons_succ, List.set_cons_zero, List.map_cons, List.map_nil, List.length_cons, List.length_nil, List.replicate, List.nil_append, List.cons_append, if_true, if_false, Bool.false_eq_true, Bool.true_eq_false, Nat.reduceAdd, Nat.reduceSub, Nat.reduceLeDiff, Nat.zero_add, Bool.not_true, Bool.not_false, nc0, nc1, nc2, nc3, not_true_eq_false, not_false_eq_true, ii, addI, subI, negI, int1, eqI, neI, eqS, neS, ix0, ix1, ix2, ix3, decide_eq_true_eq, Bool.not_eq_true', decide_eq_false_iff_not, truB, truN, keyI, keyS, lenT, wipeM, wp_fld, wp_meth, wp_make, wpx_eL, wpx_sL, wpx_cons, kx_nx, kx_rt, kx_xc, wpx_if, wpx_raise, wpx_set, wpx_do, wpx_ret, vx_l, vx_r, wpx_op, gx_l, gx_r, wpx_put, px_l, px_r, wpx_meth, wpx_fn, exk_rt, exk_nx, exk_xc, wp_dn, tx_nx, tx_rt, tx_xc, txa_nx, txa_rt, txa_xc, m, e, decide_true, nb_ok, ad_ok, h.fB, dcR h.bgs, look_bk]
      refine h2 fun b hb z => ?_
      have := List.any_eq_false.mp e b hb
      exact this (decide_eq_true (by omega))
  · repeat first | with_reducible refine Eq.mpr wps_cons ?_ | with_reducible refine Eq.mpr wps_pass ?_ | with_reducible refine Eq.mpr wps_nil ?_ | with_reducible refine Eq.mpr wps_set ?_ | with_reducible refine Eq.mpr wps_do ?_ | with_reducible refine Eq.mpr wps_ret ?_ | with_reducible refine Eq.mpr wps_retN ?_ | with_reducible refine Eq.mpr wps_brk ?_ | with_reducible refine Eq.mpr wps_cnt ?_ | with_reducible refine Eq.mpr wps_if ?_ | with_reducible refine Eq.mpr wps_asg ?_ | with_reducible refine wps_asgL ?_ | with_reducible refine Eq.mpr wps_put ?_ | with_reducible refine Eq.mpr wps_dput ?_ | with_reducible refine Eq.mpr wps_aug ?_ | with_reducible refine Eq.mpr wps_par ?_ | with_reducible refine Eq.mpr wps_for ?_ | with_reducible refine Eq.mpr wps_wh ?_ | with_reducible refine Eq.mpr wps_fld ?_ | with_reducible refine Eq.mpr wps_try ?_ | with_reducible refine Eq.mpr wps_tryAs ?_ | simp only [wp_tup0, wp_tup1, wp_tup2, wp_tup3, wp_tup4, wp_tup5, wp_tup6, wp_tup7, wp_lst0, wp_lst1, wp_lst2, wp_lst3, wp_lst4, wp_lst5, wp_lst6, wp_lst7, wp_lst8, wp_lst9, wp_lst10, wp_lst11, wp_lst12, wp_bd, wp_lc, ql_nx, ql_ct, ql_bk, ql_rt, iSeq, iEnu, Mir.iRev, chkR, chkT, chkO, lstO, wp_some, wp_ite, wp_none, bd_some, eVar, eC, eOp, eUn, eFn, eMt, aNil, aCons,  eAnd, eOr, eNot, eIf, eIsi, eChain, bTest, bTruth, bAnd, bOr, bNot, bYes, eSl, pNo, pAt, eRinA, eRinB, eDnew, eDin, eDget, eDget2, tgM_name, tgM_tup, tgMs_nil, tgMs_name, tgMs_tup, List.getElem?_cons_succ, List.getElem?_cons_zero, List.set_cons_succ, List.set_cons_zero, List.map_cons, List.map_nil, List.length_cons, List.length_nil, List.replicate, List.nil_append, List.cons_append, if_true, if_false, Bool.false_eq_true, Bool.true_eq_false, Nat.reduceAdd, Nat.reduceSub, Nat.reduceLeDiff, Nat.zero_add, Bool.not_true, Bool.not_false, nc0, nc1, nc2, nc3, not_true_eq_false, not_false_eq_true, ii, addI, subI, negI, int1, eqI, neI, eqS, neS, ix0, ix1, ix2, ix3, decide_eq_true_eq, Bool.not_eq_true', decide_eq_false_iff_not, truB, truN, keyI, keyS, lenT, wipeM, wp_fld, wp_meth, wp_make, wpx_eL, wpx_sL, wpx_cons, kx_nx, kx_rt, kx_xc, wpx_if, wpx_raise, wpx_set, wpx_do, wpx_ret, vx_l, vx_r, wpx_op, gx_l, gx_r, wpx_put, px_l, px_r, wpx_meth, wpx_fn, exk_rt, exk_nx, exk_xc, wp_dn, tx_nx, tx_rt, tx_xc, txa_nx, txa_rt, txa_xc, m, decide_false, nb_ok, ad_ok, h.fB, dcR h.bgs, look_bk]
    exact h2 fun b hb z => m (by omega)
theorem fa_ok {w i : Int} {R : Sum W Str → Sto → Prop} (h : Ht s hp wr br c M B) (o : HpOk M B)
    (h1 : ∀ b n j : Nat, b ∈ B → w = 4 * (b : Int) + 1 → M[b + 3]? = some (n : Int) → i = (j : Int) → j < n → R (.inl (.int ((b + 4 + j : Nat) : Int))) s)
    (h2 : (∀ b n j : Nat, b ∈ B → w = 4 * (b : Int) + 1 → M[b + 3]? = some (n : Int) → i = (j : Int) → ¬ j < n) → R (.inr "NoBlock") s) : Wp (FHeapFieldAddress [.ref hp, .int w, .int i] s) R := by
  unfold FHeapFieldAddress
  rw [wpx_mk (by rfl)]
  unfold BHeapFieldAddress
  repeat first | with_reducible refine Eq.mpr wps_cons ?_ | with_reducible refine Eq.mpr wps_pass ?_ | with_reducible refine Eq.mpr wps_nil ?_ | with_reducible refine Eq.mpr wps_set ?_ | with_reducible refine Eq.mpr wps_do ?_ | with_reducible refine Eq.mpr wps_ret ?_ | with_reducible refine Eq.mpr wps_retN ?_ | with_reducible refine Eq.mpr wps_brk ?_ | with_reducible refine Eq.mpr wps_cnt ?_ | with_reducible refine Eq.mpr wps_if ?_ | with_reducible refine Eq.mpr wps_asg ?_ | with_reducible refine wps_asgL ?_ | with_reducible refine Eq.mpr wps_put ?_ | with_reducible refine Eq.mpr wps_dput ?_ | with_reducible refine Eq.mpr wps_aug ?_ | with_reducible refine Eq.mpr wps_par ?_ | with_reducible refine Eq.mpr wps_for ?_ | with_reducible refine Eq.mpr wps_wh ?_ | with_reducible refine Eq.mpr wps_fld ?_ | with_reducible refine Eq.mpr wps_try ?_ | with_reducible refine Eq.mpr wps_tryAs ?_ | simp only [wp_tup0, wp_tup1, wp_tup2, wp_tup3, wp_tup4, wp_tup5, wp_tup6, wp_tup7, wp_lst0, wp_lst1, wp_lst2, wp_lst3, wp_lst4, wp_lst5, wp_lst6, wp_lst7, wp_lst8, wp_lst9, wp_lst10, wp_lst11, wp_lst12, wp_bd, wp_lc, ql_nx, ql_ct, ql_bk, ql_rt, iSeq, iEnu, Mir.iRev, chkR, chkT, chkO, lstO, wp_some, wp_ite, wp_none, bd_some, eVar, eC, eOp, eUn, eFn, eMt, aNil, aCons,  eAnd, eOr, eNot, eIf, eIsi, eChain, bTest, bTruth, bAnd, bOr, bNot, bYes, eSl, pNo, pAt, eRinA, eRinB, eDnew, eDin, eDget, eDget2, tgM_name, tgM_tup, tgMs_nil, tgMs_name, tgMs_tup, List.getElem?_cons_succ, List.getElem?_cons_zero, List.set_cons_succ, List.set_cons_zero, List.map_cons, List.map_nil, List.length_cons, List.length_nil, List.replicate, List.nil_append, List.cons_append, if_true, if_false, Bool.false_eq_true, Bool.true_eq_false, Nat.reduceAdd, Nat.reduceSub, Nat.reduceLeDiff, Nat.zero_add, Bool.not_true, Bool.not_false, nc0, nc1, nc2, nc3, not_true_eq_false, not_false_eq_true, ii, addI, subI, negI, int1, eqI, neI, eqS, neS, ix0, ix1, ix2, ix3, decide_eq_true_eq, Bool.not_eq_true', decide_eq_false_iff_not, truB, truN, keyI, keyS, lenT, wipeM, wp_fld, wp_meth, wp_make, wpx_eL, wpx_sL, wpx_cons, kx_nx, kx_rt, kx_xc, wpx_if, wpx_raise, wpx_set, wpx_do, wpx_ret, vx_l, vx_r, wpx_op, gx_l, gx_r, wpx_put, px_l, px_r, wpx_meth, wpx_fn, exk_rt, exk_nx, exk_xc, wp_dn, tx_nx, tx_rt, tx_xc, txa_nx, txa_rt, txa_xc, h.iM (m := "block_address")]
  refine ba_ok h (fun b hb e => ?_) (fun e => ?_)
  · obtain ⟨n, e1, e2, e3⟩ := o.ok b hb
    have g : gIx (.ref wr) (.int ((b : Int) + 4 - 1)) s = some (.int (n : Int), s) := by
      have z : ((b : Int) + 4 - 1) = ((b + 3 : Nat) : Int) := by omega
      rw [z]
      exact ixI h.wds e1
    by_cases q : 0 ≤ i ∧ i < (n : Int)
    · obtain ⟨j, rfl⟩ : ∃ j : Nat, i = (j : Int) := ⟨i.toNat, by omega⟩
      repeat first | with_reducible refine Eq.mpr wps_cons ?_ | with_reducible refine Eq.mpr wps_pass ?_ | with_reducible refine Eq.mpr wps_nil ?_ | with_reducible refine Eq.mpr wps_set ?_ | with_reducible refine Eq.mpr wps_do ?_ | with_reducible refine Eq.mpr wps_ret ?_ | with_reducible refine Eq.mpr wps_retN ?_ | with_reducible refine Eq.mpr wps_brk ?_ | with_reducible refine Eq.mpr wps_cnt ?_ | with_reducible refine Eq.mpr wps_if ?_ | with_reducible refine Eq.mpr wps_asg ?_ | with_reducible refine wps_asgL ?_ | with_reducible refine Eq.mpr wps_put ?_ | with_reducible refine Eq.mpr wps_dput ?_ | with_reducible refine Eq.mpr wps_aug ?_ | with_reducible refine Eq.mpr wps_par ?_ | with_reducible refine Eq.mpr wps_for ?_ | with_reducible refine Eq.mpr wps_wh ?_ | with_reducible refine Eq.mpr wps_fld ?_ | with_reducible refine Eq.mpr wps_try ?_ | with_reducible refine Eq.mpr wps_tryAs ?_ | simp only [wp_tup0, wp_tup1, wp_tup2, wp_tup3, wp_tup4, wp_tup5, wp_tup6, wp_tup7, wp_lst0, wp_lst1, wp_lst2, wp_lst3, wp_lst4, wp_lst5, wp_lst6, wp_lst7, wp_lst8, wp_lst9, wp_lst10, wp_lst11, wp_lst12, wp_bd, wp_lc, ql_nx, ql_ct, ql_bk, ql_rt, iSeq, iEnu, Mir.iRev, chkR, chkT, chkO, lstO, wp_some, wp_ite, wp_none, bd_some, eVar, eC, eOp, eUn, eFn, eMt, aNil, aCons,  eAnd, eOr, eNot, eIf, eIsi, eChain, bTest, bTruth, bAnd, bOr, bNot, bYes, eSl, pNo, pAt, eRinA, eRinB, eDnew, eDin, eDget, eDget2, tgM_name, tgM_tup, tgMs_nil, tgMs_name, tgMs_tup, List.getElem?_cons_succ, List.getElem?_cons_zero, List.set_cons_succ, List.set_cons_zero, List.map_cons, List.map_nil, List.length_cons, List.length_nil, List.replicate, List.nil_append, List.cons_append, if_true, if_false, Bool.false_eq_true, Bool.true_eq_false, Nat.reduceAdd, Nat.reduceSub, Nat.reduceLeDiff, Nat.zero_add, Bool.not_true, Bool.not_false, nc0, nc1, nc2, nc3, not_true_eq_false, not_false_eq_true, ii, addI, subI, negI, int1, eqI, neI, eqS, neS, ix0, ix1, ix2, ix3, decide_eq_true_eq, Bool.not_eq_true', decide_eq_false_iff_not, truB, truN, keyI, keyS, lenT, wipeM, wp_fld, wp_meth, wp_make, wpx_eL, wpx_sL, wpx_cons, kx_nx, kx_rt, kx_xc, wpx_if, wpx_raise, wpx_set, wpx_do, wpx_ret, vx_l, vx_r, wpx_op, gx_l, gx_r, wpx_put, px_l, px_r, wpx_meth, wpx_fn, exk_rt, exk_nx, exk_xc, wp_dn, tx_nx, tx_rt, tx_xc, txa_nx, txa_rt, txa_xc, eChain, leI, q.1, q.2, decide_true, h.fW, g, ltI]
      have z : ((b : Int) + 4 + (j : Int)) = ((b + 4 + j : Nat) : Int) := by omega
      rw [z]
      exact h1 b n j hb e e1 rfl (by omega)
    · have bad : ∀ b' n' j' : Nat, b' ∈ B → w = 4 * (b' : Int) + 1 → M[b' + 3]? = some (n' : Int) → i = (j' : Int) → ¬ j' < n' := fun b' n' j' hb' e' en ej hj => by
        have eb : b' = b := by omega
        rw [eb, e1] at en
        have : (n : Int) = n' := Option.some.inj en
        exact q ⟨by omega, by omega⟩
      by_cases q0 : 0 ≤ i
      · have q1 : ¬ i < (n : Int) := fun z => q ⟨q0, z⟩
        repeat first | with_reducible refine Eq.mpr wps_cons ?_ | with_reducible refine Eq.mpr wps_pass ?_ | with_reducible refine Eq.mpr wps_nil ?_ | with_reducible refine Eq.mpr wps_set ?_ | with_reducible refine Eq.mpr wps_do ?_ | with_reducible refine Eq.mpr wps_ret ?_ | with_reducible refine Eq.mpr wps_retN ?_ | with_reducible refine Eq.mpr wps_brk ?_ | with_reducible refine Eq.mpr wps_cnt ?_ | with_reducible refine Eq.mpr wps_if ?_ | with_reducible refine Eq.mpr wps_asg ?_ | with_reducible refine wps_asgL ?_ | with_reducible refine Eq.mpr wps_put ?_ | with_reducible refine Eq.mpr wps_dput ?_ | with_reducible refine Eq.mpr wps_aug ?_ | with_reducible refine Eq.mpr wps_par ?_ | with_reducible refine Eq.mpr wps_for ?_ | with_reducible refine Eq.mpr wps_wh ?_ | with_reducible refine Eq.mpr wps_fld ?_ | with_reducible refine Eq.mpr wps_try ?_ | with_reducible refine Eq.mpr wps_tryAs ?_ | simp only [wp_tup0, wp_tup1, wp_tup2, wp_tup3, wp_tup4, wp_tup5, wp_tup6, wp_tup7, wp_lst0, wp_lst1, wp_lst2, wp_lst3, wp_lst4, wp_lst5, wp_lst6, wp_lst7, wp_lst8, wp_lst9, wp_lst10, wp_lst11, wp_lst12, wp_bd, wp_lc, ql_nx, ql_ct, ql_bk, ql_rt, iSeq, iEnu, Mir.iRev, chkR, chkT, chkO, lstO, wp_some, wp_ite, wp_none, bd_some, eVar, eC, eOp, eUn, eFn, eMt, aNil, aCons,  eAnd, eOr, eNot, eIf, eIsi, eChain, bTest, bTruth, bAnd, bOr, bNot, bYes, eSl, pNo, pAt, eRinA, eRinB, eDnew, eDin, eDget, eDget2, tgM_name, tgM_tup, tgMs_nil, tgMs_name, tgMs_tup, List.getElem?_cons_succ, List.getElem?_cons_zero, List.set_cons_succ, List.set_cons_zero, List.map_cons, List.map_nil, List.length_cons, List.length_nil, List.replicate, List.nil_append, List.cons_append, if_true, if_false, Bool.false_eq_true, Bool.true_eq_false, Nat.reduceAdd, Nat.reduceSub, Nat.reduceLeDiff, Nat.zero_add, Bool.not_true, Bool.not_false, nc0, nc1, nc2, nc3, not_true_eq_false, not_false_eq_true, ii, addI, subI, negI, int1, eqI, neI, eqS, neS, ix0, ix1, ix2, ix3, decide_eq_true_eq, Bool.not_eq_true', decide_eq_false_iff_not, truB, truN, keyI, keyS, lenT, wipeM, wp_fld, wp_meth, wp_make, wpx_eL, wpx_sL, wpx_cons, kx_nx, kx_rt, kx_xc, wpx_if, wpx_raise, wpx_set, wpx_do, wpx_ret, vx_l, vx_r, wpx_op, gx_l, gx_r, wpx_put, px_l, px_r, wpx_meth, wpx_fn, exk_rt, exk_nx, exk_xc, wp_dn, tx_nx, tx_rt, tx_xc, txa_nx, txa_rt, txa_xc, eChain, leI, q0, q1, decide_true, decide_false, h.fW, g, ltI]
        exact h2 bad
      · repeat first | with_reducible refine Eq.mpr wps_cons ?_ | with_reducible refine Eq.mpr wps_pass ?_ | with_reducible refine Eq.mpr wps_nil ?_ | with_reducible refine Eq.mpr wps_set ?_ | with_reducible refine Eq.mpr wps_do ?_ | with_reducible refine Eq.mpr wps_ret ?_ | with_reducible refine Eq.mpr wps_retN ?_ | with_reducible refine Eq.mpr wps_brk ?_ | with_reducible refine Eq.mpr wps_cnt ?_ | with_reducible refine Eq.mpr wps_if ?_ | with_reducible refine Eq.mpr wps_asg ?_ | with_reducible refine wps_asgL ?_ | with_reducible refine Eq.mpr wps_put ?_ | with_reducible refine Eq.mpr wps_dput ?_ | with_reducible refine Eq.mpr wps_aug ?_ | with_reducible refine Eq.mpr wps_par ?_ | with_reducible refine Eq.mpr wps_for ?_ | with_reducible refine Eq.mpr wps_wh ?_ | with_reducible refine Eq.mpr wps_fld ?_ | with_reducible refine Eq.mpr wps_try ?_ | with_reducible refine Eq.mpr wps_tryAs ?_ | simp only [wp_tup0, wp_tup1, wp_tup2, wp_tup3, wp_tup4, wp_tup5, wp_tup6, wp_tup7, wp_lst0, wp_lst1, wp_lst2, wp_lst3, wp_lst4, wp_lst5, wp_lst6, wp_lst7, wp_lst8, wp_lst9, wp_lst10, wp_lst11, wp_lst12, wp_bd, wp_lc, ql_nx, ql_ct, ql_bk, ql_rt, iSeq, iEnu, Mir.iRev, chkR, chkT, chkO, lstO, wp_some, wp_ite, wp_none, bd_some, eVar, eC, eOp, eUn, eFn, eMt, aNil, aCons,  eAnd, eOr, eNot, eIf, eIsi, eChain, bTest, bTruth, bAnd, bOr, bNot, bYes, eSl, pNo, pAt, eRinA, eRinB, eDnew, eDin, eDget, eDget2, tgM_name, tgM_tup, tgMs_nil, tgMs_name, tgMs_tup, List.getElem?_cons_succ, List.getElem?_cons_zero, List.set_cons_succ, List.set_cons_zero, List.map_cons, List.map_nil, List.length_cons, List.length_nil, List.replicate, List.nil_append, List.cons_append, if_true, if_false, Bool.false_eq_true, Bool.true_eq_false, Nat.reduceAdd, Nat.reduceSub, Nat.reduceLeDiff, Nat.zero_add, Bool.not_true, Bool.not_false, nc0, nc1, nc2, nc3, not_true_eq_false, not_false_eq_true, ii, addI, subI, negI, int1, eqI, neI, eqS, neS, ix0, ix1, ix2, ix3, decide_eq_true_eq, Bool.not_eq_true', decide_eq_false_iff_not, truB, truN, keyI, keyS, lenT, wipeM, wp_fld, wp_meth, wp_make, wpx_eL, wpx_sL, wpx_cons, kx_nx, kx_rt, kx_xc, wpx_if, wpx_raise, wpx_set, wpx_do, wpx_ret, vx_l, vx_r, wpx_op, gx_l, gx_r, wpx_put, px_l, px_r, wpx_meth, wpx_fn, exk_rt, exk_nx, exk_xc, wp_dn, tx_nx, tx_rt, tx_xc, txa_nx, txa_rt, txa_xc, eChain, leI, q0, decide_false, h.fW, g, ltI]
        exact h2 bad
  · repeat first | with_reducible refine Eq.mpr wps_cons ?_ | with_reducible refine Eq.mpr wps_pass ?_ | with_reducible refine Eq.mpr wps_nil ?_ | with_reducible refine Eq.mpr wps_set ?_ | with_reducible refine Eq.mpr wps_do ?_ | with_reducible refine Eq.mpr wps_ret ?_ | with_reducible refine Eq.mpr wps_retN ?_ | with_reducible refine Eq.mpr wps_brk ?_ | with_reducible refine Eq.mpr wps_cnt ?_ | with_reducible refine Eq.mpr wps_if ?_ | with_reducible refine Eq.mpr wps_asg ?_ | with_reducible refine wps_asgL ?_ | with_reducible refine Eq.mpr wps_put ?_ | with_reducible refine Eq.mpr wps_dput ?_ | with_reducible refine Eq.mpr wps_aug ?_ | with_reducible refine Eq.mpr wps_par ?_ | with_reducible refine Eq.mpr wps_for ?_ | with_reducible refine Eq.mpr wps_wh ?_ | with_reducible refine Eq.mpr wps_fld ?_ | with_reducible refine Eq.mpr wps_try ?_ | with_reducible refine Eq.mpr wps_tryAs ?_ | simp only [wp_tup0, wp_tup1, wp_tup2, wp_tup3, wp_tup4, wp_tup5, wp_tup6, wp_tup7, wp_lst0, wp_lst1, wp_lst2, wp_lst3, wp_lst4, wp_lst5, wp_lst6, wp_lst7, wp_lst8, wp_lst9, wp_lst10, wp_lst11, wp_lst12, wp_bd, wp_lc, ql_nx, ql_ct, ql_bk, ql_rt, iSeq, iEnu, Mir.iRev, chkR, chkT, chkO, lstO, wp_some, wp_ite, wp_none, bd_some, eVar, eC, eOp, eUn, eFn, eMt, aNil, aCons,  eAnd, eOr, eNot, eIf, eIsi, eChain, bTest, bTruth, bAnd, bOr, bNot, bYes, eSl, pNo, pAt, eRinA, eRinB, eDnew, eDin, eDget, eDget2, tgM_name, tgM_tup, tgMs_nil, tgMs_name, tgMs_tup, List.getElem?_cons_succ, List.getElem?_cons_zero, List.set_cons_succ, List.set_cons_zero, List.map_cons, List.map_nil, List.length_cons, List.length_nil, List.replicate, List.nil_append, List.cons_append, if_true, if_false, Bool.false_eq_true, Bool.true_eq_false, Nat.reduceAdd, Nat.reduceSub, Nat.reduceLeDiff, Nat.zero_add, Bool.not_true, Bool.not_false, nc0, nc1, nc2, nc3, not_true_eq_false, not_false_eq_true, ii, addI, subI, negI, int1, eqI, neI, eqS, neS, ix0, ix1, ix2, ix3, decide_eq_true_eq, Bool.not_eq_true', decide_eq_false_iff_not, truB, truN, keyI, keyS, lenT, wipeM, wp_fld, wp_meth, wp_make, wpx_eL, wpx_sL, wpx_cons, kx_nx, kx_rt, kx_xc, wpx_if, wpx_raise, wpx_set, wpx_do, wpx_ret, vx_l, vx_r, wpx_op, gx_l, gx_r, wpx_put, px_l, px_r, wpx_meth, wpx_fn, exk_rt, exk_nx, exk_xc, wp_dn, tx_nx, tx_rt, tx_xc, txa_nx, txa_rt, txa_xc]
    exact h2 fun b n j hb e' => absurd e' (e b hb)
theorem fd_ok {w i : Int} {R : Sum W Str → Sto → Prop} (h : Ht s hp wr br c M B) (o : HpOk M B)
    (h1 : ∀ (b n j : Nat) (v : Int), b ∈ B → w = 4 * (b : Int) + 1 → M[b + 3]? = some (n : Int) → i = (j : Int) → j < n → M[b + 4 + j]? = some v → R (.inl (.int v)) s)
    (h2 : (∀ b n j : Nat, b ∈ B → w = 4 * (b : Int) + 1 → M[b + 3]? = some (n : Int) → i = (j : Int) → ¬ j < n) → R (.inr "NoBlock") s) : Wp (FHeapField [.ref hp, .int w, .int i] s) R := by
  unfold FHeapField
  rw [wpx_mk (by rfl)]
  unfold BHeapField
  repeat first | with_reducible refine Eq.mpr wps_cons ?_ | with_reducible refine Eq.mpr wps_pass ?_ | with_reducible refine Eq.mpr wps_nil ?_ | with_reducible refine Eq.mpr wps_set ?_ | with_reducible refine Eq.mpr wps_do ?_ | with_reducible refine Eq.mpr wps_ret ?_ | with_reducible refine Eq.mpr wps_retN ?_ | with_reducible refine Eq.mpr wps_brk ?_ | with_reducible refine Eq.mpr wps_cnt ?_ | with_reducible refine Eq.mpr wps_if ?_ | with_reducible refine Eq.mpr wps_asg ?_ | with_reducible refine wps_asgL ?_ | with_reducible refine Eq.mpr wps_put ?_ | with_reducible refine Eq.mpr wps_dput ?_ | with_reducible refine Eq.mpr wps_aug ?_ | with_reducible refine Eq.mpr wps_par ?_ | with_reducible refine Eq.mpr wps_for ?_ | with_reducible refine Eq.mpr wps_wh ?_ | with_reducible refine Eq.mpr wps_fld ?_ | with_reducible refine Eq.mpr wps_try ?_ | with_reducible refine Eq.mpr wps_tryAs ?_ | simp only [wp_tup0, wp_tup1, wp_tup2, wp_tup3, wp_tup4, wp_tup5, wp_tup6, wp_tup7, wp_lst0, wp_lst1, wp_lst2, wp_lst3, wp_lst4, wp_lst5, wp_lst6, wp_lst7, wp_lst8, wp_lst9, wp_lst10, wp_lst11, wp_lst12, wp_bd, wp_lc, ql_nx, ql_ct, ql_bk, ql_rt, iSeq, iEnu, Mir.iRev, chkR, chkT, chkO, lstO, wp_some, wp_ite, wp_none, bd_some, eVar, eC, eOp, eUn, eFn, eMt, aNil, aCons,  eAnd, eOr, eNot, eIf, eIsi, eChain, bTest, bTruth, bAnd, bOr, bNot, bYes, eSl, pNo, pAt, eRinA, eRinB, eDnew, eDin, eDget, eDget2, tgM_name, tgM_tup, tgMs_nil, tgMs_name, tgMs_tup, List.getElem?_cons_succ, List.getElem?_cons_zero, List.set_cons_succ, List.set_cons_zero, List.map_cons, List.map_nil, List.length_cons, List.length_nil, List.replicate, List.nil_append, List.cons_append, if_true, if_false, Bool.false_eq_true, Bool.true_eq_false, Nat.reduceAdd, Nat.reduceSub, Nat.reduceLeDiff, Nat.zero_add, Bool.not_true, Bool.not_false, nc0, nc1, nc2, nc3, not_true_eq_false, not_false_eq_true, ii, addI, subI, negI, int1, eqI, neI, eqS, neS, ix0, ix1, ix2, ix3, decide_eq_true_eq, Bool.not_eq_true', decide_eq_false_iff_not, truB, truN, keyI, keyS, lenT, wipeM, wp_fld, wp_meth, wp_make, wpx_eL, wpx_sL, wpx_cons, kx_nx, kx_rt, kx_xc, wpx_if, wpx_raise, wpx_set, wpx_do, wpx_ret, vx_l, vx_r, wpx_op, gx_l, gx_r, wpx_put, px_l, px_r, wpx_meth, wpx_fn, exk_rt, exk_nx, exk_xc, wp_dn, tx_nx, tx_rt, tx_xc, txa_nx, txa_rt, txa_xc, h.iM (m := "field_address"), h.fW]
  refine fa_ok h o (fun b n j hb e en ej hj => ?_) (fun e => ?_)
  · obtain ⟨n', e1, e2, e3⟩ := o.ok b hb
    rw [en] at e1
    have : n = n' := by have := Option.some.inj e1; omega
    have hv : M[b + 4 + j]? = some M[b + 4 + j] := List.getElem?_eq_getElem (by omega)
    repeat first | with_reducible refine Eq.mpr wps_cons ?_ | with_reducible refine Eq.mpr wps_pass ?_ | with_reducible refine Eq.mpr wps_nil ?_ | with_reducible refine Eq.mpr wps_set ?_ | with_reducible refine Eq.mpr wps_do ?_ | with_reducible refine Eq.mpr wps_ret ?_ | with_reducible refine Eq.mpr wps_retN ?_ | with_reducible refine Eq.mpr wps_brk ?_ | with_reducible refine Eq.mpr wps_cnt ?_ | with_reducible refine Eq.mpr wps_if ?_ | with_reducible refine Eq.mpr wps_asg ?_ | with_reducible refine wps_asgL ?_ | with_reducible refine Eq.mpr wps_put ?_ | with_reducible refine Eq.mpr wps_dput ?_ | with_reducible refine Eq.mpr wps_aug ?_ | with_reducible refine Eq.mpr wps_par ?_ | with_reducible refine Eq.mpr wps_for ?_ | with_reducible refine Eq.mpr wps_wh ?_ | with_reducible refine Eq.mpr wps_fld ?_ | with_reducible refine Eq.mpr wps_try ?_ | with_reducible refine Eq.mpr wps_tryAs ?_ | simp only [wp_tup0, wp_tup1, wp_tup2, wp_tup3, wp_tup4, wp_tup5, wp_tup6, wp_tup7, wp_lst0, wp_lst1, wp_lst2, wp_lst3, wp_lst4, wp_lst5, wp_lst6, wp_lst7, wp_lst8, wp_lst9, wp_lst10, wp_lst11, wp_lst12, wp_bd, wp_lc, ql_nx, ql_ct, ql_bk, ql_rt, iSeq, iEnu, Mir.iRev, chkR, chkT, chkO, lstO, wp_some, wp_ite, wp_none, bd_some, eVar, eC, eOp, eUn, eFn, eMt, aNil, aCons,  eAnd, eOr, eNot, eIf, eIsi, eChain, bTest, bTruth, bAnd, bOr, bNot, bYes, eSl, pNo, pAt, eRinA, eRinB, eDnew, eDin, eDget, eDget2, tgM_name, tgM_tup, tgMs_nil, tgMs_name, tgMs_tup, List.getElem?_cons_succ, List.getElem?_cons_zero, List.set_cons_succ, List.set_cons_zero, List.map_cons, List.map_nil, List.length_cons, List.length_nil, List.replicate, List.nil_append, List.cons_append, if_true, if_false, Bool.false_eq_true, Bool.true_eq_false, Nat.reduceAdd, Nat.reduceSub, Nat.reduceLeDiff, Nat.zero_add, Bool.not_true, Bool.not_false, nc0, nc1, nc2, nc3, not_true_eq_false, not_false_eq_true, ii, addI, subI, negI, int1, eqI, neI, eqS, neS, ix0, ix1, ix2, ix3, decide_eq_true_eq, Bool.not_eq_true', decide_eq_false_iff_not, truB, truN, keyI, keyS, lenT, wipeM, wp_fld, wp_meth, wp_make, wpx_eL, wpx_sL, wpx_cons, kx_nx, kx_rt, kx_xc, wpx_if, wpx_raise, wpx_set, wpx_do, wpx_ret, vx_l, vx_r, wpx_op, gx_l, gx_r, wpx_put, px_l, px_r, wpx_meth, wpx_fn, exk_rt, exk_nx, exk_xc, wp_dn, tx_nx, tx_rt, tx_xc, txa_nx, txa_rt, txa_xc, ixI h.wds hv]
    exact h1 b n j _ hb e en ej hj hv
  · repeat first | with_reducible refine Eq.mpr wps_cons ?_ | with_reducible refine Eq.mpr wps_pass ?_ | with_reducible refine Eq.mpr wps_nil ?_ | with_reducible refine Eq.mpr wps_set ?_ | with_reducible refine Eq.mpr wps_do ?_ | with_reducible refine Eq.mpr wps_ret ?_ | with_reducible refine Eq.mpr wps_retN ?_ | with_reducible refine Eq.mpr wps_brk ?_ | with_reducible refine Eq.mpr wps_cnt ?_ | with_reducible refine Eq.mpr wps_if ?_ | with_reducible refine Eq.mpr wps_asg ?_ | with_reducible refine wps_asgL ?_ | with_reducible refine Eq.mpr wps_put ?_ | with_reducible refine Eq.mpr wps_dput ?_ | with_reducible refine Eq.mpr wps_aug ?_ | with_reducible refine Eq.mpr wps_par ?_ | with_reducible refine Eq.mpr wps_for ?_ | with_reducible refine Eq.mpr wps_wh ?_ | with_reducible refine Eq.mpr wps_fld ?_ | with_reducible refine Eq.mpr wps_try ?_ | with_reducible refine Eq.mpr wps_tryAs ?_ | simp only [wp_tup0, wp_tup1, wp_tup2, wp_tup3, wp_tup4, wp_tup5, wp_tup6, wp_tup7, wp_lst0, wp_lst1, wp_lst2, wp_lst3, wp_lst4, wp_lst5, wp_lst6, wp_lst7, wp_lst8, wp_lst9, wp_lst10, wp_lst11, wp_lst12, wp_bd, wp_lc, ql_nx, ql_ct, ql_bk, ql_rt, iSeq, iEnu, Mir.iRev, chkR, chkT, chkO, lstO, wp_some, wp_ite, wp_none, bd_some, eVar, eC, eOp, eUn, eFn, eMt, aNil, aCons,  eAnd, eOr, eNot, eIf, eIsi, eChain, bTest, bTruth, bAnd, bOr, bNot, bYes, eSl, pNo, pAt, eRinA, eRinB, eDnew, eDin, eDget, eDget2, tgM_name, tgM_tup, tgMs_nil, tgMs_name, tgMs_tup, List.getElem?_cons_succ, List.getElem?_cons_zero, List.set_cons_succ, List.set_cons_zero, List.map_cons, List.map_nil, List.length_cons, List.length_nil, List.replicate, List.nil_append, List.cons_append, if_true, if_false, Bool.false_eq_true, Bool.true_eq_false, Nat.reduceAdd, Nat.reduceSub, Nat.reduceLeDiff, Nat.zero_add, Bool.not_true, Bool.not_false, nc0, nc1, nc2, nc3, not_true_eq_false, not_false_eq_true, ii, addI, subI, negI, int1, eqI, neI, eqS, neS, ix0, ix1, ix2, ix3, decide_eq_true_eq, Bool.not_eq_true', decide_eq_false_iff_not, truB, truN, keyI, keyS, lenT, wipeM, wp_fld, wp_meth, wp_make, wpx_eL, wpx_sL, wpx_cons, kx_nx, kx_rt, kx_xc, wpx_if, wpx_raise, wpx_set, wpx_do, wpx_ret, vx_l, vx_r, wpx_op, gx_l, gx_r, wpx_put, px_l, px_r, wpx_meth, wpx_fn, exk_rt, exk_nx, exk_xc, wp_dn, tx_nx, tx_rt, tx_xc, txa_nx, txa_rt, txa_xc]
    exact h2 e
theorem sf_ok {w i v : Int} {R : Sum W Str → Sto → Prop} (h : Ht s hp wr br c M B) (o : HpOk M B)
    (h1 : ∀ (b n j : Nat), b ∈ B → w = 4 * (b : Int) + 1 → M[b + 3]? = some (n : Int) → i = (j : Int) → j < n → R (.inl .non) (s.set wr (.lst (wi (M.set (b + 4 + j) v)))))
    (h2 : (∀ b n j : Nat, b ∈ B → w = 4 * (b : Int) + 1 → M[b + 3]? = some (n : Int) → i = (j : Int) → ¬ j < n) → R (.inr "NoBlock") s) : Wp (FHeapStoreField [.ref hp, .int w, .int i, .int v] s) R := by
  unfold FHeapStoreField
  rw [wpx_mk (by rfl)]
  unfold BHeapStoreField
  repeat first | with_reducible refine Eq.mpr wps_cons ?_ | with_reducible refine Eq.mpr wps_pass ?_ | with_reducible refine Eq.mpr wps_nil ?_ | with_reducible refine Eq.mpr wps_set ?_ | with_reducible refine Eq.mpr wps_do ?_ | with_reducible refine Eq.mpr wps_ret ?_ | with_reducible refine Eq.mpr wps_retN ?_ | with_reducible refine Eq.mpr wps_brk ?_ | with_reducible refine Eq.mpr wps_cnt ?_ | with_reducible refine Eq.mpr wps_if ?_ | with_reducible refine Eq.mpr wps_asg ?_ | with_reducible refine wps_asgL ?_ | with_reducible refine Eq.mpr wps_put ?_ | with_reducible refine Eq.mpr wps_dput ?_ | with_reducible refine Eq.mpr wps_aug ?_ | with_reducible refine Eq.mpr wps_par ?_ | with_reducible refine Eq.mpr wps_for ?_ | with_reducible refine Eq.mpr wps_wh ?_ | with_reducible refine Eq.mpr wps_fld ?_ | with_reducible refine Eq.mpr wps_try ?_ | with_reducible refine Eq.mpr wps_tryAs ?_ | simp only [wp_tup0, wp_tup1, wp_tup2, wp_tup3, wp_tup4, wp_tup5, wp_tup6, wp_tup7, wp_lst0, wp_lst1, wp_lst2, wp_lst3, wp_lst4, wp_lst5, wp_lst6, wp_lst7, wp_lst8, wp_lst9, wp_lst10, wp_lst11, wp_lst12, wp_bd, wp_lc, ql_nx, ql_ct, ql_bk, ql_rt, iSeq, iEnu, Mir.iRev, chkR, chkT, chkO, lstO, wp_some, wp_ite, wp_none, bd_some, eVar, eC, eOp, eUn, eFn, eMt, aNil, aCons,  eAnd, eOr, eNot, eIf, eIsi, eChain, bTest, bTruth, bAnd, bOr, bNot, bYes, eSl, pNo, pAt, eRinA, eRinB, eDnew, eDin, eDget, eDget2, tgM_name, tgM_tup, tgMs_nil, tgMs_name, tgMs_tup, List.getElem?_cons_succ, List.getElem?_cons_zero, List.set_cons_succ, List.set_cons_zero, List.map_cons, List.map_nil, List.length_cons, List.length_nil, List.replicate, List.nil_append, List.cons_append, if_true, if_false, Bool.false_eq_true, Bool.true_eq_false, Nat.reduceAdd, Nat.reduceSub, Nat.reduceLeDiff, Nat.zero_add, Bool.not_true, Bool.not_false, nc0, nc1, nc2, nc3, not_true_eq_false, not_false_eq_true, ii, addI, subI, negI, int1, eqI, neI, eqS, neS, ix0, ix1, ix2, ix3, decide_eq_true_eq, Bool.not_eq_true', decide_eq_false_iff_not, truB, truN, keyI, keyS, lenT, wipeM, wp_fld, wp_meth, wp_make, wpx_eL, wpx_sL, wpx_cons, kx_nx, kx_rt, kx_xc, wpx_if, wpx_raise, wpx_set, wpx_do, wpx_ret, vx_l, vx_r, wpx_op, gx_l, gx_r, wpx_put, px_l, px_r, wpx_meth, wpx_fn, exk_rt, exk_nx, exk_xc, wp_dn, tx_nx, tx_rt, tx_xc, txa_nx, txa_rt, txa_xc, h.iM (m := "field_address"), h.fW]
  refine fa_ok h o (fun b n j hb e en ej hj => ?_) (fun e => ?_)
  · obtain ⟨n', e1, e2, e3⟩ := o.ok b hb
    rw [en] at e1
    have : n = n' := by have := Option.some.inj e1; omega
    have hp' : setAt (.ref wr) (.int ((b + 4 + j : Nat) : Int)) (.int v) s = some (s.set wr (.lst ((wi M).set (b + 4 + j) (.int v)))) := putL h.wds (by rw [List.length_map]; omega)
    repeat first | with_reducible refine Eq.mpr wps_cons ?_ | with_reducible refine Eq.mpr wps_pass ?_ | with_reducible refine Eq.mpr wps_nil ?_ | with_reducible refine Eq.mpr wps_set ?_ | with_reducible refine Eq.mpr wps_do ?_ | with_reducible refine Eq.mpr wps_ret ?_ | with_reducible refine Eq.mpr wps_retN ?_ | with_reducible refine Eq.mpr wps_brk ?_ | with_reducible refine Eq.mpr wps_cnt ?_ | with_reducible refine Eq.mpr wps_if ?_ | with_reducible refine Eq.mpr wps_asg ?_ | with_reducible refine wps_asgL ?_ | with_reducible refine Eq.mpr wps_put ?_ | with_reducible refine Eq.mpr wps_dput ?_ | with_reducible refine Eq.mpr wps_aug ?_ | with_reducible refine Eq.mpr wps_par ?_ | with_reducible refine Eq.mpr wps_for ?_ | with_reducible refine Eq.mpr wps_wh ?_ | with_reducible refine Eq.mpr wps_fld ?_ | with_reducible refine Eq.mpr wps_try ?_ | with_reducible refine Eq.mpr wps_tryAs ?_ | simp only [wp_tup0, wp_tup1, wp_tup2, wp_tup3, wp_tup4, wp_tup5, wp_tup6, wp_tup7, wp_lst0, wp_lst1, wp_lst2, wp_lst3, wp_lst4, wp_lst5, wp_lst6, wp_lst7, wp_lst8, wp_lst9, wp_lst10, wp_lst11, wp_lst12, wp_bd, wp_lc, ql_nx, ql_ct, ql_bk, ql_rt, iSeq, iEnu, Mir.iRev, chkR, chkT, chkO, lstO, wp_some, wp_ite, wp_none, bd_some, eVar, eC, eOp, eUn, eFn, eMt, aNil, aCons,  eAnd, eOr, eNot, eIf, eIsi, eChain, bTest, bTruth, bAnd, bOr, bNot, bYes, eSl, pNo, pAt, eRinA, eRinB, eDnew, eDin, eDget, eDget2, tgM_name, tgM_tup, tgMs_nil, tgMs_name, tgMs_tup, List.getElem?_cons_succ, List.getElem?_cons_zero, List.set_cons_succ, List.set_cons_zero, List.map_cons, List.map_nil, List.length_cons, List.length_nil, List.replicate, List.nil_append, List.cons_append, if_true, if_false, Bool.false_eq_true, Bool.true_eq_false, Nat.reduceAdd, Nat.reduceSub, Nat.reduceLeDiff, Nat.zero_add, Bool.not_true, Bool.not_false, nc0, nc1, nc2, nc3, not_true_eq_false, not_false_eq_true, ii, addI, subI, negI, int1, eqI, neI, eqS, neS, ix0, ix1, ix2, ix3, decide_eq_true_eq, Bool.not_eq_true', decide_eq_false_iff_not, truB, truN, keyI, keyS, lenT, wipeM, wp_fld, wp_meth, wp_make, wpx_eL, wpx_sL, wpx_cons, kx_nx, kx_rt, kx_xc, wpx_if, wpx_raise, wpx_set, wpx_do, wpx_ret, vx_l, vx_r, wpx_op, gx_l, gx_r, wpx_put, px_l, px_r, wpx_meth, wpx_fn, exk_rt, exk_nx, exk_xc, wp_dn, tx_nx, tx_rt, tx_xc, txa_nx, txa_rt, txa_xc, hp']
    have z : (wi M).set (b + 4 + j) (.int v) = wi (M.set (b + 4 + j) v) := by rw [wi, wi, List.map_set]
    rw [z]
    exact h1 b n j hb e en ej hj
  · repeat first | with_reducible refine Eq.mpr wps_cons ?_ | with_reducible refine Eq.mpr wps_pass ?_ | with_reducible refine Eq.mpr wps_nil ?_ | with_reducible refine Eq.mpr wps_set ?_ | with_reducible refine Eq.mpr wps_do ?_ | with_reducible refine Eq.mpr wps_ret ?_ | with_reducible refine Eq.mpr wps_retN ?_ | with_reducible refine Eq.mpr wps_brk ?_ | with_reducible refine Eq.mpr wps_cnt ?_ | with_reducible refine Eq.mpr wps_if ?_ | with_reducible refine Eq.mpr wps_asg ?_ | with_reducible refine wps_asgL ?_ | with_reducible refine Eq.mpr wps_put ?_ | with_reducible refine Eq.mpr wps_dput ?_ | with_reducible refine Eq.mpr wps_aug ?_ | with_reducible refine Eq.mpr wps_par ?_ | with_reducible refine Eq.mpr wps_for ?_ | with_reducible refine Eq.mpr wps_wh ?_ | with_reducible refine Eq.mpr wps_fld ?_ | with_reducible refine Eq.mpr wps_try ?_ | with_reducible refine Eq.mpr wps_tryAs ?_ | simp only [wp_tup0, wp_tup1, wp_tup2, wp_tup3, wp_tup4, wp_tup5, wp_tup6, wp_tup7, wp_lst0, wp_lst1, wp_lst2, wp_lst3, wp_lst4, wp_lst5, wp_lst6, wp_lst7, wp_lst8, wp_lst9, wp_lst10, wp_lst11, wp_lst12, wp_bd, wp_lc, ql_nx, ql_ct, ql_bk, ql_rt, iSeq, iEnu, Mir.iRev, chkR, chkT, chkO, lstO, wp_some, wp_ite, wp_none, bd_some, eVar, eC, eOp, eUn, eFn, eMt, aNil, aCons,  eAnd, eOr, eNot, eIf, eIsi, eChain, bTest, bTruth, bAnd, bOr, bNot, bYes, eSl, pNo, pAt, eRinA, eRinB, eDnew, eDin, eDget, eDget2, tgM_name, tgM_tup, tgMs_nil, tgMs_name, tgMs_tup, List.getElem?_cons_succ, List.getElem?_cons_zero, List.set_cons_succ, List.set_cons_zero, List.map_cons, List.map_nil, List.length_cons, List.length_nil, List.replicate, List.nil_append, List.cons_append, if_true, if_false, Bool.false_eq_true, Bool.true_eq_false, Nat.reduceAdd, Nat.reduceSub, Nat.reduceLeDiff, Nat.zero_add, Bool.not_true, Bool.not_false, nc0, nc1, nc2, nc3, not_true_eq_false, not_false_eq_true, ii, addI, subI, negI, int1, eqI, neI, eqS, neS, ix0, ix1, ix2, ix3, decide_eq_true_eq, Bool.not_eq_true', decide_eq_false_iff_not, truB, truN, keyI, keyS, lenT, wipeM, wp_fld, wp_meth, wp_make, wpx_eL, wpx_sL, wpx_cons, kx_nx, kx_rt, kx_xc, wpx_if, wpx_raise, wpx_set, wpx_do, wpx_ret, vx_l, vx_r, wpx_op, gx_l, gx_r, wpx_put, px_l, px_r, wpx_meth, wpx_fn, exk_rt, exk_nx, exk_xc, wp_dn, tx_nx, tx_rt, tx_xc, txa_nx, txa_rt, txa_xc]
    exact h2 e
theorem hd_ok {w : Int} {R : Sum W Str → Sto → Prop} (h : Ht s hp wr br c M B)
    (h1 : ∀ (b : Nat), b ∈ B → w = 4 * (b : Int) + 1 → R (.inl (.tup (wi ((M.drop b).take 4)))) (s ++ [.lst (wi ((M.drop b).take 4))]))
    (h2 : (∀ b ∈ B, w ≠ 4 * (b : Int) + 1) → R (.inr "NoBlock") s) : Wp (FHeapHeader [.ref hp, .int w] s) R := by
  unfold FHeapHeader
  rw [wpx_mk (by rfl)]
  unfold BHeapHeader
  repeat first | with_reducible refine Eq.mpr wps_cons ?_ | with_reducible refine Eq.mpr wps_pass ?_ | with_reducible refine Eq.mpr wps_nil ?_ | with_reducible refine Eq.mpr wps_set ?_ | with_reducible refine Eq.mpr wps_do ?_ | with_reducible refine Eq.mpr wps_ret ?_ | with_reducible refine Eq.mpr wps_retN ?_ | with_reducible refine Eq.mpr wps_brk ?_ | with_reducible refine Eq.mpr wps_cnt ?_ | with_reducible refine Eq.mpr wps_if ?_ | with_reducible refine Eq.mpr wps_asg ?_ | with_reducible refine wps_asgL ?_ | with_reducible refine Eq.mpr wps_put ?_ | with_reducible refine Eq.mpr wps_dput ?_ | with_reducible refine Eq.mpr wps_aug ?_ | with_reducible refine Eq.mpr wps_par ?_ | with_reducible refine Eq.mpr wps_for ?_ | with_reducible refine Eq.mpr wps_wh ?_ | with_reducible refine Eq.mpr wps_fld ?_ | with_reducible refine Eq.mpr wps_try ?_ | with_reducible refine Eq.mpr wps_tryAs ?_ | simp only [wp_tup0, wp_tup1, wp_tup2, wp_tup3, wp_tup4, wp_tup5, wp_tup6, wp_tup7, wp_lst0, wp_lst1, wp_lst2, wp_lst3, wp_lst4, wp_lst5, wp_lst6, wp_lst7, wp_lst8, wp_lst9, wp_lst10, wp_lst11, wp_lst12, wp_bd, wp_lc, ql_nx, ql_ct, ql_bk, ql_rt, iSeq, iEnu, Mir.iRev, chkR, chkT, chkO, lstO, wp_some, wp_ite, wp_none, bd_some, eVar, eC, eOp, eUn, eFn, eMt, aNil, aCons,  eAnd, eOr, eNot, eIf, eIsi, eChain, bTest, bTruth, bAnd, bOr, bNot, bYes, eSl, pNo, pAt, eRinA, eRinB, eDnew, eDin, eDget, eDget2, tgM_name, tgM_tup, tgMs_nil, tgMs_name, tgMs_tup, List.getElem?_cons_succ, List.getElem?_cons_zero, List.set_cons_succ, List.set_cons_zero, List.map_cons, List.map_nil, List.length_cons, List.length_nil, List.replicate, List.nil_append, List.cons_append, if_true, if_false, Bool.false_eq_true, Bool.true_eq_false, Nat.reduceAdd, Nat.reduceSub, Nat.reduceLeDiff, Nat.zero_add, Bool.not_true, Bool.not_false, nc0, nc1, nc2, nc3, not_true_eq_false, not_false_eq_true, ii, addI, subI, negI, int1, eqI, neI, eqS, neS, ix0, ix1, ix2, ix3, decide_eq_true_eq, Bool.not_eq_true', decide_eq_false_iff_not, truB, truN, keyI, keyS, lenT, wipeM, wp_fld, wp_meth, wp_make, wpx_eL, wpx_sL, wpx_cons, kx_nx, kx_rt, kx_xc, wpx_if, wpx_raise, wpx_set, wpx_do, wpx_ret, vx_l, vx_r, wpx_op, gx_l, gx_r, wpx_put, px_l, px_r, wpx_meth, wpx_fn, exk_rt, exk_nx, exk_xc, wp_dn, tx_nx, tx_rt, tx_xc, txa_nx, txa_rt, txa_xc, h.iM (m := "block_address")]
  refine ba_ok h (fun b hb e => ?_) (fun e => ?_)
  · have sl : gSlA (.ref wr) (some (b : Int)) (some ((b : Int) + 4)) s = some (.ref s.length, s ++ [.lst (wi ((M.drop b).take 4))]) := by
      have z : ((b : Int) + 4) = ((b + 4 : Nat) : Int) := by omega
      rw [z, slL h.wds, wi, wi, ← List.map_drop, ← List.map_take, show b + 4 - b = 4 by omega]
    repeat first | with_reducible refine Eq.mpr wps_cons ?_ | with_reducible refine Eq.mpr wps_pass ?_ | with_reducible refine Eq.mpr wps_nil ?_ | with_reducible refine Eq.mpr wps_set ?_ | with_reducible refine Eq.mpr wps_do ?_ | with_reducible refine Eq.mpr wps_ret ?_ | with_reducible refine Eq.mpr wps_retN ?_ | with_reducible refine Eq.mpr wps_brk ?_ | with_reducible refine Eq.mpr wps_cnt ?_ | with_reducible refine Eq.mpr wps_if ?_ | with_reducible refine Eq.mpr wps_asg ?_ | with_reducible refine wps_asgL ?_ | with_reducible refine Eq.mpr wps_put ?_ | with_reducible refine Eq.mpr wps_dput ?_ | with_reducible refine Eq.mpr wps_aug ?_ | with_reducible refine Eq.mpr wps_par ?_ | with_reducible refine Eq.mpr wps_for ?_ | with_reducible refine Eq.mpr wps_wh ?_ | with_reducible refine Eq.mpr wps_fld ?_ | with_reducible refine Eq.mpr wps_try ?_ | with_reducible refine Eq.mpr wps_tryAs ?_ | simp only [wp_tup0, wp_tup1, wp_tup2, wp_tup3, wp_tup4, wp_tup5, wp_tup6, wp_tup7, wp_lst0, wp_lst1, wp_lst2, wp_lst3, wp_lst4, wp_lst5, wp_lst6, wp_lst7, wp_lst8, wp_lst9, wp_lst10, wp_lst11, wp_lst12, wp_bd, wp_lc, ql_nx, ql_ct, ql_bk, ql_rt, iSeq, iEnu, Mir.iRev, chkR, chkT, chkO, lstO, wp_some, wp_ite, wp_none, bd_some, eVar, eC, eOp, eUn, eFn, eMt, aNil, aCons,  eAnd, eOr, eNot, eIf, eIsi, eChain, bTest, bTruth, bAnd, bOr, bNot, bYes, eSl, pNo, pAt, eRinA, eRinB, eDnew, eDin, eDget, eDget2, tgM_name, tgM_tup, tgMs_nil, tgMs_name, tgMs_tup, List.getElem?_cons_succ, List.getElem?_cons_zero, List.set_cons_succ, List.set_cons_zero, List.map_cons, List.map_nil, List.length_cons, List.length_nil, List.replicate, List.nil_append, List.cons_append, if_true, if_false, Bool.false_eq_true, Bool.true_eq_false, Nat.reduceAdd, Nat.reduceSub, Nat.reduceLeDiff, Nat.zero_add, Bool.not_true, Bool.not_false, nc0, nc1, nc2, nc3, not_true_eq_false, not_false_eq_true, ii, addI, subI, negI, int1, eqI, neI, eqS, neS, ix0, ix1, ix2, ix3, decide_eq_true_eq, Bool.not_eq_true', decide_eq_false_iff_not, truB, truN, keyI, keyS, lenT, wipeM, wp_fld, wp_meth, wp_make, wpx_eL, wpx_sL, wpx_cons, kx_nx, kx_rt, kx_xc, wpx_if, wpx_raise, wpx_set, wpx_do, wpx_ret, vx_l, vx_r, wpx_op, gx_l, gx_r, wpx_put, px_l, px_r, wpx_meth, wpx_fn, exk_rt, exk_nx, exk_xc, wp_dn, tx_nx, tx_rt, tx_xc, txa_nx, txa_rt, txa_xc, h.fW, sl, tupL (gnew)]
    exact h1 b hb e
  · repeat first | with_reducible refine Eq.mpr wps_cons ?_ | with_reducible refine Eq.mpr wps_pass ?_ | with_reducible refine Eq.mpr wps_nil ?_ | with_reducible refine Eq.mpr wps_set ?_ | with_reducible refine Eq.mpr wps_do ?_ | with_reducible refine Eq.mpr wps_ret ?_ | with_reducible refine Eq.mpr wps_retN ?_ | with_reducible refine Eq.mpr wps_brk ?_ | with_reducible refine Eq.mpr wps_cnt ?_ | with_reducible refine Eq.mpr wps_if ?_ | with_reducible refine Eq.mpr wps_asg ?_ | with_reducible refine wps_asgL ?_ | with_reducible refine Eq.mpr wps_put ?_ | with_reducible refine Eq.mpr wps_dput ?_ | with_reducible refine Eq.mpr wps_aug ?_ | with_reducible refine Eq.mpr wps_par ?_ | with_reducible refine Eq.mpr wps_for ?_ | with_reducible refine Eq.mpr wps_wh ?_ | with_reducible refine Eq.mpr wps_fld ?_ | with_reducible refine Eq.mpr wps_try ?_ | with_reducible refine Eq.mpr wps_tryAs ?_ | simp only [wp_tup0, wp_tup1, wp_tup2, wp_tup3, wp_tup4, wp_tup5, wp_tup6, wp_tup7, wp_lst0, wp_lst1, wp_lst2, wp_lst3, wp_lst4, wp_lst5, wp_lst6, wp_lst7, wp_lst8, wp_lst9, wp_lst10, wp_lst11, wp_lst12, wp_bd, wp_lc, ql_nx, ql_ct, ql_bk, ql_rt, iSeq, iEnu, Mir.iRev, chkR, chkT, chkO, lstO, wp_some, wp_ite, wp_none, bd_some, eVar, eC, eOp, eUn, eFn, eMt, aNil, aCons,  eAnd, eOr, eNot, eIf, eIsi, eChain, bTest, bTruth, bAnd, bOr, bNot, bYes, eSl, pNo, pAt, eRinA, eRinB, eDnew, eDin, eDget, eDget2, tgM_name, tgM_tup, tgMs_nil, tgMs_name, tgMs_tup, List.getElem?_cons_succ, List.getElem?_cons_zero, List.set_cons_succ, List.set_cons_zero, List.map_cons, List.map_nil, List.length_cons, List.length_nil, List.replicate, List.nil_append, List.cons_append, if_true, if_false, Bool.false_eq_true, Bool.true_eq_false, Nat.reduceAdd, Nat.reduceSub, Nat.reduceLeDiff, Nat.zero_add, Bool.not_true, Bool.not_false, nc0, nc1, nc2, nc3, not_true_eq_false, not_false_eq_true, ii, addI, subI, negI, int1, eqI, neI, eqS, neS, ix0, ix1, ix2, ix3, decide_eq_true_eq, Bool.not_eq_true', decide_eq_false_iff_not, truB, truN, keyI, keyS, lenT, wipeM, wp_fld, wp_meth, wp_make, wpx_eL, wpx_sL, wpx_cons, kx_nx, kx_rt, kx_xc, wpx_if, wpx_raise, wpx_set, wpx_do, wpx_ret, vx_l, vx_r, wpx_op, gx_l, gx_r, wpx_put, px_l, px_r, wpx_meth, wpx_fn, exk_rt, exk_nx, exk_xc, wp_dn, tx_nx, tx_rt, tx_xc, txa_nx, txa_rt, txa_xc]
    exact h2 e
end
end K72

set_option Elab.async false
set_option linter.all false
set_option maxRecDepth 100000
namespace K72
open PySem PySem.Spec PyProof.Rows L2 Mir
section
variable {s : Sto} {hp wr br : Nat} {c : Int} {M : List Int} {B : List Nat}
theorem ft_ok {n : Nat} (h : Ht s hp wr br c M B) : FHeapFits [.ref hp, .int (n : Int)] s = some (.bl (decide ((M.length : Int) + 4 + (n : Int) ≤ c)), s) := by
  have key : Wp (FHeapFits [.ref hp, .int (n : Int)] s) (fun w s1 => w = .bl (decide ((M.length : Int) + 4 + (n : Int) ≤ c)) ∧ s1 = s) := by
    unfold FHeapFits
    rw [wp_mkF (by rfl)]
    unfold BHeapFits
    repeat first | with_reducible refine Eq.mpr wps_cons ?_ | with_reducible refine Eq.mpr wps_pass ?_ | with_reducible refine Eq.mpr wps_nil ?_ | with_reducible refine Eq.mpr wps_set ?_ | with_reducible refine Eq.mpr wps_do ?_ | with_reducible refine Eq.mpr wps_ret ?_ | with_reducible refine Eq.mpr wps_retN ?_ | with_reducible refine Eq.mpr wps_brk ?_ | with_reducible refine Eq.mpr wps_cnt ?_ | with_reducible refine Eq.mpr wps_if ?_ | with_reducible refine Eq.mpr wps_asg ?_ | with_reducible refine wps_asgL ?_ | with_reducible refine Eq.mpr wps_put ?_ | with_reducible refine Eq.mpr wps_dput ?_ | with_reducible refine Eq.mpr wps_aug ?_ | with_reducible refine Eq.mpr wps_par ?_ | with_reducible refine Eq.mpr wps_for ?_ | with_reducible refine Eq.mpr wps_wh ?_ | with_reducible refine Eq.mpr wps_fld ?_ | with_reducible refine Eq.mpr wps_try ?_ | with_reducible refine Eq.mpr wps_tryAs ?_ | simp only [wp_tup0, wp_tup1, wp_tup2, wp_tup3, wp_tup4, wp_tup5, wp_tup6, wp_tup7, wp_lst0, wp_lst1, wp_lst2, wp_lst3, wp_lst4, wp_lst5, wp_lst6, wp_lst7, wp_lst8, wp_lst9, wp_lst10, wp_lst11, wp_lst12, wp_bd, wp_lc, ql_nx, ql_ct, ql_bk, ql_rt, iSeq, iEnu, Mir.iRev, chkR, chkT, chkO, lstO, wp_some, wp_ite, wp_none, bd_some, eVar, eC, eOp, eUn, eFn, eMt, aNil, aCons,  eAnd, eOr, eNot, eIf, eIsi, eChain, bTest, bTruth, bAnd, bOr, bNot, bYes, eSl, pNo, pAt, eRinA, eRinB, eDnew, eDin, eDget, eDget2, tgM_name, tgM_tup, tgMs_nil, tgMs_name, tgMs_tup, List.getElem?_cons_succ, List.getElem?_cons_zero, List.set_cons_succ, List.set_cons_zero, List.map_cons, List.map_nil, List.length_cons, List.length_nil, List.replicate, List.nil_append, List.cons_append, if_true, if_false, Bool.false_eq_true, Bool.true_eq_false, Nat.reduceAdd, Nat.reduceSub, Nat.reduceLeDiff, Nat.zero_add, Bool.not_true, Bool.not_false, nc0, nc1, nc2, nc3, not_true_eq_false, not_false_eq_true, ii, addI, subI, negI, int1, eqI, neI, eqS, neS, ix0, ix1, ix2, ix3, decide_eq_true_eq, Bool.not_eq_true', decide_eq_false_iff_not, truB, truN, keyI, keyS, lenT, wipeM, wp_fld, wp_meth, wp_make, wpx_eL, wpx_sL, wpx_cons, kx_nx, kx_rt, kx_xc, wpx_if, wpx_raise, wpx_set, wpx_do, wpx_ret, vx_l, vx_r, wpx_op, gx_l, gx_r, wpx_put, px_l, px_r, wpx_meth, wpx_fn, exk_rt, exk_nx, exk_xc, wp_dn, tx_nx, tx_rt, tx_xc, txa_nx, txa_rt, txa_xc, h.fW, h.fC, lenL h.wds, leI]
    rw [List.length_map]
    simp
  obtain ⟨w, s1, e, rfl, rfl⟩ := key
  exact e
theorem lt_of_mem (o : HpOk M B) {b : Nat} (hb : b ∈ B) : b + 4 ≤ M.length := by
  obtain ⟨n, e1, e2, e3⟩ := o.ok b hb
  omega
theorem HpOk.make (o : HpOk M B) (k a z : Int) (F : List Int) (hF : M.length + F.length ≤ 80000) : HpOk (M ++ (k :: a :: z :: (F.length : Int) :: F)) (B ++ [M.length]) := by
  refine ⟨fun b hb => ?_, ?_, ?_⟩
  · rcases List.mem_append.mp hb with hb | hb
    · obtain ⟨n, e1, e2, e3⟩ := o.ok b hb
      have := lt_of_mem o hb
      refine ⟨n, ?_, ?_, fun b' hb' hl => ?_⟩
      · rw [List.getElem?_append_left (by omega)]
        exact e1
      · rw [List.length_append]
        omega
      · rcases List.mem_append.mp hb' with hb' | hb'
        · exact e3 b' hb' hl
        · rw [List.mem_singleton.mp hb']
          exact e2
    · rw [List.mem_singleton.mp hb]
      refine ⟨F.length, ?_, ?_, fun b' hb' hl => ?_⟩
      · rw [List.getElem?_append_right (by omega), show M.length + 3 - M.length = 3 by omega]
        rfl
      · simp only [List.length_append, List.length_cons]
        omega
      · rcases List.mem_append.mp hb' with hb' | hb'
        · have := lt_of_mem o hb'
          omega
        · rw [List.mem_singleton.mp hb'] at hl
          omega
  · have := o.len
    simp only [List.length_append, List.length_cons, List.length_nil]
    omega
  · have := o.sz
    simp only [List.length_append, List.length_cons]
    omega
theorem HpOk.put (o : HpOk M B) {b n j : Nat} {v : Int} (hb : b ∈ B) (en : M[b + 3]? = some (n : Int)) (hj : j < n) : HpOk (M.set (b + 4 + j) v) B := by
  refine ⟨fun b' hb' => ?_, by rw [List.length_set]; exact o.len, by rw [List.length_set]; exact o.sz⟩
  obtain ⟨n', e1, e2, e3⟩ := o.ok b' hb'
  obtain ⟨n0, f1, f2, f3⟩ := o.ok b hb
  rw [en] at f1
  have : n = n0 := by have := Option.some.inj f1; omega
  refine ⟨n', ?_, by rw [List.length_set]; exact e2, e3⟩
  rw [List.getElem?_set_ne]
  · exact e1
  · intro z
    rcases Nat.lt_trichotomy b b' with h | h | h
    · have := f3 b' hb' h
      omega
    · omega
    · have := e3 b hb h
      omega
theorem seqR {n : Nat} {ws : List W} (h : s[n]? = some (.lst ws)) : seqOf (.ref n) s = some ws := by simp only [seqOf, h]
theorem mk_ok {k a z : Int} {f : Nat} {F : List Int} {R : Sum W Str → Sto → Prop} (h : Ht s hp wr br c M B) (o : HpOk M B) (hf : s[f]? = some (.lst (wi F))) (hfl : F.length ≤ 1000) (hM : M.length ≤ 1000) (d1 : hp ≠ wr) (d2 : hp ≠ br) (d3 : wr ≠ br)
    (h1 : (M.length : Int) + 4 + (F.length : Int) ≤ c → ∀ s', Ht s' hp wr br c (M ++ (k :: a :: z :: (F.length : Int) :: F)) (B ++ [M.length]) → Fr [wr, br] s s' → R (.inl (.int (4 * (M.length : Int) + 1))) s')
    (h2 : ¬ (M.length : Int) + 4 + (F.length : Int) ≤ c → R (.inr "OutOfRoom") s) : Wp (FHeapMake [.ref hp, .int k, .int a, .int z, .ref f] s) R := by
  have lf : gLen [.ref f] s = some (.int (F.length : Int), s) := by rw [lenL hf, List.length_map]
  unfold FHeapMake
  rw [wpx_mk (by rfl)]
  unfold BHeapMake
  repeat first | with_reducible refine Eq.mpr wps_cons ?_ | with_reducible refine Eq.mpr wps_pass ?_ | with_reducible refine Eq.mpr wps_nil ?_ | with_reducible refine Eq.mpr wps_set ?_ | with_reducible refine Eq.mpr wps_do ?_ | with_reducible refine Eq.mpr wps_ret ?_ | with_reducible refine Eq.mpr wps_retN ?_ | with_reducible refine Eq.mpr wps_brk ?_ | with_reducible refine Eq.mpr wps_cnt ?_ | with_reducible refine Eq.mpr wps_if ?_ | with_reducible refine Eq.mpr wps_asg ?_ | with_reducible refine wps_asgL ?_ | with_reducible refine Eq.mpr wps_put ?_ | with_reducible refine Eq.mpr wps_dput ?_ | with_reducible refine Eq.mpr wps_aug ?_ | with_reducible refine Eq.mpr wps_par ?_ | with_reducible refine Eq.mpr wps_for ?_ | with_reducible refine Eq.mpr wps_wh ?_ | with_reducible refine Eq.mpr wps_fld ?_ | with_reducible refine Eq.mpr wps_try ?_ | with_reducible refine Eq.mpr wps_tryAs ?_ | simp only [wp_tup0, wp_tup1, wp_tup2, wp_tup3, wp_tup4, wp_tup5, wp_tup6, wp_tup7, wp_lst0, wp_lst1, wp_lst2, wp_lst3, wp_lst4, wp_lst5, wp_lst6, wp_lst7, wp_lst8, wp_lst9, wp_lst10, wp_lst11, wp_lst12, wp_bd, wp_lc, ql_nx, ql_ct, ql_bk, ql_rt, iSeq, iEnu, Mir.iRev, chkR, chkT, chkO, lstO, wp_some, wp_ite, wp_none, bd_some, eVar, eC, eOp, eUn, eFn, eMt, aNil, aCons,  eAnd, eOr, eNot, eIf, eIsi, eChain, bTest, bTruth, bAnd, bOr, bNot, bYes, eSl, pNo, pAt, eRinA, eRinB, eDnew, eDin, eDget, eDget2, tgM_name, tgM_tup, tgMs_nil, tgMs_name, tgMs_tup, List.getElem?_cons_succ, List.getElem?_cons_zero, List.set_cons_succ, List.set_cons_zero, List.map_cons, List.map_nil, List.length_cons, List.length_nil, List.replicate, List.nil_append, List.cons_append, if_true, if_false, Bool.false_eq_true, Bool.true_eq_false, Nat.reduceAdd, Nat.reduceSub, Nat.reduceLeDiff, Nat.zero_add, Bool.not_true, Bool.not_false, nc0, nc1, nc2, nc3, not_true_eq_false, not_false_eq_true, ii, addI, subI, negI, int1, eqI, neI, eqS, neS, ix0, ix1, ix2, ix3, decide_eq_true_eq, Bool.not_eq_true', decide_eq_false_iff_not, truB, truN, keyI, keyS, lenT, wipeM, wp_fld, wp_meth, wp_make, wpx_eL, wpx_sL, wpx_cons, kx_nx, kx_rt, kx_xc, wpx_if, wpx_raise, wpx_set, wpx_do, wpx_ret, vx_l, vx_r, wpx_op, gx_l, gx_r, wpx_put, px_l, px_r, wpx_meth, wpx_fn, exk_rt, exk_nx, exk_xc, wp_dn, tx_nx, tx_rt, tx_xc, txa_nx, txa_rt, txa_xc, h.iM (m := "fits"), lf, ft_ok h]
  by_cases q : (M.length : Int) + 4 + (F.length : Int) ≤ c
  · have hn : look (B.map bk) (.inl (M.length : Int)) = none := by
      have e := look_bk (M.length : Int) B
      have e2 : B.any (fun b => decide ((b : Int) = (M.length : Int))) = false := List.any_eq_false.mpr fun b hb z => by
        have := lt_of_mem o hb
        have := of_decide_eq_true z
        omega
      rw [e2] at e
      exact Option.isNone_iff_eq_none.mp (by rw [← Option.not_isSome]; simp [e])
    have lw : gLen [.ref wr] s = some (.int (M.length : Int), s) := by rw [lenL h.wds, List.length_map]
    repeat first | with_reducible refine Eq.mpr wps_cons ?_ | with_reducible refine Eq.mpr wps_pass ?_ | with_reducible refine Eq.mpr wps_nil ?_ | with_reducible refine Eq.mpr wps_set ?_ | with_reducible refine Eq.mpr wps_do ?_ | with_reducible refine Eq.mpr wps_ret ?_ | with_reducible refine Eq.mpr wps_retN ?_ | with_reducible refine Eq.mpr wps_brk ?_ | with_reducible refine Eq.mpr wps_cnt ?_ | with_reducible refine Eq.mpr wps_if ?_ | with_reducible refine Eq.mpr wps_asg ?_ | with_reducible refine wps_asgL ?_ | with_reducible refine Eq.mpr wps_put ?_ | with_reducible refine Eq.mpr wps_dput ?_ | with_reducible refine Eq.mpr wps_aug ?_ | with_reducible refine Eq.mpr wps_par ?_ | with_reducible refine Eq.mpr wps_for ?_ | with_reducible refine Eq.mpr wps_wh ?_ | with_reducible refine Eq.mpr wps_fld ?_ | with_reducible refine Eq.mpr wps_try ?_ | with_reducible refine Eq.mpr wps_tryAs ?_ | simp only [wp_tup0, wp_tup1, wp_tup2, wp_tup3, wp_tup4, wp_tup5, wp_tup6, wp_tup7, wp_lst0, wp_lst1, wp_lst2, wp_lst3, wp_lst4, wp_lst5, wp_lst6, wp_lst7, wp_lst8, wp_lst9, wp_lst10, wp_lst11, wp_lst12, wp_bd, wp_lc, ql_nx, ql_ct, ql_bk, ql_rt, iSeq, iEnu, Mir.iRev, chkR, chkT, chkO, lstO, wp_some, wp_ite, wp_none, bd_some, eVar, eC, eOp, eUn, eFn, eMt, aNil, aCons,  eAnd, eOr, eNot, eIf, eIsi, eChain, bTest, bTruth, bAnd, bOr, bNot, bYes, eSl, pNo, pAt, eRinA, eRinB, eDnew, eDin, eDget, eDget2, tgM_name, tgM_tup, tgMs_nil, tgMs_name, tgMs_tup, List.getElem?_cons_succ, List.getElem?_cons_zero, List.set_cons_succ, List.set_cons_zero, List.map_cons, List.map_nil, List.length_cons, List.length_nil, List.replicate, List.nil_append, List.cons_append, if_true, if_false, Bool.false_eq_true, Bool.true_eq_false, Nat.reduceAdd, Nat.reduceSub, Nat.reduceLeDiff, Nat.zero_add, Bool.not_true, Bool.not_false, nc0, nc1, nc2, nc3, not_true_eq_false, not_false_eq_true, ii, addI, subI, negI, int1, eqI, neI, eqS, neS, ix0, ix1, ix2, ix3, decide_eq_true_eq, Bool.not_eq_true', decide_eq_false_iff_not, truB, truN, keyI, keyS, lenT, wipeM, wp_fld, wp_meth, wp_make, wpx_eL, wpx_sL, wpx_cons, kx_nx, kx_rt, kx_xc, wpx_if, wpx_raise, wpx_set, wpx_do, wpx_ret, vx_l, vx_r, wpx_op, gx_l, gx_r, wpx_put, px_l, px_r, wpx_meth, wpx_fn, exk_rt, exk_nx, exk_xc, wp_dn, tx_nx, tx_rt, tx_xc, txa_nx, txa_rt, txa_xc, q, decide_true, truB, h.fW, lw, h.fB, dcR h.bgs, keyI, put_new hn]
    refine ⟨by have := o.len; rw [List.length_map]; omega, ?_⟩
    obtain ⟨s2, es2⟩ : ∃ s2, s2 = s.set br (.dct (B.map bk ++ [(.inl (M.length : Int), .bl true)])) := ⟨_, rfl⟩
    rw [← es2]
    have f2 : Fr [br] s s2 := by rw [es2]; exact .set (by simp)
    have i2 : s2[hp]? = some (.ins "Heap" (hF c wr br)) := f2.at_ _ _ (by simpa using d2) h.ins
    have w2 : s2[wr]? = some (.lst (wi M)) := f2.at_ _ _ (by simpa using d3) h.wds
    have b2 : s2[br]? = some (.dct ((B ++ [M.length]).map bk)) := by rw [es2, getset h.bgs]; simp [bk]
    have g2 : s2[f]? = some (.lst (wi F)) := f2.at_ _ _ (by
      simp only [List.mem_singleton]
      intro e
      rw [e, h.bgs] at hf
      cases hf) hf
    have fw2 : gFld "Heap" "words" (.ref hp) s2 = some (.ref wr, s2) := fldR i2 lkW
    have lf2 : gLen [.ref f] s2 = some (.int (F.length : Int), s2) := by rw [lenL g2, List.length_map]
    repeat first | with_reducible refine Eq.mpr wps_cons ?_ | with_reducible refine Eq.mpr wps_pass ?_ | with_reducible refine Eq.mpr wps_nil ?_ | with_reducible refine Eq.mpr wps_set ?_ | with_reducible refine Eq.mpr wps_do ?_ | with_reducible refine Eq.mpr wps_ret ?_ | with_reducible refine Eq.mpr wps_retN ?_ | with_reducible refine Eq.mpr wps_brk ?_ | with_reducible refine Eq.mpr wps_cnt ?_ | with_reducible refine Eq.mpr wps_if ?_ | with_reducible refine Eq.mpr wps_asg ?_ | with_reducible refine wps_asgL ?_ | with_reducible refine Eq.mpr wps_put ?_ | with_reducible refine Eq.mpr wps_dput ?_ | with_reducible refine Eq.mpr wps_aug ?_ | with_reducible refine Eq.mpr wps_par ?_ | with_reducible refine Eq.mpr wps_for ?_ | with_reducible refine Eq.mpr wps_wh ?_ | with_reducible refine Eq.mpr wps_fld ?_ | with_reducible refine Eq.mpr wps_try ?_ | with_reducible refine Eq.mpr wps_tryAs ?_ | simp only [wp_tup0, wp_tup1, wp_tup2, wp_tup3, wp_tup4, wp_tup5, wp_tup6, wp_tup7, wp_lst0, wp_lst1, wp_lst2, wp_lst3, wp_lst4, wp_lst5, wp_lst6, wp_lst7, wp_lst8, wp_lst9, wp_lst10, wp_lst11, wp_lst12, wp_bd, wp_lc, ql_nx, ql_ct, ql_bk, ql_rt, iSeq, iEnu, Mir.iRev, chkR, chkT, chkO, lstO, wp_some, wp_ite, wp_none, bd_some, eVar, eC, eOp, eUn, eFn, eMt, aNil, aCons,  eAnd, eOr, eNot, eIf, eIsi, eChain, bTest, bTruth, bAnd, bOr, bNot, bYes, eSl, pNo, pAt, eRinA, eRinB, eDnew, eDin, eDget, eDget2, tgM_name, tgM_tup, tgMs_nil, tgMs_name, tgMs_tup, List.getElem?_cons_succ, List.getElem?_cons_zero, List.set_cons_succ, List.set_cons_zero, List.map_cons, List.map_nil, List.length_cons, List.length_nil, List.replicate, List.nil_append, List.cons_append, if_true, if_false, Bool.false_eq_true, Bool.true_eq_false, Nat.reduceAdd, Nat.reduceSub, Nat.reduceLeDiff, Nat.zero_add, Bool.not_true, Bool.not_false, nc0, nc1, nc2, nc3, not_true_eq_false, not_false_eq_true, ii, addI, subI, negI, int1, eqI, neI, eqS, neS, ix0, ix1, ix2, ix3, decide_eq_true_eq, Bool.not_eq_true', decide_eq_false_iff_not, truB, truN, keyI, keyS, lenT, wipeM, wp_fld, wp_meth, wp_make, wpx_eL, wpx_sL, wpx_cons, kx_nx, kx_rt, kx_xc, wpx_if, wpx_raise, wpx_set, wpx_do, wpx_ret, vx_l, vx_r, wpx_op, gx_l, gx_r, wpx_put, px_l, px_r, wpx_meth, wpx_fn, exk_rt, exk_nx, exk_xc, wp_dn, tx_nx, tx_rt, tx_xc, txa_nx, txa_rt, txa_xc, fw2]
    repeat first | with_reducible refine Eq.mpr wps_cons ?_ | with_reducible refine Eq.mpr wps_pass ?_ | with_reducible refine Eq.mpr wps_nil ?_ | with_reducible refine Eq.mpr wps_set ?_ | with_reducible refine Eq.mpr wps_do ?_ | with_reducible refine Eq.mpr wps_ret ?_ | with_reducible refine Eq.mpr wps_retN ?_ | with_reducible refine Eq.mpr wps_brk ?_ | with_reducible refine Eq.mpr wps_cnt ?_ | with_reducible refine Eq.mpr wps_if ?_ | with_reducible refine Eq.mpr wps_asg ?_ | with_reducible refine wps_asgL ?_ | with_reducible refine Eq.mpr wps_put ?_ | with_reducible refine Eq.mpr wps_dput ?_ | with_reducible refine Eq.mpr wps_aug ?_ | with_reducible refine Eq.mpr wps_par ?_ | with_reducible refine Eq.mpr wps_for ?_ | with_reducible refine Eq.mpr wps_wh ?_ | with_reducible refine Eq.mpr wps_fld ?_ | with_reducible refine Eq.mpr wps_try ?_ | with_reducible refine Eq.mpr wps_tryAs ?_ | simp only [wp_tup0, wp_tup1, wp_tup2, wp_tup3, wp_tup4, wp_tup5, wp_tup6, wp_tup7, wp_lst0, wp_lst1, wp_lst2, wp_lst3, wp_lst4, wp_lst5, wp_lst6, wp_lst7, wp_lst8, wp_lst9, wp_lst10, wp_lst11, wp_lst12, wp_bd, wp_lc, ql_nx, ql_ct, ql_bk, ql_rt, iSeq, iEnu, Mir.iRev, chkR, chkT, chkO, lstO, wp_some, wp_ite, wp_none, bd_some, eVar, eC, eOp, eUn, eFn, eMt, aNil, aCons,  eAnd, eOr, eNot, eIf, eIsi, eChain, bTest, bTruth, bAnd, bOr, bNot, bYes, eSl, pNo, pAt, eRinA, eRinB, eDnew, eDin, eDget, eDget2, tgM_name, tgM_tup, tgMs_nil, tgMs_name, tgMs_tup, List.getElem?_cons_succ, List.getElem?_cons_zero, List.set_cons_succ, List.set_cons_zero, List.map_cons, List.map_nil, List.length_cons, List.length_nil, List.replicate, List.nil_append, List.cons_append, if_true, if_false, Bool.false_eq_true, Bool.true_eq_false, Nat.reduceAdd, Nat.reduceSub, Nat.reduceLeDiff, Nat.zero_add, Bool.not_true, Bool.not_false, nc0, nc1, nc2, nc3, not_true_eq_false, not_false_eq_true, ii, addI, subI, negI, int1, eqI, neI, eqS, neS, ix0, ix1, ix2, ix3, decide_eq_true_eq, Bool.not_eq_true', decide_eq_false_iff_not, truB, truN, keyI, keyS, lenT, wipeM, wp_fld, wp_meth, wp_make, wpx_eL, wpx_sL, wpx_cons, kx_nx, kx_rt, kx_xc, wpx_if, wpx_raise, wpx_set, wpx_do, wpx_ret, vx_l, vx_r, wpx_op, gx_l, gx_r, wpx_put, px_l, px_r, wpx_meth, wpx_fn, exk_rt, exk_nx, exk_xc, wp_dn, tx_nx, tx_rt, tx_xc, txa_nx, txa_rt, txa_xc, fw2, isLR w2]
    rw [wp_lstG]
    repeat first | with_reducible refine Eq.mpr wps_cons ?_ | with_reducible refine Eq.mpr wps_pass ?_ | with_reducible refine Eq.mpr wps_nil ?_ | with_reducible refine Eq.mpr wps_set ?_ | with_reducible refine Eq.mpr wps_do ?_ | with_reducible refine Eq.mpr wps_ret ?_ | with_reducible refine Eq.mpr wps_retN ?_ | with_reducible refine Eq.mpr wps_brk ?_ | with_reducible refine Eq.mpr wps_cnt ?_ | with_reducible refine Eq.mpr wps_if ?_ | with_reducible refine Eq.mpr wps_asg ?_ | with_reducible refine wps_asgL ?_ | with_reducible refine Eq.mpr wps_put ?_ | with_reducible refine Eq.mpr wps_dput ?_ | with_reducible refine Eq.mpr wps_aug ?_ | with_reducible refine Eq.mpr wps_par ?_ | with_reducible refine Eq.mpr wps_for ?_ | with_reducible refine Eq.mpr wps_wh ?_ | with_reducible refine Eq.mpr wps_fld ?_ | with_reducible refine Eq.mpr wps_try ?_ | with_reducible refine Eq.mpr wps_tryAs ?_ | simp only [wp_tup0, wp_tup1, wp_tup2, wp_tup3, wp_tup4, wp_tup5, wp_tup6, wp_tup7, wp_lst0, wp_lst1, wp_lst2, wp_lst3, wp_lst4, wp_lst5, wp_lst6, wp_lst7, wp_lst8, wp_lst9, wp_lst10, wp_lst11, wp_lst12, wp_bd, wp_lc, ql_nx, ql_ct, ql_bk, ql_rt, iSeq, iEnu, Mir.iRev, chkR, chkT, chkO, lstO, wp_some, wp_ite, wp_none, bd_some, eVar, eC, eOp, eUn, eFn, eMt, aNil, aCons,  eAnd, eOr, eNot, eIf, eIsi, eChain, bTest, bTruth, bAnd, bOr, bNot, bYes, eSl, pNo, pAt, eRinA, eRinB, eDnew, eDin, eDget, eDget2, tgM_name, tgM_tup, tgMs_nil, tgMs_name, tgMs_tup, List.getElem?_cons_succ, List.getElem?_cons_zero, List.set_cons_succ, List.set_cons_zero, List.map_cons, List.map_nil, List.length_cons, List.length_nil, List.replicate, List.nil_append, List.cons_append, if_true, if_false, Bool.false_eq_true, Bool.true_eq_false, Nat.reduceAdd, Nat.reduceSub, Nat.reduceLeDiff, Nat.zero_add, Bool.not_true, Bool.not_false, nc0, nc1, nc2, nc3, not_true_eq_false, not_false_eq_true, ii, addI, subI, negI, int1, eqI, neI, eqS, neS, ix0, ix1, ix2, ix3, decide_eq_true_eq, Bool.not_eq_true', decide_eq_false_iff_not, truB, truN, keyI, keyS, lenT, wipeM, wp_fld, wp_meth, wp_make, wpx_eL, wpx_sL, wpx_cons, kx_nx, kx_rt, kx_xc, wpx_if, wpx_raise, wpx_set, wpx_do, wpx_ret, vx_l, vx_r, wpx_op, gx_l, gx_r, wpx_put, px_l, px_r, wpx_meth, wpx_fn, exk_rt, exk_nx, exk_xc, wp_dn, tx_nx, tx_rt, tx_xc, txa_nx, txa_rt, txa_xc, lf2, aStar, seqR g2]
    refine ⟨by simp; omega, ?_⟩
    obtain ⟨s3, es3⟩ : ∃ s3, s3 = s2 ++ [O.lst (.int k :: .int a :: .int z :: .int (F.length : Int) :: wi F)] := ⟨_, rfl⟩
    have w3 : s3[wr]? = some (.lst (wi M)) := by rw [es3]; exact gapp w2
    have n3 : s3[s2.length]? = some (.lst (.int k :: .int a :: .int z :: .int (F.length : Int) :: wi F)) := by rw [es3]; exact gnew
    have ex : gExtend (.ref wr) [.ref s2.length] s3 = some (.non, s3.set wr (.lst (wi M ++ (.int k :: .int a :: .int z :: .int (F.length : Int) :: wi F)))) := extL w3 n3 (by simp; omega)
    simp only [List.append_nil] at *
    rw [← es3]
    repeat first | with_reducible refine Eq.mpr wps_cons ?_ | with_reducible refine Eq.mpr wps_pass ?_ | with_reducible refine Eq.mpr wps_nil ?_ | with_reducible refine Eq.mpr wps_set ?_ | with_reducible refine Eq.mpr wps_do ?_ | with_reducible refine Eq.mpr wps_ret ?_ | with_reducible refine Eq.mpr wps_retN ?_ | with_reducible refine Eq.mpr wps_brk ?_ | with_reducible refine Eq.mpr wps_cnt ?_ | with_reducible refine Eq.mpr wps_if ?_ | with_reducible refine Eq.mpr wps_asg ?_ | with_reducible refine wps_asgL ?_ | with_reducible refine Eq.mpr wps_put ?_ | with_reducible refine Eq.mpr wps_dput ?_ | with_reducible refine Eq.mpr wps_aug ?_ | with_reducible refine Eq.mpr wps_par ?_ | with_reducible refine Eq.mpr wps_for ?_ | with_reducible refine Eq.mpr wps_wh ?_ | with_reducible refine Eq.mpr wps_fld ?_ | with_reducible refine Eq.mpr wps_try ?_ | with_reducible refine Eq.mpr wps_tryAs ?_ | simp only [wp_tup0, wp_tup1, wp_tup2, wp_tup3, wp_tup4, wp_tup5, wp_tup6, wp_tup7, wp_lst0, wp_lst1, wp_lst2, wp_lst3, wp_lst4, wp_lst5, wp_lst6, wp_lst7, wp_lst8, wp_lst9, wp_lst10, wp_lst11, wp_lst12, wp_bd, wp_lc, ql_nx, ql_ct, ql_bk, ql_rt, iSeq, iEnu, Mir.iRev, chkR, chkT, chkO, lstO, wp_some, wp_ite, wp_none, bd_some, eVar, eC, eOp, eUn, eFn, eMt, aNil, aCons,  eAnd, eOr, eNot, eIf, eIsi, eChain, bTest, bTruth, bAnd, bOr, bNot, bYes, eSl, pNo, pAt, eRinA, eRinB, eDnew, eDin, eDget, eDget2, tgM_name, tgM_tup, tgMs_nil, tgMs_name, tgMs_tup, List.getElem?_cons_succ, List.getElem?_cons_zero, List.set_cons_succ, List.set_cons_zero, List.map_cons, List.map_nil, List.length_cons, List.length_nil, List.replicate, List.nil_append, List.cons_append, if_true, if_false, Bool.false_eq_true, Bool.true_eq_false, Nat.reduceAdd, Nat.reduceSub, Nat.reduceLeDiff, Nat.zero_add, Bool.not_true, Bool.not_false, nc0, nc1, nc2, nc3, not_true_eq_false, not_false_eq_true, ii, addI, subI, negI, int1, eqI, neI, eqS, neS, ix0, ix1, ix2, ix3, decide_eq_true_eq, Bool.not_eq_true', decide_eq_false_iff_not, truB, truN, keyI, keyS, lenT, wipeM, wp_fld, wp_meth, wp_make, wpx_eL, wpx_sL, wpx_cons, kx_nx, kx_rt, kx_xc, wpx_if, wpx_raise, wpx_set, wpx_do, wpx_ret, vx_l, vx_r, wpx_op, gx_l, gx_r, wpx_put, px_l, px_r, wpx_meth, wpx_fn, exk_rt, exk_nx, exk_xc, wp_dn, tx_nx, tx_rt, tx_xc, txa_nx, txa_rt, txa_xc, ex, wb_ok]
    refine h1 q _ ⟨?_, ?_, ?_⟩ ?_
    · rw [getne d1, es3]; exact gapp i2
    · rw [getset w3]; simp [wi]
    · rw [getne d3.symm, es3]; exact gapp b2
    · exact (f2.mono (by simp)).trans (Fr.trans (by rw [es3]; exact .app) (.set (by simp)))
  · repeat first | with_reducible refine Eq.mpr wps_cons ?_ | with_reducible refine Eq.mpr wps_pass ?_ | with_reducible refine Eq.mpr wps_nil ?_ | with_reducible refine Eq.mpr wps_set ?_ | with_reducible refine Eq.mpr wps_do ?_ | with_reducible refine Eq.mpr wps_ret ?_ | with_reducible refine Eq.mpr wps_retN ?_ | with_reducible refine Eq.mpr wps_brk ?_ | with_reducible refine Eq.mpr wps_cnt ?_ | with_reducible refine Eq.mpr wps_if ?_ | with_reducible refine Eq.mpr wps_asg ?_ | with_reducible refine wps_asgL ?_ | with_reducible refine Eq.mpr wps_put ?_ | with_reducible refine Eq.mpr wps_dput ?_ | with_reducible refine Eq.mpr wps_aug ?_ | with_reducible refine Eq.mpr wps_par ?_ | with_reducible refine Eq.mpr wps_for ?_ | with_reducible refine Eq.mpr wps_wh ?_ | with_reducible refine Eq.mpr wps_fld ?_ | with_reducible refine Eq.mpr wps_try ?_ | with_reducible refine Eq.mpr wps_tryAs ?_ | simp only [wp_tup0, wp_tup1, wp_tup2, wp_tup3, wp_tup4, wp_tup5, wp_tup6, wp_tup7, wp_lst0, wp_lst1, wp_lst2, wp_lst3, wp_lst4, wp_lst5, wp_lst6, wp_lst7, wp_lst8, wp_lst9, wp_lst10, wp_lst11, wp_lst12, wp_bd, wp_lc, ql_nx, ql_ct, ql_bk, ql_rt, iSeq, iEnu, Mir.iRev, chkR, chkT, chkO, lstO, wp_some, wp_ite, wp_none, bd_some, eVar, eC, eOp, eUn, eFn, eMt, aNil, aCons,  eAnd, eOr, eNot, eIf, eIsi, eChain, bTest, bTruth, bAnd, bOr, bNot, bYes, eSl, pNo, pAt, eRinA, eRinB, eDnew, eDin, eDget, eDget2, tgM_name, tgM_tup, tgMs_nil, tgMs_name, tgMs_tup, List.getElem?_cons_succ, List.getElem?_cons_zero, List.set_cons_succ, List.set_cons_zero, List.map_cons, List.map_nil, List.length_cons, List.length_nil, List.replicate, List.nil_append, List.cons_append, if_true, if_false, Bool.false_eq_true, Bool.true_eq_false, Nat.reduceAdd, Nat.reduceSub, Nat.reduceLeDiff, Nat.zero_add, Bool.not_true, Bool.not_false, nc0, nc1, nc2, nc3, not_true_eq_false, not_false_eq_true, ii, addI, subI, negI, int1, eqI, neI, eqS, neS, ix0, ix1, ix2, ix3, decide_eq_true_eq, Bool.not_eq_true', decide_eq_false_iff_not, truB, truN, keyI, keyS, lenT, wipeM, wp_fld, wp_meth, wp_make, wpx_eL, wpx_sL, wpx_cons, kx_nx, kx_rt, kx_xc, wpx_if, wpx_raise, wpx_set, wpx_do, wpx_ret, vx_l, vx_r, wpx_op, gx_l, gx_r, wpx_put, px_l, px_r, wpx_meth, wpx_fn, exk_rt, exk_nx, exk_xc, wp_dn, tx_nx, tx_rt, tx_xc, txa_nx, txa_rt, txa_xc, q, decide_false, truB]
    exact h2 q
theorem rf_ok {w i : Int} {R : W → Sto → Prop} (h : Ht s hp wr br c M B) (o : HpOk M B)
    (h1 : (∀ b ∈ B, w ≠ 4 * (b : Int) + 1) → R (.int 3) s)
    (h2 : ∀ b n : Nat, b ∈ B → w = 4 * (b : Int) + 1 → M[b + 3]? = some (n : Int) → ¬ (0 ≤ i ∧ i < (n : Int)) → ∀ s', Fr [] s s' → R (.int 2) s')
    (h3 : (∀ b ∈ B, w ≠ 4 * (b : Int) + 1) ∨ ∃ b n : Nat, b ∈ B ∧ w = 4 * (b : Int) + 1 ∧ M[b + 3]? = some (n : Int) ∧ ¬ (0 ≤ i ∧ i < (n : Int))) : Wp (FLawRefused [.ref hp, .int w, .int i] s) R := by
  have t1 : hit HT_NoBlock "NoBlock" = some true := by decide +kernel
  have t2 : (hit HT_ShapewrightError "NoBlock").getD false = true := by decide +kernel
  have t3 : (hit HT_OutOfRoom "NoBlock").getD false = false := by decide +kernel
  have ad : ∀ (x : Int) (s : Sto), gIAdd (.int x) (.int 1) s = some (.int (x + 1), s) := fun _ _ => rfl
  unfold FLawRefused
  rw [wp_mkF (by rfl)]
  unfold BLawRefused
  repeat first | with_reducible refine Eq.mpr wps_cons ?_ | with_reducible refine Eq.mpr wps_pass ?_ | with_reducible refine Eq.mpr wps_nil ?_ | with_reducible refine Eq.mpr wps_set ?_ | with_reducible refine Eq.mpr wps_do ?_ | with_reducible refine Eq.mpr wps_ret ?_ | with_reducible refine Eq.mpr wps_retN ?_ | with_reducible refine Eq.mpr wps_brk ?_ | with_reducible refine Eq.mpr wps_cnt ?_ | with_reducible refine Eq.mpr wps_if ?_ | with_reducible refine Eq.mpr wps_asg ?_ | with_reducible refine wps_asgL ?_ | with_reducible refine Eq.mpr wps_put ?_ | with_reducible refine Eq.mpr wps_dput ?_ | with_reducible refine Eq.mpr wps_aug ?_ | with_reducible refine Eq.mpr wps_par ?_ | with_reducible refine Eq.mpr wps_for ?_ | with_reducible refine Eq.mpr wps_wh ?_ | with_reducible refine Eq.mpr wps_fld ?_ | with_reducible refine Eq.mpr wps_try ?_ | with_reducible refine Eq.mpr wps_tryAs ?_ | simp only [wp_tup0, wp_tup1, wp_tup2, wp_tup3, wp_tup4, wp_tup5, wp_tup6, wp_tup7, wp_lst0, wp_lst1, wp_lst2, wp_lst3, wp_lst4, wp_lst5, wp_lst6, wp_lst7, wp_lst8, wp_lst9, wp_lst10, wp_lst11, wp_lst12, wp_bd, wp_lc, ql_nx, ql_ct, ql_bk, ql_rt, iSeq, iEnu, Mir.iRev, chkR, chkT, chkO, lstO, wp_some, wp_ite, wp_none, bd_some, eVar, eC, eOp, eUn, eFn, eMt, aNil, aCons,  eAnd, eOr, eNot, eIf, eIsi, eChain, bTest, bTruth, bAnd, bOr, bNot, bYes, eSl, pNo, pAt, eRinA, eRinB, eDnew, eDin, eDget, eDget2, tgM_name, tgM_tup, tgMs_nil, tgMs_name, tgMs_tup, List.getElem?_cons_succ, List.getElem?_cons_zero, List.set_cons_succ, List.set_cons_zero, List.map_cons, List.map_nil, List.length_cons, List.length_nil, List.replicate, List.nil_append, List.cons_append, if_true, if_false, Bool.false_eq_true, Bool.true_eq_false, Nat.reduceAdd, Nat.reduceSub, Nat.reduceLeDiff, Nat.zero_add, Bool.not_true, Bool.not_false, nc0, nc1, nc2, nc3, not_true_eq_false, not_false_eq_true, ii, addI, subI, negI, int1, eqI, neI, eqS, neS, ix0, ix1, ix2, ix3, decide_eq_true_eq, Bool.not_eq_true', decide_eq_false_iff_not, truB, truN, keyI, keyS, lenT, wipeM, wp_fld, wp_meth, wp_make, wpx_eL, wpx_sL, wpx_cons, kx_nx, kx_rt, kx_xc, wpx_if, wpx_raise, wpx_set, wpx_do, wpx_ret, vx_l, vx_r, wpx_op, gx_l, gx_r, wpx_put, px_l, px_r, wpx_meth, wpx_fn, exk_rt, exk_nx, exk_xc, wp_dn, tx_nx, tx_rt, tx_xc, txa_nx, txa_rt, txa_xc, h.iM (m := "header")]
  rcases h3 with h3 | ⟨b, n, hb, ew, en, hi⟩
  · refine hd_ok h (fun b hb e => absurd e (h3 b hb)) (fun _ => ?_)
    repeat first | with_reducible refine Eq.mpr wps_cons ?_ | with_reducible refine Eq.mpr wps_pass ?_ | with_reducible refine Eq.mpr wps_nil ?_ | with_reducible refine Eq.mpr wps_set ?_ | with_reducible refine Eq.mpr wps_do ?_ | with_reducible refine Eq.mpr wps_ret ?_ | with_reducible refine Eq.mpr wps_retN ?_ | with_reducible refine Eq.mpr wps_brk ?_ | with_reducible refine Eq.mpr wps_cnt ?_ | with_reducible refine Eq.mpr wps_if ?_ | with_reducible refine Eq.mpr wps_asg ?_ | with_reducible refine wps_asgL ?_ | with_reducible refine Eq.mpr wps_put ?_ | with_reducible refine Eq.mpr wps_dput ?_ | with_reducible refine Eq.mpr wps_aug ?_ | with_reducible refine Eq.mpr wps_par ?_ | with_reducible refine Eq.mpr wps_for ?_ | with_reducible refine Eq.mpr wps_wh ?_ | with_reducible refine Eq.mpr wps_fld ?_ | with_reducible refine Eq.mpr wps_try ?_ | with_reducible refine Eq.mpr wps_tryAs ?_ | simp only [wp_tup0, wp_tup1, wp_tup2, wp_tup3, wp_tup4, wp_tup5, wp_tup6, wp_tup7, wp_lst0, wp_lst1, wp_lst2, wp_lst3, wp_lst4, wp_lst5, wp_lst6, wp_lst7, wp_lst8, wp_lst9, wp_lst10, wp_lst11, wp_lst12, wp_bd, wp_lc, ql_nx, ql_ct, ql_bk, ql_rt, iSeq, iEnu, Mir.iRev, chkR, chkT, chkO, lstO, wp_some, wp_ite, wp_none, bd_some, eVar, eC, eOp, eUn, eFn, eMt, aNil, aCons,  eAnd, eOr, eNot, eIf, eIsi, eChain, bTest, bTruth, bAnd, bOr, bNot, bYes, eSl, pNo, pAt, eRinA, eRinB, eDnew, eDin, eDget, eDget2, tgM_name, tgM_tup, tgMs_nil, tgMs_name, tgMs_tup, List.getElem?_cons_succ, List.getElem?_cons_zero, List.set_cons_succ, List.set_cons_zero, List.map_cons, List.map_nil, List.length_cons, List.length_nil, List.replicate, List.nil_append, List.cons_append, if_true, if_false, Bool.false_eq_true, Bool.true_eq_false, Nat.reduceAdd, Nat.reduceSub, Nat.reduceLeDiff, Nat.zero_add, Bool.not_true, Bool.not_false, nc0, nc1, nc2, nc3, not_true_eq_false, not_false_eq_true, ii, addI, subI, negI, int1, eqI, neI, eqS, neS, ix0, ix1, ix2, ix3, decide_eq_true_eq, Bool.not_eq_true', decide_eq_false_iff_not, truB, truN, keyI, keyS, lenT, wipeM, wp_fld, wp_meth, wp_make, wpx_eL, wpx_sL, wpx_cons, kx_nx, kx_rt, kx_xc, wpx_if, wpx_raise, wpx_set, wpx_do, wpx_ret, vx_l, vx_r, wpx_op, gx_l, gx_r, wpx_put, px_l, px_r, wpx_meth, wpx_fn, exk_rt, exk_nx, exk_xc, wp_dn, tx_nx, tx_rt, tx_xc, txa_nx, txa_rt, txa_xc]
    refine ⟨t1, ?_⟩
    repeat first | with_reducible refine Eq.mpr wps_cons ?_ | with_reducible refine Eq.mpr wps_pass ?_ | with_reducible refine Eq.mpr wps_nil ?_ | with_reducible refine Eq.mpr wps_set ?_ | with_reducible refine Eq.mpr wps_do ?_ | with_reducible refine Eq.mpr wps_ret ?_ | with_reducible refine Eq.mpr wps_retN ?_ | with_reducible refine Eq.mpr wps_brk ?_ | with_reducible refine Eq.mpr wps_cnt ?_ | with_reducible refine Eq.mpr wps_if ?_ | with_reducible refine Eq.mpr wps_asg ?_ | with_reducible refine wps_asgL ?_ | with_reducible refine Eq.mpr wps_put ?_ | with_reducible refine Eq.mpr wps_dput ?_ | with_reducible refine Eq.mpr wps_aug ?_ | with_reducible refine Eq.mpr wps_par ?_ | with_reducible refine Eq.mpr wps_for ?_ | with_reducible refine Eq.mpr wps_wh ?_ | with_reducible refine Eq.mpr wps_fld ?_ | with_reducible refine Eq.mpr wps_try ?_ | with_reducible refine Eq.mpr wps_tryAs ?_ | simp only [wp_tup0, wp_tup1, wp_tup2, wp_tup3, wp_tup4, wp_tup5, wp_tup6, wp_tup7, wp_lst0, wp_lst1, wp_lst2, wp_lst3, wp_lst4, wp_lst5, wp_lst6, wp_lst7, wp_lst8, wp_lst9, wp_lst10, wp_lst11, wp_lst12, wp_bd, wp_lc, ql_nx, ql_ct, ql_bk, ql_rt, iSeq, iEnu, Mir.iRev, chkR, chkT, chkO, lstO, wp_some, wp_ite, wp_none, bd_some, eVar, eC, eOp, eUn, eFn, eMt, aNil, aCons,  eAnd, eOr, eNot, eIf, eIsi, eChain, bTest, bTruth, bAnd, bOr, bNot, bYes, eSl, pNo, pAt, eRinA, eRinB, eDnew, eDin, eDget, eDget2, tgM_name, tgM_tup, tgMs_nil, tgMs_name, tgMs_tup, List.getElem?_cons_succ, List.getElem?_cons_zero, List.set_cons_succ, List.set_cons_zero, List.map_cons, List.map_nil, List.length_cons, List.length_nil, List.replicate, List.nil_append, List.cons_append, if_true, if_false, Bool.false_eq_true, Bool.true_eq_false, Nat.reduceAdd, Nat.reduceSub, Nat.reduceLeDiff, Nat.zero_add, Bool.not_true, Bool.not_false, nc0, nc1, nc2, nc3, not_true_eq_false, not_false_eq_true, ii, addI, subI, negI, int1, eqI, neI, eqS, neS, ix0, ix1, ix2, ix3, decide_eq_true_eq, Bool.not_eq_true', decide_eq_false_iff_not, truB, truN, keyI, keyS, lenT, wipeM, wp_fld, wp_meth, wp_make, wpx_eL, wpx_sL, wpx_cons, kx_nx, kx_rt, kx_xc, wpx_if, wpx_raise, wpx_set, wpx_do, wpx_ret, vx_l, vx_r, wpx_op, gx_l, gx_r, wpx_put, px_l, px_r, wpx_meth, wpx_fn, exk_rt, exk_nx, exk_xc, wp_dn, tx_nx, tx_rt, tx_xc, txa_nx, txa_rt, txa_xc, ad, h.iM (m := "field")]
    refine fd_ok h o (fun b n j v hb e => absurd e (h3 b hb)) (fun _ => ?_)
    repeat first | with_reducible refine Eq.mpr wps_cons ?_ | with_reducible refine Eq.mpr wps_pass ?_ | with_reducible refine Eq.mpr wps_nil ?_ | with_reducible refine Eq.mpr wps_set ?_ | with_reducible refine Eq.mpr wps_do ?_ | with_reducible refine Eq.mpr wps_ret ?_ | with_reducible refine Eq.mpr wps_retN ?_ | with_reducible refine Eq.mpr wps_brk ?_ | with_reducible refine Eq.mpr wps_cnt ?_ | with_reducible refine Eq.mpr wps_if ?_ | with_reducible refine Eq.mpr wps_asg ?_ | with_reducible refine wps_asgL ?_ | with_reducible refine Eq.mpr wps_put ?_ | with_reducible refine Eq.mpr wps_dput ?_ | with_reducible refine Eq.mpr wps_aug ?_ | with_reducible refine Eq.mpr wps_par ?_ | with_reducible refine Eq.mpr wps_for ?_ | with_reducible refine Eq.mpr wps_wh ?_ | with_reducible refine Eq.mpr wps_fld ?_ | with_reducible refine Eq.mpr wps_try ?_ | with_reducible refine Eq.mpr wps_tryAs ?_ | simp only [wp_tup0, wp_tup1, wp_tup2, wp_tup3, wp_tup4, wp_tup5, wp_tup6, wp_tup7, wp_lst0, wp_lst1, wp_lst2, wp_lst3, wp_lst4, wp_lst5, wp_lst6, wp_lst7, wp_lst8, wp_lst9, wp_lst10, wp_lst11, wp_lst12, wp_bd, wp_lc, ql_nx, ql_ct, ql_bk, ql_rt, iSeq, iEnu, Mir.iRev, chkR, chkT, chkO, lstO, wp_some, wp_ite, wp_none, bd_some, eVar, eC, eOp, eUn, eFn, eMt, aNil, aCons,  eAnd, eOr, eNot, eIf, eIsi, eChain, bTest, bTruth, bAnd, bOr, bNot, bYes, eSl, pNo, pAt, eRinA, eRinB, eDnew, eDin, eDget, eDget2, tgM_name, tgM_tup, tgMs_nil, tgMs_name, tgMs_tup, List.getElem?_cons_succ, List.getElem?_cons_zero, List.set_cons_succ, List.set_cons_zero, List.map_cons, List.map_nil, List.length_cons, List.length_nil, List.replicate, List.nil_append, List.cons_append, if_true, if_false, Bool.false_eq_true, Bool.true_eq_false, Nat.reduceAdd, Nat.reduceSub, Nat.reduceLeDiff, Nat.zero_add, Bool.not_true, Bool.not_false, nc0, nc1, nc2, nc3, not_true_eq_false, not_false_eq_true, ii, addI, subI, negI, int1, eqI, neI, eqS, neS, ix0, ix1, ix2, ix3, decide_eq_true_eq, Bool.not_eq_true', decide_eq_false_iff_not, truB, truN, keyI, keyS, lenT, wipeM, wp_fld, wp_meth, wp_make, wpx_eL, wpx_sL, wpx_cons, kx_nx, kx_rt, kx_xc, wpx_if, wpx_raise, wpx_set, wpx_do, wpx_ret, vx_l, vx_r, wpx_op, gx_l, gx_r, wpx_put, px_l, px_r, wpx_meth, wpx_fn, exk_rt, exk_nx, exk_xc, wp_dn, tx_nx, tx_rt, tx_xc, txa_nx, txa_rt, txa_xc]
    refine ⟨t1, ?_⟩
    repeat first | with_reducible refine Eq.mpr wps_cons ?_ | with_reducible refine Eq.mpr wps_pass ?_ | with_reducible refine Eq.mpr wps_nil ?_ | with_reducible refine Eq.mpr wps_set ?_ | with_reducible refine Eq.mpr wps_do ?_ | with_reducible refine Eq.mpr wps_ret ?_ | with_reducible refine Eq.mpr wps_retN ?_ | with_reducible refine Eq.mpr wps_brk ?_ | with_reducible refine Eq.mpr wps_cnt ?_ | with_reducible refine Eq.mpr wps_if ?_ | with_reducible refine Eq.mpr wps_asg ?_ | with_reducible refine wps_asgL ?_ | with_reducible refine Eq.mpr wps_put ?_ | with_reducible refine Eq.mpr wps_dput ?_ | with_reducible refine Eq.mpr wps_aug ?_ | with_reducible refine Eq.mpr wps_par ?_ | with_reducible refine Eq.mpr wps_for ?_ | with_reducible refine Eq.mpr wps_wh ?_ | with_reducible refine Eq.mpr wps_fld ?_ | with_reducible refine Eq.mpr wps_try ?_ | with_reducible refine Eq.mpr wps_tryAs ?_ | simp only [wp_tup0, wp_tup1, wp_tup2, wp_tup3, wp_tup4, wp_tup5, wp_tup6, wp_tup7, wp_lst0, wp_lst1, wp_lst2, wp_lst3, wp_lst4, wp_lst5, wp_lst6, wp_lst7, wp_lst8, wp_lst9, wp_lst10, wp_lst11, wp_lst12, wp_bd, wp_lc, ql_nx, ql_ct, ql_bk, ql_rt, iSeq, iEnu, Mir.iRev, chkR, chkT, chkO, lstO, wp_some, wp_ite, wp_none, bd_some, eVar, eC, eOp, eUn, eFn, eMt, aNil, aCons,  eAnd, eOr, eNot, eIf, eIsi, eChain, bTest, bTruth, bAnd, bOr, bNot, bYes, eSl, pNo, pAt, eRinA, eRinB, eDnew, eDin, eDget, eDget2, tgM_name, tgM_tup, tgMs_nil, tgMs_name, tgMs_tup, List.getElem?_cons_succ, List.getElem?_cons_zero, List.set_cons_succ, List.set_cons_zero, List.map_cons, List.map_nil, List.length_cons, List.length_nil, List.replicate, List.nil_append, List.cons_append, if_true, if_false, Bool.false_eq_true, Bool.true_eq_false, Nat.reduceAdd, Nat.reduceSub, Nat.reduceLeDiff, Nat.zero_add, Bool.not_true, Bool.not_false, nc0, nc1, nc2, nc3, not_true_eq_false, not_false_eq_true, ii, addI, subI, negI, int1, eqI, neI, eqS, neS, ix0, ix1, ix2, ix3, decide_eq_true_eq, Bool.not_eq_true', decide_eq_false_iff_not, truB, truN, keyI, keyS, lenT, wipeM, wp_fld, wp_meth, wp_make, wpx_eL, wpx_sL, wpx_cons, kx_nx, kx_rt, kx_xc, wpx_if, wpx_raise, wpx_set, wpx_do, wpx_ret, vx_l, vx_r, wpx_op, gx_l, gx_r, wpx_put, px_l, px_r, wpx_meth, wpx_fn, exk_rt, exk_nx, exk_xc, wp_dn, tx_nx, tx_rt, tx_xc, txa_nx, txa_rt, txa_xc, ad, h.iM (m := "store_field")]
    refine sf_ok h o (fun b n j hb e => absurd e (h3 b hb)) (fun _ => ?_)
    repeat first | with_reducible refine Eq.mpr wps_cons ?_ | with_reducible refine Eq.mpr wps_pass ?_ | with_reducible refine Eq.mpr wps_nil ?_ | with_reducible refine Eq.mpr wps_set ?_ | with_reducible refine Eq.mpr wps_do ?_ | with_reducible refine Eq.mpr wps_ret ?_ | with_reducible refine Eq.mpr wps_retN ?_ | with_reducible refine Eq.mpr wps_brk ?_ | with_reducible refine Eq.mpr wps_cnt ?_ | with_reducible refine Eq.mpr wps_if ?_ | with_reducible refine Eq.mpr wps_asg ?_ | with_reducible refine wps_asgL ?_ | with_reducible refine Eq.mpr wps_put ?_ | with_reducible refine Eq.mpr wps_dput ?_ | with_reducible refine Eq.mpr wps_aug ?_ | with_reducible refine Eq.mpr wps_par ?_ | with_reducible refine Eq.mpr wps_for ?_ | with_reducible refine Eq.mpr wps_wh ?_ | with_reducible refine Eq.mpr wps_fld ?_ | with_reducible refine Eq.mpr wps_try ?_ | with_reducible refine Eq.mpr wps_tryAs ?_ | simp only [wp_tup0, wp_tup1, wp_tup2, wp_tup3, wp_tup4, wp_tup5, wp_tup6, wp_tup7, wp_lst0, wp_lst1, wp_lst2, wp_lst3, wp_lst4, wp_lst5, wp_lst6, wp_lst7, wp_lst8, wp_lst9, wp_lst10, wp_lst11, wp_lst12, wp_bd, wp_lc, ql_nx, ql_ct, ql_bk, ql_rt, iSeq, iEnu, Mir.iRev, chkR, chkT, chkO, lstO, wp_some, wp_ite, wp_none, bd_some, eVar, eC, eOp, eUn, eFn, eMt, aNil, aCons,  eAnd, eOr, eNot, eIf, eIsi, eChain, bTest, bTruth, bAnd, bOr, bNot, bYes, eSl, pNo, pAt, eRinA, eRinB, eDnew, eDin, eDget, eDget2, tgM_name, tgM_tup, tgMs_nil, tgMs_name, tgMs_tup, List.getElem?_cons_succ, List.getElem?_cons_zero, List.set_cons_succ, List.set_cons_zero, List.map_cons, List.map_nil, List.length_cons, List.length_nil, List.replicate, List.nil_append, List.cons_append, if_true, if_false, Bool.false_eq_true, Bool.true_eq_false, Nat.reduceAdd, Nat.reduceSub, Nat.reduceLeDiff, Nat.zero_add, Bool.not_true, Bool.not_false, nc0, nc1, nc2, nc3, not_true_eq_false, not_false_eq_true, ii, addI, subI, negI, int1, eqI, neI, eqS, neS, ix0, ix1, ix2, ix3, decide_eq_true_eq, Bool.not_eq_true', decide_eq_false_iff_not, truB, truN, keyI, keyS, lenT, wipeM, wp_fld, wp_meth, wp_make, wpx_eL, wpx_sL, wpx_cons, kx_nx, kx_rt, kx_xc, wpx_if, wpx_raise, wpx_set, wpx_do, wpx_ret, vx_l, vx_r, wpx_op, gx_l, gx_r, wpx_put, px_l, px_r, wpx_meth, wpx_fn, exk_rt, exk_nx, exk_xc, wp_dn, tx_nx, tx_rt, tx_xc, txa_nx, txa_rt, txa_xc]
    refine ⟨t1, ?_⟩
    repeat first | with_reducible refine Eq.mpr wps_cons ?_ | with_reducible refine Eq.mpr wps_pass ?_ | with_reducible refine Eq.mpr wps_nil ?_ | with_reducible refine Eq.mpr wps_set ?_ | with_reducible refine Eq.mpr wps_do ?_ | with_reducible refine Eq.mpr wps_ret ?_ | with_reducible refine Eq.mpr wps_retN ?_ | with_reducible refine Eq.mpr wps_brk ?_ | with_reducible refine Eq.mpr wps_cnt ?_ | with_reducible refine Eq.mpr wps_if ?_ | with_reducible refine Eq.mpr wps_asg ?_ | with_reducible refine wps_asgL ?_ | with_reducible refine Eq.mpr wps_put ?_ | with_reducible refine Eq.mpr wps_dput ?_ | with_reducible refine Eq.mpr wps_aug ?_ | with_reducible refine Eq.mpr wps_par ?_ | with_reducible refine Eq.mpr wps_for ?_ | with_reducible refine Eq.mpr wps_wh ?_ | with_reducible refine Eq.mpr wps_fld ?_ | with_reducible refine Eq.mpr wps_try ?_ | with_reducible refine Eq.mpr wps_tryAs ?_ | simp only [wp_tup0, wp_tup1, wp_tup2, wp_tup3, wp_tup4, wp_tup5, wp_tup6, wp_tup7, wp_lst0, wp_lst1, wp_lst2, wp_lst3, wp_lst4, wp_lst5, wp_lst6, wp_lst7, wp_lst8, wp_lst9, wp_lst10, wp_lst11, wp_lst12, wp_bd, wp_lc, ql_nx, ql_ct, ql_bk, ql_rt, iSeq, iEnu, Mir.iRev, chkR, chkT, chkO, lstO, wp_some, wp_ite, wp_none, bd_some, eVar, eC, eOp, eUn, eFn, eMt, aNil, aCons,  eAnd, eOr, eNot, eIf, eIsi, eChain, bTest, bTruth, bAnd, bOr, bNot, bYes, eSl, pNo, pAt, eRinA, eRinB, eDnew, eDin, eDget, eDget2, tgM_name, tgM_tup, tgMs_nil, tgMs_name, tgMs_tup, List.getElem?_cons_succ, List.getElem?_cons_zero, List.set_cons_succ, List.set_cons_zero, List.map_cons, List.map_nil, List.length_cons, List.length_nil, List.replicate, List.nil_append, List.cons_append, if_true, if_false, Bool.false_eq_true, Bool.true_eq_false, Nat.reduceAdd, Nat.reduceSub, Nat.reduceLeDiff, Nat.zero_add, Bool.not_true, Bool.not_false, nc0, nc1, nc2, nc3, not_true_eq_false, not_false_eq_true, ii, addI, subI, negI, int1, eqI, neI, eqS, neS, ix0, ix1, ix2, ix3, decide_eq_true_eq, Bool.not_eq_true', decide_eq_false_iff_not, truB, truN, keyI, keyS, lenT, wipeM, wp_fld, wp_meth, wp_make, wpx_eL, wpx_sL, wpx_cons, kx_nx, kx_rt, kx_xc, wpx_if, wpx_raise, wpx_set, wpx_do, wpx_ret, vx_l, vx_r, wpx_op, gx_l, gx_r, wpx_put, px_l, px_r, wpx_meth, wpx_fn, exk_rt, exk_nx, exk_xc, wp_dn, tx_nx, tx_rt, tx_xc, txa_nx, txa_rt, txa_xc, ad, eIsX, t2, t3, truB]
    exact h1 h3
  · have bad : ∀ b' n' j' : Nat, b' ∈ B → w = 4 * (b' : Int) + 1 → M[b' + 3]? = some (n' : Int) → i = (j' : Int) → ¬ j' < n' := fun b' n' j' hb' e' en' ej hj => by
      have eb : b' = b := by omega
      rw [eb, en] at en'
      have : (n : Int) = n' := Option.some.inj en'
      exact hi ⟨by omega, by omega⟩
    refine hd_ok h (fun b1 hb1 e => ?_) (fun z => absurd ew (z b hb))
    obtain ⟨s1, es1⟩ : ∃ s1, s1 = s ++ [O.lst (wi ((M.drop b1).take 4))] := ⟨_, rfl⟩
    rw [← es1]
    have f1 : Fr [] s s1 := by rw [es1]; exact .app
    have h1' := h.fr f1 (by simp) (by simp) (by simp)
    repeat first | with_reducible refine Eq.mpr wps_cons ?_ | with_reducible refine Eq.mpr wps_pass ?_ | with_reducible refine Eq.mpr wps_nil ?_ | with_reducible refine Eq.mpr wps_set ?_ | with_reducible refine Eq.mpr wps_do ?_ | with_reducible refine Eq.mpr wps_ret ?_ | with_reducible refine Eq.mpr wps_retN ?_ | with_reducible refine Eq.mpr wps_brk ?_ | with_reducible refine Eq.mpr wps_cnt ?_ | with_reducible refine Eq.mpr wps_if ?_ | with_reducible refine Eq.mpr wps_asg ?_ | with_reducible refine wps_asgL ?_ | with_reducible refine Eq.mpr wps_put ?_ | with_reducible refine Eq.mpr wps_dput ?_ | with_reducible refine Eq.mpr wps_aug ?_ | with_reducible refine Eq.mpr wps_par ?_ | with_reducible refine Eq.mpr wps_for ?_ | with_reducible refine Eq.mpr wps_wh ?_ | with_reducible refine Eq.mpr wps_fld ?_ | with_reducible refine Eq.mpr wps_try ?_ | with_reducible refine Eq.mpr wps_tryAs ?_ | simp only [wp_tup0, wp_tup1, wp_tup2, wp_tup3, wp_tup4, wp_tup5, wp_tup6, wp_tup7, wp_lst0, wp_lst1, wp_lst2, wp_lst3, wp_lst4, wp_lst5, wp_lst6, wp_lst7, wp_lst8, wp_lst9, wp_lst10, wp_lst11, wp_lst12, wp_bd, wp_lc, ql_nx, ql_ct, ql_bk, ql_rt, iSeq, iEnu, Mir.iRev, chkR, chkT, chkO, lstO, wp_some, wp_ite, wp_none, bd_some, eVar, eC, eOp, eUn, eFn, eMt, aNil, aCons,  eAnd, eOr, eNot, eIf, eIsi, eChain, bTest, bTruth, bAnd, bOr, bNot, bYes, eSl, pNo, pAt, eRinA, eRinB, eDnew, eDin, eDget, eDget2, tgM_name, tgM_tup, tgMs_nil, tgMs_name, tgMs_tup, List.getElem?_cons_succ, List.getElem?_cons_zero, List.set_cons_succ, List.set_cons_zero, List.map_cons, List.map_nil, List.length_cons, List.length_nil, List.replicate, List.nil_append, List.cons_append, if_true, if_false, Bool.false_eq_true, Bool.true_eq_false, Nat.reduceAdd, Nat.reduceSub, Nat.reduceLeDiff, Nat.zero_add, Bool.not_true, Bool.not_false, nc0, nc1, nc2, nc3, not_true_eq_false, not_false_eq_true, ii, addI, subI, negI, int1, eqI, neI, eqS, neS, ix0, ix1, ix2, ix3, decide_eq_true_eq, Bool.not_eq_true', decide_eq_false_iff_not, truB, truN, keyI, keyS, lenT, wipeM, wp_fld, wp_meth, wp_make, wpx_eL, wpx_sL, wpx_cons, kx_nx, kx_rt, kx_xc, wpx_if, wpx_raise, wpx_set, wpx_do, wpx_ret, vx_l, vx_r, wpx_op, gx_l, gx_r, wpx_put, px_l, px_r, wpx_meth, wpx_fn, exk_rt, exk_nx, exk_xc, wp_dn, tx_nx, tx_rt, tx_xc, txa_nx, txa_rt, txa_xc, h1'.iM (m := "field")]
    refine fd_ok h1' o (fun b n j v hb e en ej hj => absurd hj (bad b n j hb e en ej)) (fun _ => ?_)
    repeat first | with_reducible refine Eq.mpr wps_cons ?_ | with_reducible refine Eq.mpr wps_pass ?_ | with_reducible refine Eq.mpr wps_nil ?_ | with_reducible refine Eq.mpr wps_set ?_ | with_reducible refine Eq.mpr wps_do ?_ | with_reducible refine Eq.mpr wps_ret ?_ | with_reducible refine Eq.mpr wps_retN ?_ | with_reducible refine Eq.mpr wps_brk ?_ | with_reducible refine Eq.mpr wps_cnt ?_ | with_reducible refine Eq.mpr wps_if ?_ | with_reducible refine Eq.mpr wps_asg ?_ | with_reducible refine wps_asgL ?_ | with_reducible refine Eq.mpr wps_put ?_ | with_reducible refine Eq.mpr wps_dput ?_ | with_reducible refine Eq.mpr wps_aug ?_ | with_reducible refine Eq.mpr wps_par ?_ | with_reducible refine Eq.mpr wps_for ?_ | with_reducible refine Eq.mpr wps_wh ?_ | with_reducible refine Eq.mpr wps_fld ?_ | with_reducible refine Eq.mpr wps_try ?_ | with_reducible refine Eq.mpr wps_tryAs ?_ | simp only [wp_tup0, wp_tup1, wp_tup2, wp_tup3, wp_tup4, wp_tup5, wp_tup6, wp_tup7, wp_lst0, wp_lst1, wp_lst2, wp_lst3, wp_lst4, wp_lst5, wp_lst6, wp_lst7, wp_lst8, wp_lst9, wp_lst10, wp_lst11, wp_lst12, wp_bd, wp_lc, ql_nx, ql_ct, ql_bk, ql_rt, iSeq, iEnu, Mir.iRev, chkR, chkT, chkO, lstO, wp_some, wp_ite, wp_none, bd_some, eVar, eC, eOp, eUn, eFn, eMt, aNil, aCons,  eAnd, eOr, eNot, eIf, eIsi, eChain, bTest, bTruth, bAnd, bOr, bNot, bYes, eSl, pNo, pAt, eRinA, eRinB, eDnew, eDin, eDget, eDget2, tgM_name, tgM_tup, tgMs_nil, tgMs_name, tgMs_tup, List.getElem?_cons_succ, List.getElem?_cons_zero, List.set_cons_succ, List.set_cons_zero, List.map_cons, List.map_nil, List.length_cons, List.length_nil, List.replicate, List.nil_append, List.cons_append, if_true, if_false, Bool.false_eq_true, Bool.true_eq_false, Nat.reduceAdd, Nat.reduceSub, Nat.reduceLeDiff, Nat.zero_add, Bool.not_true, Bool.not_false, nc0, nc1, nc2, nc3, not_true_eq_false, not_false_eq_true, ii, addI, subI, negI, int1, eqI, neI, eqS, neS, ix0, ix1, ix2, ix3, decide_eq_true_eq, Bool.not_eq_true', decide_eq_false_iff_not, truB, truN, keyI, keyS, lenT, wipeM, wp_fld, wp_meth, wp_make, wpx_eL, wpx_sL, wpx_cons, kx_nx, kx_rt, kx_xc, wpx_if, wpx_raise, wpx_set, wpx_do, wpx_ret, vx_l, vx_r, wpx_op, gx_l, gx_r, wpx_put, px_l, px_r, wpx_meth, wpx_fn, exk_rt, exk_nx, exk_xc, wp_dn, tx_nx, tx_rt, tx_xc, txa_nx, txa_rt, txa_xc]
    refine ⟨t1, ?_⟩
    repeat first | with_reducible refine Eq.mpr wps_cons ?_ | with_reducible refine Eq.mpr wps_pass ?_ | with_reducible refine Eq.mpr wps_nil ?_ | with_reducible refine Eq.mpr wps_set ?_ | with_reducible refine Eq.mpr wps_do ?_ | with_reducible refine Eq.mpr wps_ret ?_ | with_reducible refine Eq.mpr wps_retN ?_ | with_reducible refine Eq.mpr wps_brk ?_ | with_reducible refine Eq.mpr wps_cnt ?_ | with_reducible refine Eq.mpr wps_if ?_ | with_reducible refine Eq.mpr wps_asg ?_ | with_reducible refine wps_asgL ?_ | with_reducible refine Eq.mpr wps_put ?_ | with_reducible refine Eq.mpr wps_dput ?_ | with_reducible refine Eq.mpr wps_aug ?_ | with_reducible refine Eq.mpr wps_par ?_ | with_reducible refine Eq.mpr wps_for ?_ | with_reducible refine Eq.mpr wps_wh ?_ | with_reducible refine Eq.mpr wps_fld ?_ | with_reducible refine Eq.mpr wps_try ?_ | with_reducible refine Eq.mpr wps_tryAs ?_ | simp only [wp_tup0, wp_tup1, wp_tup2, wp_tup3, wp_tup4, wp_tup5, wp_tup6, wp_tup7, wp_lst0, wp_lst1, wp_lst2, wp_lst3, wp_lst4, wp_lst5, wp_lst6, wp_lst7, wp_lst8, wp_lst9, wp_lst10, wp_lst11, wp_lst12, wp_bd, wp_lc, ql_nx, ql_ct, ql_bk, ql_rt, iSeq, iEnu, Mir.iRev, chkR, chkT, chkO, lstO, wp_some, wp_ite, wp_none, bd_some, eVar, eC, eOp, eUn, eFn, eMt, aNil, aCons,  eAnd, eOr, eNot, eIf, eIsi, eChain, bTest, bTruth, bAnd, bOr, bNot, bYes, eSl, pNo, pAt, eRinA, eRinB, eDnew, eDin, eDget, eDget2, tgM_name, tgM_tup, tgMs_nil, tgMs_name, tgMs_tup, List.getElem?_cons_succ, List.getElem?_cons_zero, List.set_cons_succ, List.set_cons_zero, List.map_cons, List.map_nil, List.length_cons, List.length_nil, List.replicate, List.nil_append, List.cons_append, if_true, if_false, Bool.false_eq_true, Bool.true_eq_false, Nat.reduceAdd, Nat.reduceSub, Nat.reduceLeDiff, Nat.zero_add, Bool.not_true, Bool.not_false, nc0, nc1, nc2, nc3, not_true_eq_false, not_false_eq_true, ii, addI, subI, negI, int1, eqI, neI, eqS, neS, ix0, ix1, ix2, ix3, decide_eq_true_eq, Bool.not_eq_true', decide_eq_false_iff_not, truB, truN, keyI, keyS, lenT, wipeM, wp_fld, wp_meth, wp_make, wpx_eL, wpx_sL, wpx_cons, kx_nx, kx_rt, kx_xc, wpx_if, wpx_raise, wpx_set, wpx_do, wpx_ret, vx_l, vx_r, wpx_op, gx_l, gx_r, wpx_put, px_l, px_r, wpx_meth, wpx_fn, exk_rt, exk_nx, exk_xc, wp_dn, tx_nx, tx_rt, tx_xc, txa_nx, txa_rt, txa_xc, ad, h1'.iM (m := "store_field")]
    refine sf_ok h1' o (fun b n j hb e en ej hj => absurd hj (bad b n j hb e en ej)) (fun _ => ?_)
    repeat first | with_reducible refine Eq.mpr wps_cons ?_ | with_reducible refine Eq.mpr wps_pass ?_ | with_reducible refine Eq.mpr wps_nil ?_ | with_reducible refine Eq.mpr wps_set ?_ | with_reducible refine Eq.mpr wps_do ?_ | with_reducible refine Eq.mpr wps_ret ?_ | with_reducible refine Eq.mpr wps_retN ?_ | with_reducible refine Eq.mpr wps_brk ?_ | with_reducible refine Eq.mpr wps_cnt ?_ | with_reducible refine Eq.mpr wps_if ?_ | with_reducible refine Eq.mpr wps_asg ?_ | with_reducible refine wps_asgL ?_ | with_reducible refine Eq.mpr wps_put ?_ | with_reducible refine Eq.mpr wps_dput ?_ | with_reducible refine Eq.mpr wps_aug ?_ | with_reducible refine Eq.mpr wps_par ?_ | with_reducible refine Eq.mpr wps_for ?_ | with_reducible refine Eq.mpr wps_wh ?_ | with_reducible refine Eq.mpr wps_fld ?_ | with_reducible refine Eq.mpr wps_try ?_ | with_reducible refine Eq.mpr wps_tryAs ?_ | simp only [wp_tup0, wp_tup1, wp_tup2, wp_tup3, wp_tup4, wp_tup5, wp_tup6, wp_tup7, wp_lst0, wp_lst1, wp_lst2, wp_lst3, wp_lst4, wp_lst5, wp_lst6, wp_lst7, wp_lst8, wp_lst9, wp_lst10, wp_lst11, wp_lst12, wp_bd, wp_lc, ql_nx, ql_ct, ql_bk, ql_rt, iSeq, iEnu, Mir.iRev, chkR, chkT, chkO, lstO, wp_some, wp_ite, wp_none, bd_some, eVar, eC, eOp, eUn, eFn, eMt, aNil, aCons,  eAnd, eOr, eNot, eIf, eIsi, eChain, bTest, bTruth, bAnd, bOr, bNot, bYes, eSl, pNo, pAt, eRinA, eRinB, eDnew, eDin, eDget, eDget2, tgM_name, tgM_tup, tgMs_nil, tgMs_name, tgMs_tup, List.getElem?_cons_succ, List.getElem?_cons_zero, List.set_cons_succ, List.set_cons_zero, List.map_cons, List.map_nil, List.length_cons, List.length_nil, List.replicate, List.nil_append, List.cons_append, if_true, if_false, Bool.false_eq_true, Bool.true_eq_false, Nat.reduceAdd, Nat.reduceSub, Nat.reduceLeDiff, Nat.zero_add, Bool.not_true, Bool.not_false, nc0, nc1, nc2, nc3, not_true_eq_false, not_false_eq_true, ii, addI, subI, negI, int1, eqI, neI, eqS, neS, ix0, ix1, ix2, ix3, decide_eq_true_eq, Bool.not_eq_true', decide_eq_false_iff_not, truB, truN, keyI, keyS, lenT, wipeM, wp_fld, wp_meth, wp_make, wpx_eL, wpx_sL, wpx_cons, kx_nx, kx_rt, kx_xc, wpx_if, wpx_raise, wpx_set, wpx_do, wpx_ret, vx_l, vx_r, wpx_op, gx_l, gx_r, wpx_put, px_l, px_r, wpx_meth, wpx_fn, exk_rt, exk_nx, exk_xc, wp_dn, tx_nx, tx_rt, tx_xc, txa_nx, txa_rt, txa_xc]
    refine ⟨t1, ?_⟩
    repeat first | with_reducible refine Eq.mpr wps_cons ?_ | with_reducible refine Eq.mpr wps_pass ?_ | with_reducible refine Eq.mpr wps_nil ?_ | with_reducible refine Eq.mpr wps_set ?_ | with_reducible refine Eq.mpr wps_do ?_ | with_reducible refine Eq.mpr wps_ret ?_ | with_reducible refine Eq.mpr wps_retN ?_ | with_reducible refine Eq.mpr wps_brk ?_ | with_reducible refine Eq.mpr wps_cnt ?_ | with_reducible refine Eq.mpr wps_if ?_ | with_reducible refine Eq.mpr wps_asg ?_ | with_reducible refine wps_asgL ?_ | with_reducible refine Eq.mpr wps_put ?_ | with_reducible refine Eq.mpr wps_dput ?_ | with_reducible refine Eq.mpr wps_aug ?_ | with_reducible refine Eq.mpr wps_par ?_ | with_reducible refine Eq.mpr wps_for ?_ | with_reducible refine Eq.mpr wps_wh ?_ | with_reducible refine Eq.mpr wps_fld ?_ | with_reducible refine Eq.mpr wps_try ?_ | with_reducible refine Eq.mpr wps_tryAs ?_ | simp only [wp_tup0, wp_tup1, wp_tup2, wp_tup3, wp_tup4, wp_tup5, wp_tup6, wp_tup7, wp_lst0, wp_lst1, wp_lst2, wp_lst3, wp_lst4, wp_lst5, wp_lst6, wp_lst7, wp_lst8, wp_lst9, wp_lst10, wp_lst11, wp_lst12, wp_bd, wp_lc, ql_nx, ql_ct, ql_bk, ql_rt, iSeq, iEnu, Mir.iRev, chkR, chkT, chkO, lstO, wp_some, wp_ite, wp_none, bd_some, eVar, eC, eOp, eUn, eFn, eMt, aNil, aCons,  eAnd, eOr, eNot, eIf, eIsi, eChain, bTest, bTruth, bAnd, bOr, bNot, bYes, eSl, pNo, pAt, eRinA, eRinB, eDnew, eDin, eDget, eDget2, tgM_name, tgM_tup, tgMs_nil, tgMs_name, tgMs_tup, List.getElem?_cons_succ, List.getElem?_cons_zero, List.set_cons_succ, List.set_cons_zero, List.map_cons, List.map_nil, List.length_cons, List.length_nil, List.replicate, List.nil_append, List.cons_append, if_true, if_false, Bool.false_eq_true, Bool.true_eq_false, Nat.reduceAdd, Nat.reduceSub, Nat.reduceLeDiff, Nat.zero_add, Bool.not_true, Bool.not_false, nc0, nc1, nc2, nc3, not_true_eq_false, not_false_eq_true, ii, addI, subI, negI, int1, eqI, neI, eqS, neS, ix0, ix1, ix2, ix3, decide_eq_true_eq, Bool.not_eq_true', decide_eq_false_iff_not, truB, truN, keyI, keyS, lenT, wipeM, wp_fld, wp_meth, wp_make, wpx_eL, wpx_sL, wpx_cons, kx_nx, kx_rt, kx_xc, wpx_if, wpx_raise, wpx_set, wpx_do, wpx_ret, vx_l, vx_r, wpx_op, gx_l, gx_r, wpx_put, px_l, px_r, wpx_meth, wpx_fn, exk_rt, exk_nx, exk_xc, wp_dn, tx_nx, tx_rt, tx_xc, txa_nx, txa_rt, txa_xc, ad, eIsX, t2, t3, truB]
    exact h2 b n hb ew en hi _ f1
end
end K72

set_option Elab.async false
set_option linter.all false
set_option maxRecDepth 100000
namespace K72
open PySem PySem.Spec PyProof.Rows L2 Mir
section
variable {s : Sto} {r rc bl : Nat} {cs : List Int}
theorem dr {R : W → Sto → Prop} (T : Tape s r rc cs) (m : Nat) (h0 : 0 < m) (h1 : m ≤ 1000000000000) (h : ∀ (d : Nat) (s' : Sto), d < m → Tape s' r rc cs → Fr [r] s s' → s'.length = s.length → R (.int (d : Int)) s') : Wp (FLawTake [.ref r, .int (m : Int)] s) R := take_wp T m h0 h1 h
def ib (B : List Nat) : List Int := B.map fun (b : Nat) => (b : Int)
theorem lw_ok {B : List Nat} {R : W → Sto → Prop} (T : Tape s r rc cs) (hb : s[bl]? = some (.lst (wi (ib B)))) (hne : bl ≠ r) (hB : B.length ≤ 1000)
    (h : ∀ (v : Int) (s' : Sto), Tape s' r rc cs → Fr [r] s s' → s'.length = s.length → R (.int v) s') : Wp (FLawWord [.ref r, .ref bl] s) R := by
  have m4 : ∀ (x : Int) (s : Sto), Mir.gMul (.int 4) (.int x) s = some (.int (4 * x), s) := fun x s => mulL (by decide) (by decide)
  have m16 : ∀ (x : Int) (s : Sto), Mir.gMul (.int 16) (.int x) s = some (.int (16 * x), s) := fun x s => mulL (by decide) (by decide)
  unfold FLawWord
  rw [wp_mkF (by rfl)]
  unfold BLawWord
  repeat first | with_reducible refine Eq.mpr wps_cons ?_ | with_reducible refine Eq.mpr wps_pass ?_ | with_reducible refine Eq.mpr wps_nil ?_ | with_reducible refine Eq.mpr wps_set ?_ | with_reducible refine Eq.mpr wps_do ?_ | with_reducible refine Eq.mpr wps_ret ?_ | with_reducible refine Eq.mpr wps_retN ?_ | with_reducible refine Eq.mpr wps_brk ?_ | with_reducible refine Eq.mpr wps_cnt ?_ | with_reducible refine Eq.mpr wps_if ?_ | with_reducible refine Eq.mpr wps_asg ?_ | with_reducible refine wps_asgL ?_ | with_reducible refine Eq.mpr wps_put ?_ | with_reducible refine Eq.mpr wps_dput ?_ | with_reducible refine Eq.mpr wps_aug ?_ | with_reducible refine Eq.mpr wps_par ?_ | with_reducible refine Eq.mpr wps_for ?_ | with_reducible refine Eq.mpr wps_wh ?_ | with_reducible refine wh_go ?_ | with_reducible refine fo_goN ?_ | with_reducible refine fo_goC ?_ | simp only [wp_tup0, wp_tup1, wp_tup2, wp_tup3, wp_tup4, wp_tup5, wp_tup6, wp_tup7, wp_lst0, wp_lst1, wp_lst2, wp_lst3, wp_lst4, wp_lst5, wp_lst6, wp_lst7, wp_lst8, wp_lst9, wp_lst10, wp_lst11, wp_lst12, wp_bd, wp_lc, ql_nx, ql_ct, ql_bk, ql_rt, iSeq, iEnu, Mir.iRev, chkR, chkT, chkO, lstO, wp_some, wp_ite, wp_none, bd_some, eVar, eC, eOp, eUn, eFn, eMt, aNil, aCons,  eAnd, eOr, eNot, eIf, eIsi, eChain, bTest, bTruth, bAnd, bOr, bNot, bYes, eSl, pNo, pAt, eRinA, eRinB, eDnew, eDin, eDget, eDget2, tgM_name, tgM_tup, tgMs_nil, tgMs_name, tgMs_tup, List.getElem?_cons_succ, List.getElem?_cons_zero, List.set_cons_succ, List.set_cons_zero, List.map_cons, List.map_nil, List.length_cons, List.length_nil, List.replicate, List.nil_append, List.cons_append, if_true, if_false, Bool.false_eq_true, Bool.true_eq_false, Nat.reduceAdd, Nat.reduceSub, Nat.reduceLeDiff, Nat.zero_add, Bool.not_true, Bool.not_false, nc0, nc1, nc2, nc3, not_true_eq_false, not_false_eq_true, ii, addI, subI, negI, int1, eqI, neI, eqS, neS, ix0, ix1, ix2, ix3, decide_eq_true_eq, Bool.not_eq_true', decide_eq_false_iff_not, truB, truN, keyI, keyS, lenT, wipeM, qw_nx, qw_ct, qw_bk, qw_rt, qf_nx, qf_ct, qf_bk, qf_rt, okN, lcf_goN, lcf_goC, lcf_goT, slT1, slT2, List.drop_succ_cons, List.drop_zero, List.take_succ_cons, List.take_zero, true_and, and_true, ofString_inj, String.reduceEq, decide_true, decide_false, Bool.or_self, Bool.or_true, Bool.true_or, Bool.or_false, Bool.false_or, Bool.and_self, Bool.and_true, Bool.true_and, Bool.and_false, Bool.false_and, isN, isnN, Mir.isNon, truB]
  refine dr T 5 (by decide) (by decide) fun d s1 hd T1 f1 l1 => ?_
  have b1 : s1[bl]? = some (.lst (wi (ib B))) := f1.at_ _ _ (by simpa using hne) hb
  have ll : ∀ s2 : Sto, s2[bl]? = some (.lst (wi (ib B))) → gLen [.ref bl] s2 = some (.int (B.length : Int), s2) := fun s2 e => by rw [lenL e]; simp [ib]
  have last : ∀ s3 : Sto, Tape s3 r rc cs → Fr [r] s s3 → s3.length = s.length → Wp (FLawTake [.ref r, .int 100] s3) (fun a s4 => Wp (Mir.gSub a (.int 50) s4) fun a s5 => Wp (Mir.gMul (.int 4) a s5) fun w s1 => R w s1) := fun s3 T3 f3 l3 => by
    refine dr T3 100 (by decide) (by decide) fun x s4 hx T4 f4 l4 => ?_
    repeat first | with_reducible refine Eq.mpr wps_cons ?_ | with_reducible refine Eq.mpr wps_pass ?_ | with_reducible refine Eq.mpr wps_nil ?_ | with_reducible refine Eq.mpr wps_set ?_ | with_reducible refine Eq.mpr wps_do ?_ | with_reducible refine Eq.mpr wps_ret ?_ | with_reducible refine Eq.mpr wps_retN ?_ | with_reducible refine Eq.mpr wps_brk ?_ | with_reducible refine Eq.mpr wps_cnt ?_ | with_reducible refine Eq.mpr wps_if ?_ | with_reducible refine Eq.mpr wps_asg ?_ | with_reducible refine wps_asgL ?_ | with_reducible refine Eq.mpr wps_put ?_ | with_reducible refine Eq.mpr wps_dput ?_ | with_reducible refine Eq.mpr wps_aug ?_ | with_reducible refine Eq.mpr wps_par ?_ | with_reducible refine Eq.mpr wps_for ?_ | with_reducible refine Eq.mpr wps_wh ?_ | with_reducible refine wh_go ?_ | with_reducible refine fo_goN ?_ | with_reducible refine fo_goC ?_ | simp only [wp_tup0, wp_tup1, wp_tup2, wp_tup3, wp_tup4, wp_tup5, wp_tup6, wp_tup7, wp_lst0, wp_lst1, wp_lst2, wp_lst3, wp_lst4, wp_lst5, wp_lst6, wp_lst7, wp_lst8, wp_lst9, wp_lst10, wp_lst11, wp_lst12, wp_bd, wp_lc, ql_nx, ql_ct, ql_bk, ql_rt, iSeq, iEnu, Mir.iRev, chkR, chkT, chkO, lstO, wp_some, wp_ite, wp_none, bd_some, eVar, eC, eOp, eUn, eFn, eMt, aNil, aCons,  eAnd, eOr, eNot, eIf, eIsi, eChain, bTest, bTruth, bAnd, bOr, bNot, bYes, eSl, pNo, pAt, eRinA, eRinB, eDnew, eDin, eDget, eDget2, tgM_name, tgM_tup, tgMs_nil, tgMs_name, tgMs_tup, List.getElem?_cons_succ, List.getElem?_cons_zero, List.set_cons_succ, List.set_cons_zero, List.map_cons, List.map_nil, List.length_cons, List.length_nil, List.replicate, List.nil_append, List.cons_append, if_true, if_false, Bool.false_eq_true, Bool.true_eq_false, Nat.reduceAdd, Nat.reduceSub, Nat.reduceLeDiff, Nat.zero_add, Bool.not_true, Bool.not_false, nc0, nc1, nc2, nc3, not_true_eq_false, not_false_eq_true, ii, addI, subI, negI, int1, eqI, neI, eqS, neS, ix0, ix1, ix2, ix3, decide_eq_true_eq, Bool.not_eq_true', decide_eq_false_iff_not, truB, truN, keyI, keyS, lenT, wipeM, qw_nx, qw_ct, qw_bk, qw_rt, qf_nx, qf_ct, qf_bk, qf_rt, okN, lcf_goN, lcf_goC, lcf_goT, slT1, slT2, List.drop_succ_cons, List.drop_zero, List.take_succ_cons, List.take_zero, true_and, and_true, ofString_inj, String.reduceEq, decide_true, decide_false, Bool.or_self, Bool.or_true, Bool.true_or, Bool.or_false, Bool.false_or, Bool.and_self, Bool.and_true, Bool.true_and, Bool.and_false, Bool.false_and, isN, isnN, Mir.isNon, truB, m4]
    exact h _ _ T4 (f3.trans f4) (by omega)
  by_cases q : (d : Int) < 3
  · by_cases qb : (0 : Int) < (B.length : Int)
    · repeat first | with_reducible refine Eq.mpr wps_cons ?_ | with_reducible refine Eq.mpr wps_pass ?_ | with_reducible refine Eq.mpr wps_nil ?_ | with_reducible refine Eq.mpr wps_set ?_ | with_reducible refine Eq.mpr wps_do ?_ | with_reducible refine Eq.mpr wps_ret ?_ | with_reducible refine Eq.mpr wps_retN ?_ | with_reducible refine Eq.mpr wps_brk ?_ | with_reducible refine Eq.mpr wps_cnt ?_ | with_reducible refine Eq.mpr wps_if ?_ | with_reducible refine Eq.mpr wps_asg ?_ | with_reducible refine wps_asgL ?_ | with_reducible refine Eq.mpr wps_put ?_ | with_reducible refine Eq.mpr wps_dput ?_ | with_reducible refine Eq.mpr wps_aug ?_ | with_reducible refine Eq.mpr wps_par ?_ | with_reducible refine Eq.mpr wps_for ?_ | with_reducible refine Eq.mpr wps_wh ?_ | with_reducible refine wh_go ?_ | with_reducible refine fo_goN ?_ | with_reducible refine fo_goC ?_ | simp only [wp_tup0, wp_tup1, wp_tup2, wp_tup3, wp_tup4, wp_tup5, wp_tup6, wp_tup7, wp_lst0, wp_lst1, wp_lst2, wp_lst3, wp_lst4, wp_lst5, wp_lst6, wp_lst7, wp_lst8, wp_lst9, wp_lst10, wp_lst11, wp_lst12, wp_bd, wp_lc, ql_nx, ql_ct, ql_bk, ql_rt, iSeq, iEnu, Mir.iRev, chkR, chkT, chkO, lstO, wp_some, wp_ite, wp_none, bd_some, eVar, eC, eOp, eUn, eFn, eMt, aNil, aCons,  eAnd, eOr, eNot, eIf, eIsi, eChain, bTest, bTruth, bAnd, bOr, bNot, bYes, eSl, pNo, pAt, eRinA, eRinB, eDnew, eDin, eDget, eDget2, tgM_name, tgM_tup, tgMs_nil, tgMs_name, tgMs_tup, List.getElem?_cons_succ, List.getElem?_cons_zero, List.set_cons_succ, List.set_cons_zero, List.map_cons, List.map_nil, List.length_cons, List.length_nil, List.replicate, List.nil_append, List.cons_append, if_true, if_false, Bool.false_eq_true, Bool.true_eq_false, Nat.reduceAdd, Nat.reduceSub, Nat.reduceLeDiff, Nat.zero_add, Bool.not_true, Bool.not_false, nc0, nc1, nc2, nc3, not_true_eq_false, not_false_eq_true, ii, addI, subI, negI, int1, eqI, neI, eqS, neS, ix0, ix1, ix2, ix3, decide_eq_true_eq, Bool.not_eq_true', decide_eq_false_iff_not, truB, truN, keyI, keyS, lenT, wipeM, qw_nx, qw_ct, qw_bk, qw_rt, qf_nx, qf_ct, qf_bk, qf_rt, okN, lcf_goN, lcf_goC, lcf_goT, slT1, slT2, List.drop_succ_cons, List.drop_zero, List.take_succ_cons, List.take_zero, true_and, and_true, ofString_inj, String.reduceEq, decide_true, decide_false, Bool.or_self, Bool.or_true, Bool.true_or, Bool.or_false, Bool.false_or, Bool.and_self, Bool.and_true, Bool.true_and, Bool.and_false, Bool.false_and, isN, isnN, Mir.isNon, truB, q, qb, ltI, gtI, ll s1 b1, decide_true]
      refine dr T1 B.length (by omega) (by omega) fun x s2 hx T2 f2 l2 => ?_
      have b2 : s2[bl]? = some (.lst (wi (ib B))) := f2.at_ _ _ (by simpa using hne) b1
      have hv : (ib B)[x]? = some ((B[x] : Nat) : Int) := by simp [ib, hx]
      repeat first | with_reducible refine Eq.mpr wps_cons ?_ | with_reducible refine Eq.mpr wps_pass ?_ | with_reducible refine Eq.mpr wps_nil ?_ | with_reducible refine Eq.mpr wps_set ?_ | with_reducible refine Eq.mpr wps_do ?_ | with_reducible refine Eq.mpr wps_ret ?_ | with_reducible refine Eq.mpr wps_retN ?_ | with_reducible refine Eq.mpr wps_brk ?_ | with_reducible refine Eq.mpr wps_cnt ?_ | with_reducible refine Eq.mpr wps_if ?_ | with_reducible refine Eq.mpr wps_asg ?_ | with_reducible refine wps_asgL ?_ | with_reducible refine Eq.mpr wps_put ?_ | with_reducible refine Eq.mpr wps_dput ?_ | with_reducible refine Eq.mpr wps_aug ?_ | with_reducible refine Eq.mpr wps_par ?_ | with_reducible refine Eq.mpr wps_for ?_ | with_reducible refine Eq.mpr wps_wh ?_ | with_reducible refine wh_go ?_ | with_reducible refine fo_goN ?_ | with_reducible refine fo_goC ?_ | simp only [wp_tup0, wp_tup1, wp_tup2, wp_tup3, wp_tup4, wp_tup5, wp_tup6, wp_tup7, wp_lst0, wp_lst1, wp_lst2, wp_lst3, wp_lst4, wp_lst5, wp_lst6, wp_lst7, wp_lst8, wp_lst9, wp_lst10, wp_lst11, wp_lst12, wp_bd, wp_lc, ql_nx, ql_ct, ql_bk, ql_rt, iSeq, iEnu, Mir.iRev, chkR, chkT, chkO, lstO, wp_some, wp_ite, wp_none, bd_some, eVar, eC, eOp, eUn, eFn, eMt, aNil, aCons,  eAnd, eOr, eNot, eIf, eIsi, eChain, bTest, bTruth, bAnd, bOr, bNot, bYes, eSl, pNo, pAt, eRinA, eRinB, eDnew, eDin, eDget, eDget2, tgM_name, tgM_tup, tgMs_nil, tgMs_name, tgMs_tup, List.getElem?_cons_succ, List.getElem?_cons_zero, List.set_cons_succ, List.set_cons_zero, List.map_cons, List.map_nil, List.length_cons, List.length_nil, List.replicate, List.nil_append, List.cons_append, if_true, if_false, Bool.false_eq_true, Bool.true_eq_false, Nat.reduceAdd, Nat.reduceSub, Nat.reduceLeDiff, Nat.zero_add, Bool.not_true, Bool.not_false, nc0, nc1, nc2, nc3, not_true_eq_false, not_false_eq_true, ii, addI, subI, negI, int1, eqI, neI, eqS, neS, ix0, ix1, ix2, ix3, decide_eq_true_eq, Bool.not_eq_true', decide_eq_false_iff_not, truB, truN, keyI, keyS, lenT, wipeM, qw_nx, qw_ct, qw_bk, qw_rt, qf_nx, qf_ct, qf_bk, qf_rt, okN, lcf_goN, lcf_goC, lcf_goT, slT1, slT2, List.drop_succ_cons, List.drop_zero, List.take_succ_cons, List.take_zero, true_and, and_true, ofString_inj, String.reduceEq, decide_true, decide_false, Bool.or_self, Bool.or_true, Bool.true_or, Bool.or_false, Bool.false_or, Bool.and_self, Bool.and_true, Bool.true_and, Bool.and_false, Bool.false_and, isN, isnN, Mir.isNon, truB, ixI b2 hv, m4]
      exact h _ _ T2 (f1.trans f2) (by omega)
    · have e3 : ¬ (d : Int) = 3 := by omega
      have e4 : ¬ (d : Int) = 4 := by omega
      repeat first | with_reducible refine Eq.mpr wps_cons ?_ | with_reducible refine Eq.mpr wps_pass ?_ | with_reducible refine Eq.mpr wps_nil ?_ | with_reducible refine Eq.mpr wps_set ?_ | with_reducible refine Eq.mpr wps_do ?_ | with_reducible refine Eq.mpr wps_ret ?_ | with_reducible refine Eq.mpr wps_retN ?_ | with_reducible refine Eq.mpr wps_brk ?_ | with_reducible refine Eq.mpr wps_cnt ?_ | with_reducible refine Eq.mpr wps_if ?_ | with_reducible refine Eq.mpr wps_asg ?_ | with_reducible refine wps_asgL ?_ | with_reducible refine Eq.mpr wps_put ?_ | with_reducible refine Eq.mpr wps_dput ?_ | with_reducible refine Eq.mpr wps_aug ?_ | with_reducible refine Eq.mpr wps_par ?_ | with_reducible refine Eq.mpr wps_for ?_ | with_reducible refine Eq.mpr wps_wh ?_ | with_reducible refine wh_go ?_ | with_reducible refine fo_goN ?_ | with_reducible refine fo_goC ?_ | simp only [wp_tup0, wp_tup1, wp_tup2, wp_tup3, wp_tup4, wp_tup5, wp_tup6, wp_tup7, wp_lst0, wp_lst1, wp_lst2, wp_lst3, wp_lst4, wp_lst5, wp_lst6, wp_lst7, wp_lst8, wp_lst9, wp_lst10, wp_lst11, wp_lst12, wp_bd, wp_lc, ql_nx, ql_ct, ql_bk, ql_rt, iSeq, iEnu, Mir.iRev, chkR, chkT, chkO, lstO, wp_some, wp_ite, wp_none, bd_some, eVar, eC, eOp, eUn, eFn, eMt, aNil, aCons,  eAnd, eOr, eNot, eIf, eIsi, eChain, bTest, bTruth, bAnd, bOr, bNot, bYes, eSl, pNo, pAt, eRinA, eRinB, eDnew, eDin, eDget, eDget2, tgM_name, tgM_tup, tgMs_nil, tgMs_name, tgMs_tup, List.getElem?_cons_succ, List.getElem?_cons_zero, List.set_cons_succ, List.set_cons_zero, List.map_cons, List.map_nil, List.length_cons, List.length_nil, List.replicate, List.nil_append, List.cons_append, if_true, if_false, Bool.false_eq_true, Bool.true_eq_false, Nat.reduceAdd, Nat.reduceSub, Nat.reduceLeDiff, Nat.zero_add, Bool.not_true, Bool.not_false, nc0, nc1, nc2, nc3, not_true_eq_false, not_false_eq_true, ii, addI, subI, negI, int1, eqI, neI, eqS, neS, ix0, ix1, ix2, ix3, decide_eq_true_eq, Bool.not_eq_true', decide_eq_false_iff_not, truB, truN, keyI, keyS, lenT, wipeM, qw_nx, qw_ct, qw_bk, qw_rt, qf_nx, qf_ct, qf_bk, qf_rt, okN, lcf_goN, lcf_goC, lcf_goT, slT1, slT2, List.drop_succ_cons, List.drop_zero, List.take_succ_cons, List.take_zero, true_and, and_true, ofString_inj, String.reduceEq, decide_true, decide_false, Bool.or_self, Bool.or_true, Bool.true_or, Bool.or_false, Bool.false_or, Bool.and_self, Bool.and_true, Bool.true_and, Bool.and_false, Bool.false_and, isN, isnN, Mir.isNon, truB, q, qb, ltI, gtI, ll s1 b1, decide_true, decide_false, e3, e4]
      exact last s1 T1 f1 l1
  · by_cases e3 : (d : Int) = 3
    · repeat first | with_reducible refine Eq.mpr wps_cons ?_ | with_reducible refine Eq.mpr wps_pass ?_ | with_reducible refine Eq.mpr wps_nil ?_ | with_reducible refine Eq.mpr wps_set ?_ | with_reducible refine Eq.mpr wps_do ?_ | with_reducible refine Eq.mpr wps_ret ?_ | with_reducible refine Eq.mpr wps_retN ?_ | with_reducible refine Eq.mpr wps_brk ?_ | with_reducible refine Eq.mpr wps_cnt ?_ | with_reducible refine Eq.mpr wps_if ?_ | with_reducible refine Eq.mpr wps_asg ?_ | with_reducible refine wps_asgL ?_ | with_reducible refine Eq.mpr wps_put ?_ | with_reducible refine Eq.mpr wps_dput ?_ | with_reducible refine Eq.mpr wps_aug ?_ | with_reducible refine Eq.mpr wps_par ?_ | with_reducible refine Eq.mpr wps_for ?_ | with_reducible refine Eq.mpr wps_wh ?_ | with_reducible refine wh_go ?_ | with_reducible refine fo_goN ?_ | with_reducible refine fo_goC ?_ | simp only [wp_tup0, wp_tup1, wp_tup2, wp_tup3, wp_tup4, wp_tup5, wp_tup6, wp_tup7, wp_lst0, wp_lst1, wp_lst2, wp_lst3, wp_lst4, wp_lst5, wp_lst6, wp_lst7, wp_lst8, wp_lst9, wp_lst10, wp_lst11, wp_lst12, wp_bd, wp_lc, ql_nx, ql_ct, ql_bk, ql_rt, iSeq, iEnu, Mir.iRev, chkR, chkT, chkO, lstO, wp_some, wp_ite, wp_none, bd_some, eVar, eC, eOp, eUn, eFn, eMt, aNil, aCons,  eAnd, eOr, eNot, eIf, eIsi, eChain, bTest, bTruth, bAnd, bOr, bNot, bYes, eSl, pNo, pAt, eRinA, eRinB, eDnew, eDin, eDget, eDget2, tgM_name, tgM_tup, tgMs_nil, tgMs_name, tgMs_tup, List.getElem?_cons_succ, List.getElem?_cons_zero, List.set_cons_succ, List.set_cons_zero, List.map_cons, List.map_nil, List.length_cons, List.length_nil, List.replicate, List.nil_append, List.cons_append, if_true, if_false, Bool.false_eq_true, Bool.true_eq_false, Nat.reduceAdd, Nat.reduceSub, Nat.reduceLeDiff, Nat.zero_add, Bool.not_true, Bool.not_false, nc0, nc1, nc2, nc3, not_true_eq_false, not_false_eq_true, ii, addI, subI, negI, int1, eqI, neI, eqS, neS, ix0, ix1, ix2, ix3, decide_eq_true_eq, Bool.not_eq_true', decide_eq_false_iff_not, truB, truN, keyI, keyS, lenT, wipeM, qw_nx, qw_ct, qw_bk, qw_rt, qf_nx, qf_ct, qf_bk, qf_rt, okN, lcf_goN, lcf_goC, lcf_goT, slT1, slT2, List.drop_succ_cons, List.drop_zero, List.take_succ_cons, List.take_zero, true_and, and_true, ofString_inj, String.reduceEq, decide_true, decide_false, Bool.or_self, Bool.or_true, Bool.true_or, Bool.or_false, Bool.false_or, Bool.and_self, Bool.and_true, Bool.true_and, Bool.and_false, Bool.false_and, isN, isnN, Mir.isNon, truB, e3, ltI, Int.reduceLT, decide_true, decide_false]
      refine dr T1 5 (by decide) (by decide) fun x s3 hx T3 f3 l3 => ?_
      repeat first | with_reducible refine Eq.mpr wps_cons ?_ | with_reducible refine Eq.mpr wps_pass ?_ | with_reducible refine Eq.mpr wps_nil ?_ | with_reducible refine Eq.mpr wps_set ?_ | with_reducible refine Eq.mpr wps_do ?_ | with_reducible refine Eq.mpr wps_ret ?_ | with_reducible refine Eq.mpr wps_retN ?_ | with_reducible refine Eq.mpr wps_brk ?_ | with_reducible refine Eq.mpr wps_cnt ?_ | with_reducible refine Eq.mpr wps_if ?_ | with_reducible refine Eq.mpr wps_asg ?_ | with_reducible refine wps_asgL ?_ | with_reducible refine Eq.mpr wps_put ?_ | with_reducible refine Eq.mpr wps_dput ?_ | with_reducible refine Eq.mpr wps_aug ?_ | with_reducible refine Eq.mpr wps_par ?_ | with_reducible refine Eq.mpr wps_for ?_ | with_reducible refine Eq.mpr wps_wh ?_ | with_reducible refine wh_go ?_ | with_reducible refine fo_goN ?_ | with_reducible refine fo_goC ?_ | simp only [wp_tup0, wp_tup1, wp_tup2, wp_tup3, wp_tup4, wp_tup5, wp_tup6, wp_tup7, wp_lst0, wp_lst1, wp_lst2, wp_lst3, wp_lst4, wp_lst5, wp_lst6, wp_lst7, wp_lst8, wp_lst9, wp_lst10, wp_lst11, wp_lst12, wp_bd, wp_lc, ql_nx, ql_ct, ql_bk, ql_rt, iSeq, iEnu, Mir.iRev, chkR, chkT, chkO, lstO, wp_some, wp_ite, wp_none, bd_some, eVar, eC, eOp, eUn, eFn, eMt, aNil, aCons,  eAnd, eOr, eNot, eIf, eIsi, eChain, bTest, bTruth, bAnd, bOr, bNot, bYes, eSl, pNo, pAt, eRinA, eRinB, eDnew, eDin, eDget, eDget2, tgM_name, tgM_tup, tgMs_nil, tgMs_name, tgMs_tup, List.getElem?_cons_succ, List.getElem?_cons_zero, List.set_cons_succ, List.set_cons_zero, List.map_cons, List.map_nil, List.length_cons, List.length_nil, List.replicate, List.nil_append, List.cons_append, if_true, if_false, Bool.false_eq_true, Bool.true_eq_false, Nat.reduceAdd, Nat.reduceSub, Nat.reduceLeDiff, Nat.zero_add, Bool.not_true, Bool.not_false, nc0, nc1, nc2, nc3, not_true_eq_false, not_false_eq_true, ii, addI, subI, negI, int1, eqI, neI, eqS, neS, ix0, ix1, ix2, ix3, decide_eq_true_eq, Bool.not_eq_true', decide_eq_false_iff_not, truB, truN, keyI, keyS, lenT, wipeM, qw_nx, qw_ct, qw_bk, qw_rt, qf_nx, qf_ct, qf_bk, qf_rt, okN, lcf_goN, lcf_goC, lcf_goT, slT1, slT2, List.drop_succ_cons, List.drop_zero, List.take_succ_cons, List.take_zero, true_and, and_true, ofString_inj, String.reduceEq, decide_true, decide_false, Bool.or_self, Bool.or_true, Bool.true_or, Bool.or_false, Bool.false_or, Bool.and_self, Bool.and_true, Bool.true_and, Bool.and_false, Bool.false_and, isN, isnN, Mir.isNon, truB, m16]
      refine dr T3 12 (by decide) (by decide) fun y s4 hy T4 f4 l4 => ?_
      repeat first | with_reducible refine Eq.mpr wps_cons ?_ | with_reducible refine Eq.mpr wps_pass ?_ | with_reducible refine Eq.mpr wps_nil ?_ | with_reducible refine Eq.mpr wps_set ?_ | with_reducible refine Eq.mpr wps_do ?_ | with_reducible refine Eq.mpr wps_ret ?_ | with_reducible refine Eq.mpr wps_retN ?_ | with_reducible refine Eq.mpr wps_brk ?_ | with_reducible refine Eq.mpr wps_cnt ?_ | with_reducible refine Eq.mpr wps_if ?_ | with_reducible refine Eq.mpr wps_asg ?_ | with_reducible refine wps_asgL ?_ | with_reducible refine Eq.mpr wps_put ?_ | with_reducible refine Eq.mpr wps_dput ?_ | with_reducible refine Eq.mpr wps_aug ?_ | with_reducible refine Eq.mpr wps_par ?_ | with_reducible refine Eq.mpr wps_for ?_ | with_reducible refine Eq.mpr wps_wh ?_ | with_reducible refine wh_go ?_ | with_reducible refine fo_goN ?_ | with_reducible refine fo_goC ?_ | simp only [wp_tup0, wp_tup1, wp_tup2, wp_tup3, wp_tup4, wp_tup5, wp_tup6, wp_tup7, wp_lst0, wp_lst1, wp_lst2, wp_lst3, wp_lst4, wp_lst5, wp_lst6, wp_lst7, wp_lst8, wp_lst9, wp_lst10, wp_lst11, wp_lst12, wp_bd, wp_lc, ql_nx, ql_ct, ql_bk, ql_rt, iSeq, iEnu, Mir.iRev, chkR, chkT, chkO, lstO, wp_some, wp_ite, wp_none, bd_some, eVar, eC, eOp, eUn, eFn, eMt, aNil, aCons,  eAnd, eOr, eNot, eIf, eIsi, eChain, bTest, bTruth, bAnd, bOr, bNot, bYes, eSl, pNo, pAt, eRinA, eRinB, eDnew, eDin, eDget, eDget2, tgM_name, tgM_tup, tgMs_nil, tgMs_name, tgMs_tup, List.getElem?_cons_succ, List.getElem?_cons_zero, List.set_cons_succ, List.set_cons_zero, List.map_cons, List.map_nil, List.length_cons, List.length_nil, List.replicate, List.nil_append, List.cons_append, if_true, if_false, Bool.false_eq_true, Bool.true_eq_false, Nat.reduceAdd, Nat.reduceSub, Nat.reduceLeDiff, Nat.zero_add, Bool.not_true, Bool.not_false, nc0, nc1, nc2, nc3, not_true_eq_false, not_false_eq_true, ii, addI, subI, negI, int1, eqI, neI, eqS, neS, ix0, ix1, ix2, ix3, decide_eq_true_eq, Bool.not_eq_true', decide_eq_false_iff_not, truB, truN, keyI, keyS, lenT, wipeM, qw_nx, qw_ct, qw_bk, qw_rt, qf_nx, qf_ct, qf_bk, qf_rt, okN, lcf_goN, lcf_goC, lcf_goT, slT1, slT2, List.drop_succ_cons, List.drop_zero, List.take_succ_cons, List.take_zero, true_and, and_true, ofString_inj, String.reduceEq, decide_true, decide_false, Bool.or_self, Bool.or_true, Bool.true_or, Bool.or_false, Bool.false_or, Bool.and_self, Bool.and_true, Bool.true_and, Bool.and_false, Bool.false_and, isN, isnN, Mir.isNon, truB, m4]
      exact h _ _ T4 ((f1.trans f3).trans f4) (by omega)
    · have e4 : (d : Int) = 4 := by omega
      repeat first | with_reducible refine Eq.mpr wps_cons ?_ | with_reducible refine Eq.mpr wps_pass ?_ | with_reducible refine Eq.mpr wps_nil ?_ | with_reducible refine Eq.mpr wps_set ?_ | with_reducible refine Eq.mpr wps_do ?_ | with_reducible refine Eq.mpr wps_ret ?_ | with_reducible refine Eq.mpr wps_retN ?_ | with_reducible refine Eq.mpr wps_brk ?_ | with_reducible refine Eq.mpr wps_cnt ?_ | with_reducible refine Eq.mpr wps_if ?_ | with_reducible refine Eq.mpr wps_asg ?_ | with_reducible refine wps_asgL ?_ | with_reducible refine Eq.mpr wps_put ?_ | with_reducible refine Eq.mpr wps_dput ?_ | with_reducible refine Eq.mpr wps_aug ?_ | with_reducible refine Eq.mpr wps_par ?_ | with_reducible refine Eq.mpr wps_for ?_ | with_reducible refine Eq.mpr wps_wh ?_ | with_reducible refine wh_go ?_ | with_reducible refine fo_goN ?_ | with_reducible refine fo_goC ?_ | simp only [wp_tup0, wp_tup1, wp_tup2, wp_tup3, wp_tup4, wp_tup5, wp_tup6, wp_tup7, wp_lst0, wp_lst1, wp_lst2, wp_lst3, wp_lst4, wp_lst5, wp_lst6, wp_lst7, wp_lst8, wp_lst9, wp_lst10, wp_lst11, wp_lst12, wp_bd, wp_lc, ql_nx, ql_ct, ql_bk, ql_rt, iSeq, iEnu, Mir.iRev, chkR, chkT, chkO, lstO, wp_some, wp_ite, wp_none, bd_some, eVar, eC, eOp, eUn, eFn, eMt, aNil, aCons,  eAnd, eOr, eNot, eIf, eIsi, eChain, bTest, bTruth, bAnd, bOr, bNot, bYes, eSl, pNo, pAt, eRinA, eRinB, eDnew, eDin, eDget, eDget2, tgM_name, tgM_tup, tgMs_nil, tgMs_name, tgMs_tup, List.getElem?_cons_succ, List.getElem?_cons_zero, List.set_cons_succ, List.set_cons_zero, List.map_cons, List.map_nil, List.length_cons, List.length_nil, List.replicate, List.nil_append, List.cons_append, if_true, if_false, Bool.false_eq_true, Bool.true_eq_false, Nat.reduceAdd, Nat.reduceSub, Nat.reduceLeDiff, Nat.zero_add, Bool.not_true, Bool.not_false, nc0, nc1, nc2, nc3, not_true_eq_false, not_false_eq_true, ii, addI, subI, negI, int1, eqI, neI, eqS, neS, ix0, ix1, ix2, ix3, decide_eq_true_eq, Bool.not_eq_true', decide_eq_false_iff_not, truB, truN, keyI, keyS, lenT, wipeM, qw_nx, qw_ct, qw_bk, qw_rt, qf_nx, qf_ct, qf_bk, qf_rt, okN, lcf_goN, lcf_goC, lcf_goT, slT1, slT2, List.drop_succ_cons, List.drop_zero, List.take_succ_cons, List.take_zero, true_and, and_true, ofString_inj, String.reduceEq, decide_true, decide_false, Bool.or_self, Bool.or_true, Bool.true_or, Bool.or_false, Bool.false_or, Bool.and_self, Bool.and_true, Bool.true_and, Bool.and_false, Bool.false_and, isN, isnN, Mir.isNon, truB, e4, ltI, Int.reduceLT, Int.reduceEq, decide_true, decide_false]
      refine dr T1 2 (by decide) (by decide) fun x s3 hx T3 f3 l3 => ?_
      by_cases ex : (x : Int) = 0
      · repeat first | with_reducible refine Eq.mpr wps_cons ?_ | with_reducible refine Eq.mpr wps_pass ?_ | with_reducible refine Eq.mpr wps_nil ?_ | with_reducible refine Eq.mpr wps_set ?_ | with_reducible refine Eq.mpr wps_do ?_ | with_reducible refine Eq.mpr wps_ret ?_ | with_reducible refine Eq.mpr wps_retN ?_ | with_reducible refine Eq.mpr wps_brk ?_ | with_reducible refine Eq.mpr wps_cnt ?_ | with_reducible refine Eq.mpr wps_if ?_ | with_reducible refine Eq.mpr wps_asg ?_ | with_reducible refine wps_asgL ?_ | with_reducible refine Eq.mpr wps_put ?_ | with_reducible refine Eq.mpr wps_dput ?_ | with_reducible refine Eq.mpr wps_aug ?_ | with_reducible refine Eq.mpr wps_par ?_ | with_reducible refine Eq.mpr wps_for ?_ | with_reducible refine Eq.mpr wps_wh ?_ | with_reducible refine wh_go ?_ | with_reducible refine fo_goN ?_ | with_reducible refine fo_goC ?_ | simp only [wp_tup0, wp_tup1, wp_tup2, wp_tup3, wp_tup4, wp_tup5, wp_tup6, wp_tup7, wp_lst0, wp_lst1, wp_lst2, wp_lst3, wp_lst4, wp_lst5, wp_lst6, wp_lst7, wp_lst8, wp_lst9, wp_lst10, wp_lst11, wp_lst12, wp_bd, wp_lc, ql_nx, ql_ct, ql_bk, ql_rt, iSeq, iEnu, Mir.iRev, chkR, chkT, chkO, lstO, wp_some, wp_ite, wp_none, bd_some, eVar, eC, eOp, eUn, eFn, eMt, aNil, aCons,  eAnd, eOr, eNot, eIf, eIsi, eChain, bTest, bTruth, bAnd, bOr, bNot, bYes, eSl, pNo, pAt, eRinA, eRinB, eDnew, eDin, eDget, eDget2, tgM_name, tgM_tup, tgMs_nil, tgMs_name, tgMs_tup, List.getElem?_cons_succ, List.getElem?_cons_zero, List.set_cons_succ, List.set_cons_zero, List.map_cons, List.map_nil, List.length_cons, List.length_nil, List.replicate, List.nil_append, List.cons_append, if_true, if_false, Bool.false_eq_true, Bool.true_eq_false, Nat.reduceAdd, Nat.reduceSub, Nat.reduceLeDiff, Nat.zero_add, Bool.not_true, Bool.not_false, nc0, nc1, nc2, nc3, not_true_eq_false, not_false_eq_true, ii, addI, subI, negI, int1, eqI, neI, eqS, neS, ix0, ix1, ix2, ix3, decide_eq_true_eq, Bool.not_eq_true', decide_eq_false_iff_not, truB, truN, keyI, keyS, lenT, wipeM, qw_nx, qw_ct, qw_bk, qw_rt, qf_nx, qf_ct, qf_bk, qf_rt, okN, lcf_goN, lcf_goC, lcf_goT, slT1, slT2, List.drop_succ_cons, List.drop_zero, List.take_succ_cons, List.take_zero, true_and, and_true, ofString_inj, String.reduceEq, decide_true, decide_false, Bool.or_self, Bool.or_true, Bool.true_or, Bool.or_false, Bool.false_or, Bool.and_self, Bool.and_true, Bool.true_and, Bool.and_false, Bool.false_and, isN, isnN, Mir.isNon, truB, ex, decide_true]
        exact h _ _ T3 (f1.trans f3) (by omega)
      · repeat first | with_reducible refine Eq.mpr wps_cons ?_ | with_reducible refine Eq.mpr wps_pass ?_ | with_reducible refine Eq.mpr wps_nil ?_ | with_reducible refine Eq.mpr wps_set ?_ | with_reducible refine Eq.mpr wps_do ?_ | with_reducible refine Eq.mpr wps_ret ?_ | with_reducible refine Eq.mpr wps_retN ?_ | with_reducible refine Eq.mpr wps_brk ?_ | with_reducible refine Eq.mpr wps_cnt ?_ | with_reducible refine Eq.mpr wps_if ?_ | with_reducible refine Eq.mpr wps_asg ?_ | with_reducible refine wps_asgL ?_ | with_reducible refine Eq.mpr wps_put ?_ | with_reducible refine Eq.mpr wps_dput ?_ | with_reducible refine Eq.mpr wps_aug ?_ | with_reducible refine Eq.mpr wps_par ?_ | with_reducible refine Eq.mpr wps_for ?_ | with_reducible refine Eq.mpr wps_wh ?_ | with_reducible refine wh_go ?_ | with_reducible refine fo_goN ?_ | with_reducible refine fo_goC ?_ | simp only [wp_tup0, wp_tup1, wp_tup2, wp_tup3, wp_tup4, wp_tup5, wp_tup6, wp_tup7, wp_lst0, wp_lst1, wp_lst2, wp_lst3, wp_lst4, wp_lst5, wp_lst6, wp_lst7, wp_lst8, wp_lst9, wp_lst10, wp_lst11, wp_lst12, wp_bd, wp_lc, ql_nx, ql_ct, ql_bk, ql_rt, iSeq, iEnu, Mir.iRev, chkR, chkT, chkO, lstO, wp_some, wp_ite, wp_none, bd_some, eVar, eC, eOp, eUn, eFn, eMt, aNil, aCons,  eAnd, eOr, eNot, eIf, eIsi, eChain, bTest, bTruth, bAnd, bOr, bNot, bYes, eSl, pNo, pAt, eRinA, eRinB, eDnew, eDin, eDget, eDget2, tgM_name, tgM_tup, tgMs_nil, tgMs_name, tgMs_tup, List.getElem?_cons_succ, List.getElem?_cons_zero, List.set_cons_succ, List.set_cons_zero, List.map_cons, List.map_nil, List.length_cons, List.length_nil, List.replicate, List.nil_append, List.cons_append, if_true, if_false, Bool.false_eq_true, Bool.true_eq_false, Nat.reduceAdd, Nat.reduceSub, Nat.reduceLeDiff, Nat.zero_add, Bool.not_true, Bool.not_false, nc0, nc1, nc2, nc3, not_true_eq_false, not_false_eq_true, ii, addI, subI, negI, int1, eqI, neI, eqS, neS, ix0, ix1, ix2, ix3, decide_eq_true_eq, Bool.not_eq_true', decide_eq_false_iff_not, truB, truN, keyI, keyS, lenT, wipeM, qw_nx, qw_ct, qw_bk, qw_rt, qf_nx, qf_ct, qf_bk, qf_rt, okN, lcf_goN, lcf_goC, lcf_goT, slT1, slT2, List.drop_succ_cons, List.drop_zero, List.take_succ_cons, List.take_zero, true_and, and_true, ofString_inj, String.reduceEq, decide_true, decide_false, Bool.or_self, Bool.or_true, Bool.true_or, Bool.or_false, Bool.false_or, Bool.and_self, Bool.and_true, Bool.true_and, Bool.and_false, Bool.false_and, isN, isnN, Mir.isNon, truB, ex, decide_false]
        exact last s3 T3 (f1.trans f3) (by omega)
end
end K72

set_option Elab.async false
set_option linter.all false
set_option maxRecDepth 100000
namespace K72
open PySem PySem.Spec PyProof.Rows L2 Mir
structure Wd (s : Sto) (cs : List Int) (c : Nat) (M : List Int) (B : List Nat) : Prop where
  T : Tape s 1 0 cs
  h : Ht s 2 3 4 (c : Int) M B
  h2 : Ht s 5 6 7 (c : Int) [] []
  md : s[8]? = some (.lst (wi M))
  bl : s[9]? = some (.lst (wi (ib B)))
  o : HpOk M B
  le : M.length ≤ c
  c60 : c ≤ 60
theorem neB {a b : Bool} {s : Sto} : gNe (.bl a) (.bl b) s = some (.bl (!decide (a = b)), s) := by cases a <;> cases b <;> rfl
theorem Wd.fr {s s' : Sto} {cs : List Int} {c : Nat} {M : List Int} {B : List Nat} (w : Wd s cs c M B) (T : Tape s' 1 0 cs) (f : Fr [1] s s') : Wd s' cs c M B :=
  ⟨T, w.h.fr f (by decide) (by decide) (by decide), w.h2.fr f (by decide) (by decide) (by decide), f.at_ _ _ (by decide) w.md, f.at_ _ _ (by decide) w.bl, w.o, w.le, w.c60⟩
theorem Wd.app {s : Sto} {t : List O} {cs : List Int} {c : Nat} {M : List Int} {B : List Nat} (w : Wd s cs c M B) : Wd (s ++ t) cs c M B :=
  w.fr ⟨by obtain ⟨a, b, d, x, e⟩ := w.T.tape; exact ⟨a, b, d, x, gapp e⟩, gapp w.T.cells⟩ .app
section
variable {s : Sto} {cs : List Int} {c : Nat} {M : List Int} {B : List Nat}
theorem tyB {b : Bool} {s : Sto} : tyW (.bl b) s = some "bool" := rfl
theorem isb : isiT "bool" "bool" = true := by decide
theorem mkL_ok {R : W → Sto → Prop} (w : Wd s cs c M B) (h : ∀ (M' : List Int) (B' : List Nat) (s' : Sto), Wd s' cs c M' B' → R (.bl true) s') : Wp (FLawMake [.ref 1, .ref 2, .ref 8, .ref 9, .int (c : Int)] s) R := by
  have t1 : hit HT_OutOfRoom "OutOfRoom" = some true := by decide +kernel
  have t2 : (hit HT_ShapewrightError "OutOfRoom").getD false = true := by decide +kernel
  have t3 : (hit HT_NoBlock "OutOfRoom").getD false = false := by decide +kernel
  have m4 : ∀ (x : Int) (s : Sto), Mir.gMul (.int 4) (.int x) s = some (.int (4 * x), s) := fun x s => mulL (by decide) (by decide)
  have hM60 : M.length ≤ 60 := Nat.le_trans w.le w.c60
  have hB : B.length ≤ 1000 := by have := w.o.len; omega
  unfold FLawMake
  rw [wp_mkF (by rfl)]
  unfold BLawMake
  repeat first | with_reducible refine Eq.mpr wps_cons ?_ | with_reducible refine Eq.mpr wps_pass ?_ | with_reducible refine Eq.mpr wps_nil ?_ | with_reducible refine Eq.mpr wps_set ?_ | with_reducible refine Eq.mpr wps_do ?_ | with_reducible refine Eq.mpr wps_ret ?_ | with_reducible refine Eq.mpr wps_retN ?_ | with_reducible refine Eq.mpr wps_brk ?_ | with_reducible refine Eq.mpr wps_cnt ?_ | with_reducible refine Eq.mpr wps_if ?_ | with_reducible refine Eq.mpr wps_asg ?_ | with_reducible refine wps_asgL ?_ | with_reducible refine Eq.mpr wps_put ?_ | with_reducible refine Eq.mpr wps_dput ?_ | with_reducible refine Eq.mpr wps_aug ?_ | with_reducible refine Eq.mpr wps_par ?_ | with_reducible refine Eq.mpr wps_for ?_ | with_reducible refine Eq.mpr wps_wh ?_ | with_reducible refine Eq.mpr wps_fld ?_ | with_reducible refine Eq.mpr wps_try ?_ | with_reducible refine Eq.mpr wps_tryAs ?_ | simp only [wp_tup0, wp_tup1, wp_tup2, wp_tup3, wp_tup4, wp_tup5, wp_tup6, wp_tup7, wp_lst0, wp_lst1, wp_lst2, wp_lst3, wp_lst4, wp_lst5, wp_lst6, wp_lst7, wp_lst8, wp_lst9, wp_lst10, wp_lst11, wp_lst12, wp_bd, wp_lc, ql_nx, ql_ct, ql_bk, ql_rt, iSeq, iEnu, Mir.iRev, chkR, chkT, chkO, lstO, wp_some, wp_ite, wp_none, bd_some, eVar, eC, eOp, eUn, eFn, eMt, aNil, aCons,  eAnd, eOr, eNot, eIf, eIsi, eChain, bTest, bTruth, bAnd, bOr, bNot, bYes, eSl, pNo, pAt, eRinA, eRinB, eDnew, eDin, eDget, eDget2, tgM_name, tgM_tup, tgMs_nil, tgMs_name, tgMs_tup, List.getElem?_cons_succ, List.getElem?_cons_zero, List.set_cons_succ, List.set_cons_zero, List.map_cons, List.map_nil, List.length_cons, List.length_nil, List.replicate, List.nil_append, List.cons_append, if_true, if_false, Bool.false_eq_true, Bool.true_eq_false, Nat.reduceAdd, Nat.reduceSub, Nat.reduceLeDiff, Nat.zero_add, Bool.not_true, Bool.not_false, nc0, nc1, nc2, nc3, not_true_eq_false, not_false_eq_true, ii, addI, subI, negI, int1, eqI, neI, eqS, neS, ix0, ix1, ix2, ix3, decide_eq_true_eq, Bool.not_eq_true', decide_eq_false_iff_not, truB, truN, keyI, keyS, lenT, wipeM, wp_fld, wp_meth, wp_make, wpx_eL, wpx_sL, wpx_cons, kx_nx, kx_rt, kx_xc, wpx_if, wpx_raise, wpx_set, wpx_do, wpx_ret, vx_l, vx_r, wpx_op, gx_l, gx_r, wpx_put, px_l, px_r, wpx_meth, wpx_fn, exk_rt, exk_nx, exk_xc, wp_dn, tx_nx, tx_rt, tx_xc, txa_nx, txa_rt, txa_xc]
  refine wp_rng1 ?_
  repeat first | with_reducible refine Eq.mpr wps_cons ?_ | with_reducible refine Eq.mpr wps_pass ?_ | with_reducible refine Eq.mpr wps_nil ?_ | with_reducible refine Eq.mpr wps_set ?_ | with_reducible refine Eq.mpr wps_do ?_ | with_reducible refine Eq.mpr wps_ret ?_ | with_reducible refine Eq.mpr wps_retN ?_ | with_reducible refine Eq.mpr wps_brk ?_ | with_reducible refine Eq.mpr wps_cnt ?_ | with_reducible refine Eq.mpr wps_if ?_ | with_reducible refine Eq.mpr wps_asg ?_ | with_reducible refine wps_asgL ?_ | with_reducible refine Eq.mpr wps_put ?_ | with_reducible refine Eq.mpr wps_dput ?_ | with_reducible refine Eq.mpr wps_aug ?_ | with_reducible refine Eq.mpr wps_par ?_ | with_reducible refine Eq.mpr wps_for ?_ | with_reducible refine Eq.mpr wps_wh ?_ | with_reducible refine Eq.mpr wps_fld ?_ | with_reducible refine Eq.mpr wps_try ?_ | with_reducible refine Eq.mpr wps_tryAs ?_ | simp only [wp_tup0, wp_tup1, wp_tup2, wp_tup3, wp_tup4, wp_tup5, wp_tup6, wp_tup7, wp_lst0, wp_lst1, wp_lst2, wp_lst3, wp_lst4, wp_lst5, wp_lst6, wp_lst7, wp_lst8, wp_lst9, wp_lst10, wp_lst11, wp_lst12, wp_bd, wp_lc, ql_nx, ql_ct, ql_bk, ql_rt, iSeq, iEnu, Mir.iRev, chkR, chkT, chkO, lstO, wp_some, wp_ite, wp_none, bd_some, eVar, eC, eOp, eUn, eFn, eMt, aNil, aCons,  eAnd, eOr, eNot, eIf, eIsi, eChain, bTest, bTruth, bAnd, bOr, bNot, bYes, eSl, pNo, pAt, eRinA, eRinB, eDnew, eDin, eDget, eDget2, tgM_name, tgM_tup, tgMs_nil, tgMs_name, tgMs_tup, List.getElem?_cons_succ, List.getElem?_cons_zero, List.set_cons_succ, List.set_cons_zero, List.map_cons, List.map_nil, List.length_cons, List.length_nil, List.replicate, List.nil_append, List.cons_append, if_true, if_false, Bool.false_eq_true, Bool.true_eq_false, Nat.reduceAdd, Nat.reduceSub, Nat.reduceLeDiff, Nat.zero_add, Bool.not_true, Bool.not_false, nc0, nc1, nc2, nc3, not_true_eq_false, not_false_eq_true, ii, addI, subI, negI, int1, eqI, neI, eqS, neS, ix0, ix1, ix2, ix3, decide_eq_true_eq, Bool.not_eq_true', decide_eq_false_iff_not, truB, truN, keyI, keyS, lenT, wipeM, wp_fld, wp_meth, wp_make, wpx_eL, wpx_sL, wpx_cons, kx_nx, kx_rt, kx_xc, wpx_if, wpx_raise, wpx_set, wpx_do, wpx_ret, vx_l, vx_r, wpx_op, gx_l, gx_r, wpx_put, px_l, px_r, wpx_meth, wpx_fn, exk_rt, exk_nx, exk_xc, wp_dn, tx_nx, tx_rt, tx_xc, txa_nx, txa_rt, txa_xc]
  refine dr w.T 5 (by decide) (by decide) fun d s1 hd T1 f1 l1 => ?_
  refine ⟨d, rfl, by omega, by simp; omega, ?_⟩
  refine wp_lcf (I := fun k acc s' => ∃ F : List Int, acc = wi F ∧ F.length = k ∧ Tape s' 1 0 cs ∧ Fr [1] s s') _ 0 [] _ ⟨[], rfl, rfl, T1, f1⟩ (fun i x acc s2 hx hI => ?_) (fun acc s2 hI => ?_)
  · obtain ⟨F, rfl, hF, T2, f2⟩ := hI
    refine ⟨by rw [okN]; trivial, _, tgM_name, ?_⟩
    repeat first | with_reducible refine Eq.mpr wps_cons ?_ | with_reducible refine Eq.mpr wps_pass ?_ | with_reducible refine Eq.mpr wps_nil ?_ | with_reducible refine Eq.mpr wps_set ?_ | with_reducible refine Eq.mpr wps_do ?_ | with_reducible refine Eq.mpr wps_ret ?_ | with_reducible refine Eq.mpr wps_retN ?_ | with_reducible refine Eq.mpr wps_brk ?_ | with_reducible refine Eq.mpr wps_cnt ?_ | with_reducible refine Eq.mpr wps_if ?_ | with_reducible refine Eq.mpr wps_asg ?_ | with_reducible refine wps_asgL ?_ | with_reducible refine Eq.mpr wps_put ?_ | with_reducible refine Eq.mpr wps_dput ?_ | with_reducible refine Eq.mpr wps_aug ?_ | with_reducible refine Eq.mpr wps_par ?_ | with_reducible refine Eq.mpr wps_for ?_ | with_reducible refine Eq.mpr wps_wh ?_ | with_reducible refine Eq.mpr wps_fld ?_ | with_reducible refine Eq.mpr wps_try ?_ | with_reducible refine Eq.mpr wps_tryAs ?_ | simp only [wp_tup0, wp_tup1, wp_tup2, wp_tup3, wp_tup4, wp_tup5, wp_tup6, wp_tup7, wp_lst0, wp_lst1, wp_lst2, wp_lst3, wp_lst4, wp_lst5, wp_lst6, wp_lst7, wp_lst8, wp_lst9, wp_lst10, wp_lst11, wp_lst12, wp_bd, wp_lc, ql_nx, ql_ct, ql_bk, ql_rt, iSeq, iEnu, Mir.iRev, chkR, chkT, chkO, lstO, wp_some, wp_ite, wp_none, bd_some, eVar, eC, eOp, eUn, eFn, eMt, aNil, aCons,  eAnd, eOr, eNot, eIf, eIsi, eChain, bTest, bTruth, bAnd, bOr, bNot, bYes, eSl, pNo, pAt, eRinA, eRinB, eDnew, eDin, eDget, eDget2, tgM_name, tgM_tup, tgMs_nil, tgMs_name, tgMs_tup, List.getElem?_cons_succ, List.getElem?_cons_zero, List.set_cons_succ, List.set_cons_zero, List.map_cons, List.map_nil, List.length_cons, List.length_nil, List.replicate, List.nil_append, List.cons_append, if_true, if_false, Bool.false_eq_true, Bool.true_eq_false, Nat.reduceAdd, Nat.reduceSub, Nat.reduceLeDiff, Nat.zero_add, Bool.not_true, Bool.not_false, nc0, nc1, nc2, nc3, not_true_eq_false, not_false_eq_true, ii, addI, subI, negI, int1, eqI, neI, eqS, neS, ix0, ix1, ix2, ix3, decide_eq_true_eq, Bool.not_eq_true', decide_eq_false_iff_not, truB, truN, keyI, keyS, lenT, wipeM, wp_fld, wp_meth, wp_make, wpx_eL, wpx_sL, wpx_cons, kx_nx, kx_rt, kx_xc, wpx_if, wpx_raise, wpx_set, wpx_do, wpx_ret, vx_l, vx_r, wpx_op, gx_l, gx_r, wpx_put, px_l, px_r, wpx_meth, wpx_fn, exk_rt, exk_nx, exk_xc, wp_dn, tx_nx, tx_rt, tx_xc, txa_nx, txa_rt, txa_xc, bYes]
    refine lw_ok T2 (f2.at_ _ _ (by decide) w.bl) (by decide) hB fun v s3 T3 f3 l3 => ?_
    exact ⟨F ++ [v], by simp [wi], by simp; omega, T3, f2.trans f3⟩
  obtain ⟨F, rfl, hF, T2, f2⟩ := hI
  refine ⟨by rw [okN]; trivial, fun ws e => ?_⟩
  rw [List.nil_append] at e
  subst e
  have hF4 : F.length ≤ 4 := by
    rw [hF]
    simp
    omega
  have w2 := w.fr T2 f2
  obtain ⟨s3, es3⟩ : ∃ s3, s3 = s2 ++ [O.lst (wi F)] := ⟨_, rfl⟩
  rw [← es3]
  have w3 : Wd s3 cs c M B := by rw [es3]; exact w2.app
  obtain ⟨f, ef⟩ : ∃ f, f = s2.length := ⟨_, rfl⟩
  rw [← ef]
  have g3 : s3[f]? = some (.lst (wi F)) := by rw [es3, ef]; exact gnew
  have f9 : 9 < f := by rw [ef]; exact gltn w2.bl
  repeat first | with_reducible refine Eq.mpr wps_cons ?_ | with_reducible refine Eq.mpr wps_pass ?_ | with_reducible refine Eq.mpr wps_nil ?_ | with_reducible refine Eq.mpr wps_set ?_ | with_reducible refine Eq.mpr wps_do ?_ | with_reducible refine Eq.mpr wps_ret ?_ | with_reducible refine Eq.mpr wps_retN ?_ | with_reducible refine Eq.mpr wps_brk ?_ | with_reducible refine Eq.mpr wps_cnt ?_ | with_reducible refine Eq.mpr wps_if ?_ | with_reducible refine Eq.mpr wps_asg ?_ | with_reducible refine wps_asgL ?_ | with_reducible refine Eq.mpr wps_put ?_ | with_reducible refine Eq.mpr wps_dput ?_ | with_reducible refine Eq.mpr wps_aug ?_ | with_reducible refine Eq.mpr wps_par ?_ | with_reducible refine Eq.mpr wps_for ?_ | with_reducible refine Eq.mpr wps_wh ?_ | with_reducible refine Eq.mpr wps_fld ?_ | with_reducible refine Eq.mpr wps_try ?_ | with_reducible refine Eq.mpr wps_tryAs ?_ | simp only [wp_tup0, wp_tup1, wp_tup2, wp_tup3, wp_tup4, wp_tup5, wp_tup6, wp_tup7, wp_lst0, wp_lst1, wp_lst2, wp_lst3, wp_lst4, wp_lst5, wp_lst6, wp_lst7, wp_lst8, wp_lst9, wp_lst10, wp_lst11, wp_lst12, wp_bd, wp_lc, ql_nx, ql_ct, ql_bk, ql_rt, iSeq, iEnu, Mir.iRev, chkR, chkT, chkO, lstO, wp_some, wp_ite, wp_none, bd_some, eVar, eC, eOp, eUn, eFn, eMt, aNil, aCons,  eAnd, eOr, eNot, eIf, eIsi, eChain, bTest, bTruth, bAnd, bOr, bNot, bYes, eSl, pNo, pAt, eRinA, eRinB, eDnew, eDin, eDget, eDget2, tgM_name, tgM_tup, tgMs_nil, tgMs_name, tgMs_tup, List.getElem?_cons_succ, List.getElem?_cons_zero, List.set_cons_succ, List.set_cons_zero, List.map_cons, List.map_nil, List.length_cons, List.length_nil, List.replicate, List.nil_append, List.cons_append, if_true, if_false, Bool.false_eq_true, Bool.true_eq_false, Nat.reduceAdd, Nat.reduceSub, Nat.reduceLeDiff, Nat.zero_add, Bool.not_true, Bool.not_false, nc0, nc1, nc2, nc3, not_true_eq_false, not_false_eq_true, ii, addI, subI, negI, int1, eqI, neI, eqS, neS, ix0, ix1, ix2, ix3, decide_eq_true_eq, Bool.not_eq_true', decide_eq_false_iff_not, truB, truN, keyI, keyS, lenT, wipeM, wp_fld, wp_meth, wp_make, wpx_eL, wpx_sL, wpx_cons, kx_nx, kx_rt, kx_xc, wpx_if, wpx_raise, wpx_set, wpx_do, wpx_ret, vx_l, vx_r, wpx_op, gx_l, gx_r, wpx_put, px_l, px_r, wpx_meth, wpx_fn, exk_rt, exk_nx, exk_xc, wp_dn, tx_nx, tx_rt, tx_xc, txa_nx, txa_rt, txa_xc, listL g3]
  obtain ⟨s4, es4⟩ : ∃ s4, s4 = s3 ++ [O.lst (wi F)] := ⟨_, rfl⟩
  rw [← es4]
  have w4 : Wd s4 cs c M B := by rw [es4]; exact w3.app
  obtain ⟨g, eg⟩ : ∃ g, g = s3.length := ⟨_, rfl⟩
  rw [← eg]
  have fg : f < g := by rw [eg]; exact gltn g3
  have g4 : s4[f]? = some (.lst (wi F)) := by rw [es4]; exact gapp g3
  have k4 : s4[g]? = some (.lst (wi F)) := by rw [es4, eg]; exact gnew
  have lm : gLen [.ref 8] s4 = some (.int (M.length : Int), s4) := by rw [lenL w4.md, List.length_map]
  have lf : gLen [.ref f] s4 = some (.int (F.length : Int), s4) := by rw [lenL g4, List.length_map]
  repeat first | with_reducible refine Eq.mpr wps_cons ?_ | with_reducible refine Eq.mpr wps_pass ?_ | with_reducible refine Eq.mpr wps_nil ?_ | with_reducible refine Eq.mpr wps_set ?_ | with_reducible refine Eq.mpr wps_do ?_ | with_reducible refine Eq.mpr wps_ret ?_ | with_reducible refine Eq.mpr wps_retN ?_ | with_reducible refine Eq.mpr wps_brk ?_ | with_reducible refine Eq.mpr wps_cnt ?_ | with_reducible refine Eq.mpr wps_if ?_ | with_reducible refine Eq.mpr wps_asg ?_ | with_reducible refine wps_asgL ?_ | with_reducible refine Eq.mpr wps_put ?_ | with_reducible refine Eq.mpr wps_dput ?_ | with_reducible refine Eq.mpr wps_aug ?_ | with_reducible refine Eq.mpr wps_par ?_ | with_reducible refine Eq.mpr wps_for ?_ | with_reducible refine Eq.mpr wps_wh ?_ | with_reducible refine Eq.mpr wps_fld ?_ | with_reducible refine Eq.mpr wps_try ?_ | with_reducible refine Eq.mpr wps_tryAs ?_ | simp only [wp_tup0, wp_tup1, wp_tup2, wp_tup3, wp_tup4, wp_tup5, wp_tup6, wp_tup7, wp_lst0, wp_lst1, wp_lst2, wp_lst3, wp_lst4, wp_lst5, wp_lst6, wp_lst7, wp_lst8, wp_lst9, wp_lst10, wp_lst11, wp_lst12, wp_bd, wp_lc, ql_nx, ql_ct, ql_bk, ql_rt, iSeq, iEnu, Mir.iRev, chkR, chkT, chkO, lstO, wp_some, wp_ite, wp_none, bd_some, eVar, eC, eOp, eUn, eFn, eMt, aNil, aCons,  eAnd, eOr, eNot, eIf, eIsi, eChain, bTest, bTruth, bAnd, bOr, bNot, bYes, eSl, pNo, pAt, eRinA, eRinB, eDnew, eDin, eDget, eDget2, tgM_name, tgM_tup, tgMs_nil, tgMs_name, tgMs_tup, List.getElem?_cons_succ, List.getElem?_cons_zero, List.set_cons_succ, List.set_cons_zero, List.map_cons, List.map_nil, List.length_cons, List.length_nil, List.replicate, List.nil_append, List.cons_append, if_true, if_false, Bool.false_eq_true, Bool.true_eq_false, Nat.reduceAdd, Nat.reduceSub, Nat.reduceLeDiff, Nat.zero_add, Bool.not_true, Bool.not_false, nc0, nc1, nc2, nc3, not_true_eq_false, not_false_eq_true, ii, addI, subI, negI, int1, eqI, neI, eqS, neS, ix0, ix1, ix2, ix3, decide_eq_true_eq, Bool.not_eq_true', decide_eq_false_iff_not, truB, truN, keyI, keyS, lenT, wipeM, wp_fld, wp_meth, wp_make, wpx_eL, wpx_sL, wpx_cons, kx_nx, kx_rt, kx_xc, wpx_if, wpx_raise, wpx_set, wpx_do, wpx_ret, vx_l, vx_r, wpx_op, gx_l, gx_r, wpx_put, px_l, px_r, wpx_meth, wpx_fn, exk_rt, exk_nx, exk_xc, wp_dn, tx_nx, tx_rt, tx_xc, txa_nx, txa_rt, txa_xc, lm, lf, leI, w4.h.iM (m := "fits"), ft_ok w4.h, tyB, isb, truB, neB]
  refine dr w4.T 7 (by decide) (by decide) fun k s5 hk T5 f5 l5 => ?_
  repeat first | with_reducible refine Eq.mpr wps_cons ?_ | with_reducible refine Eq.mpr wps_pass ?_ | with_reducible refine Eq.mpr wps_nil ?_ | with_reducible refine Eq.mpr wps_set ?_ | with_reducible refine Eq.mpr wps_do ?_ | with_reducible refine Eq.mpr wps_ret ?_ | with_reducible refine Eq.mpr wps_retN ?_ | with_reducible refine Eq.mpr wps_brk ?_ | with_reducible refine Eq.mpr wps_cnt ?_ | with_reducible refine Eq.mpr wps_if ?_ | with_reducible refine Eq.mpr wps_asg ?_ | with_reducible refine wps_asgL ?_ | with_reducible refine Eq.mpr wps_put ?_ | with_reducible refine Eq.mpr wps_dput ?_ | with_reducible refine Eq.mpr wps_aug ?_ | with_reducible refine Eq.mpr wps_par ?_ | with_reducible refine Eq.mpr wps_for ?_ | with_reducible refine Eq.mpr wps_wh ?_ | with_reducible refine Eq.mpr wps_fld ?_ | with_reducible refine Eq.mpr wps_try ?_ | with_reducible refine Eq.mpr wps_tryAs ?_ | simp only [wp_tup0, wp_tup1, wp_tup2, wp_tup3, wp_tup4, wp_tup5, wp_tup6, wp_tup7, wp_lst0, wp_lst1, wp_lst2, wp_lst3, wp_lst4, wp_lst5, wp_lst6, wp_lst7, wp_lst8, wp_lst9, wp_lst10, wp_lst11, wp_lst12, wp_bd, wp_lc, ql_nx, ql_ct, ql_bk, ql_rt, iSeq, iEnu, Mir.iRev, chkR, chkT, chkO, lstO, wp_some, wp_ite, wp_none, bd_some, eVar, eC, eOp, eUn, eFn, eMt, aNil, aCons,  eAnd, eOr, eNot, eIf, eIsi, eChain, bTest, bTruth, bAnd, bOr, bNot, bYes, eSl, pNo, pAt, eRinA, eRinB, eDnew, eDin, eDget, eDget2, tgM_name, tgM_tup, tgMs_nil, tgMs_name, tgMs_tup, List.getElem?_cons_succ, List.getElem?_cons_zero, List.set_cons_succ, List.set_cons_zero, List.map_cons, List.map_nil, List.length_cons, List.length_nil, List.replicate, List.nil_append, List.cons_append, if_true, if_false, Bool.false_eq_true, Bool.true_eq_false, Nat.reduceAdd, Nat.reduceSub, Nat.reduceLeDiff, Nat.zero_add, Bool.not_true, Bool.not_false, nc0, nc1, nc2, nc3, not_true_eq_false, not_false_eq_true, ii, addI, subI, negI, int1, eqI, neI, eqS, neS, ix0, ix1, ix2, ix3, decide_eq_true_eq, Bool.not_eq_true', decide_eq_false_iff_not, truB, truN, keyI, keyS, lenT, wipeM, wp_fld, wp_meth, wp_make, wpx_eL, wpx_sL, wpx_cons, kx_nx, kx_rt, kx_xc, wpx_if, wpx_raise, wpx_set, wpx_do, wpx_ret, vx_l, vx_r, wpx_op, gx_l, gx_r, wpx_put, px_l, px_r, wpx_meth, wpx_fn, exk_rt, exk_nx, exk_xc, wp_dn, tx_nx, tx_rt, tx_xc, txa_nx, txa_rt, txa_xc]
  refine dr T5 9 (by decide) (by decide) fun a s6 ha T6 f6 l6 => ?_
  repeat first | with_reducible refine Eq.mpr wps_cons ?_ | with_reducible refine Eq.mpr wps_pass ?_ | with_reducible refine Eq.mpr wps_nil ?_ | with_reducible refine Eq.mpr wps_set ?_ | with_reducible refine Eq.mpr wps_do ?_ | with_reducible refine Eq.mpr wps_ret ?_ | with_reducible refine Eq.mpr wps_retN ?_ | with_reducible refine Eq.mpr wps_brk ?_ | with_reducible refine Eq.mpr wps_cnt ?_ | with_reducible refine Eq.mpr wps_if ?_ | with_reducible refine Eq.mpr wps_asg ?_ | with_reducible refine wps_asgL ?_ | with_reducible refine Eq.mpr wps_put ?_ | with_reducible refine Eq.mpr wps_dput ?_ | with_reducible refine Eq.mpr wps_aug ?_ | with_reducible refine Eq.mpr wps_par ?_ | with_reducible refine Eq.mpr wps_for ?_ | with_reducible refine Eq.mpr wps_wh ?_ | with_reducible refine Eq.mpr wps_fld ?_ | with_reducible refine Eq.mpr wps_try ?_ | with_reducible refine Eq.mpr wps_tryAs ?_ | simp only [wp_tup0, wp_tup1, wp_tup2, wp_tup3, wp_tup4, wp_tup5, wp_tup6, wp_tup7, wp_lst0, wp_lst1, wp_lst2, wp_lst3, wp_lst4, wp_lst5, wp_lst6, wp_lst7, wp_lst8, wp_lst9, wp_lst10, wp_lst11, wp_lst12, wp_bd, wp_lc, ql_nx, ql_ct, ql_bk, ql_rt, iSeq, iEnu, Mir.iRev, chkR, chkT, chkO, lstO, wp_some, wp_ite, wp_none, bd_some, eVar, eC, eOp, eUn, eFn, eMt, aNil, aCons,  eAnd, eOr, eNot, eIf, eIsi, eChain, bTest, bTruth, bAnd, bOr, bNot, bYes, eSl, pNo, pAt, eRinA, eRinB, eDnew, eDin, eDget, eDget2, tgM_name, tgM_tup, tgMs_nil, tgMs_name, tgMs_tup, List.getElem?_cons_succ, List.getElem?_cons_zero, List.set_cons_succ, List.set_cons_zero, List.map_cons, List.map_nil, List.length_cons, List.length_nil, List.replicate, List.nil_append, List.cons_append, if_true, if_false, Bool.false_eq_true, Bool.true_eq_false, Nat.reduceAdd, Nat.reduceSub, Nat.reduceLeDiff, Nat.zero_add, Bool.not_true, Bool.not_false, nc0, nc1, nc2, nc3, not_true_eq_false, not_false_eq_true, ii, addI, subI, negI, int1, eqI, neI, eqS, neS, ix0, ix1, ix2, ix3, decide_eq_true_eq, Bool.not_eq_true', decide_eq_false_iff_not, truB, truN, keyI, keyS, lenT, wipeM, wp_fld, wp_meth, wp_make, wpx_eL, wpx_sL, wpx_cons, kx_nx, kx_rt, kx_xc, wpx_if, wpx_raise, wpx_set, wpx_do, wpx_ret, vx_l, vx_r, wpx_op, gx_l, gx_r, wpx_put, px_l, px_r, wpx_meth, wpx_fn, exk_rt, exk_nx, exk_xc, wp_dn, tx_nx, tx_rt, tx_xc, txa_nx, txa_rt, txa_xc]
  refine dr T6 12 (by decide) (by decide) fun b s7 hb T7 f7 l7 => ?_
  have f47 : Fr [1] s4 s7 := (f5.trans f6).trans f7
  have w7 := w4.fr T7 f47
  have g7 : s7[f]? = some (.lst (wi F)) := f47.at_ _ _ (by simp; omega) g4
  have k7 : s7[g]? = some (.lst (wi F)) := f47.at_ _ _ (by simp; omega) k4
  repeat first | with_reducible refine Eq.mpr wps_cons ?_ | with_reducible refine Eq.mpr wps_pass ?_ | with_reducible refine Eq.mpr wps_nil ?_ | with_reducible refine Eq.mpr wps_set ?_ | with_reducible refine Eq.mpr wps_do ?_ | with_reducible refine Eq.mpr wps_ret ?_ | with_reducible refine Eq.mpr wps_retN ?_ | with_reducible refine Eq.mpr wps_brk ?_ | with_reducible refine Eq.mpr wps_cnt ?_ | with_reducible refine Eq.mpr wps_if ?_ | with_reducible refine Eq.mpr wps_asg ?_ | with_reducible refine wps_asgL ?_ | with_reducible refine Eq.mpr wps_put ?_ | with_reducible refine Eq.mpr wps_dput ?_ | with_reducible refine Eq.mpr wps_aug ?_ | with_reducible refine Eq.mpr wps_par ?_ | with_reducible refine Eq.mpr wps_for ?_ | with_reducible refine Eq.mpr wps_wh ?_ | with_reducible refine Eq.mpr wps_fld ?_ | with_reducible refine Eq.mpr wps_try ?_ | with_reducible refine Eq.mpr wps_tryAs ?_ | simp only [wp_tup0, wp_tup1, wp_tup2, wp_tup3, wp_tup4, wp_tup5, wp_tup6, wp_tup7, wp_lst0, wp_lst1, wp_lst2, wp_lst3, wp_lst4, wp_lst5, wp_lst6, wp_lst7, wp_lst8, wp_lst9, wp_lst10, wp_lst11, wp_lst12, wp_bd, wp_lc, ql_nx, ql_ct, ql_bk, ql_rt, iSeq, iEnu, Mir.iRev, chkR, chkT, chkO, lstO, wp_some, wp_ite, wp_none, bd_some, eVar, eC, eOp, eUn, eFn, eMt, aNil, aCons,  eAnd, eOr, eNot, eIf, eIsi, eChain, bTest, bTruth, bAnd, bOr, bNot, bYes, eSl, pNo, pAt, eRinA, eRinB, eDnew, eDin, eDget, eDget2, tgM_name, tgM_tup, tgMs_nil, tgMs_name, tgMs_tup, List.getElem?_cons_succ, List.getElem?_cons_zero, List.set_cons_succ, List.set_cons_zero, List.map_cons, List.map_nil, List.length_cons, List.length_nil, List.replicate, List.nil_append, List.cons_append, if_true, if_false, Bool.false_eq_true, Bool.true_eq_false, Nat.reduceAdd, Nat.reduceSub, Nat.reduceLeDiff, Nat.zero_add, Bool.not_true, Bool.not_false, nc0, nc1, nc2, nc3, not_true_eq_false, not_false_eq_true, ii, addI, subI, negI, int1, eqI, neI, eqS, neS, ix0, ix1, ix2, ix3, decide_eq_true_eq, Bool.not_eq_true', decide_eq_false_iff_not, truB, truN, keyI, keyS, lenT, wipeM, wp_fld, wp_meth, wp_make, wpx_eL, wpx_sL, wpx_cons, kx_nx, kx_rt, kx_xc, wpx_if, wpx_raise, wpx_set, wpx_do, wpx_ret, vx_l, vx_r, wpx_op, gx_l, gx_r, wpx_put, px_l, px_r, wpx_meth, wpx_fn, exk_rt, exk_nx, exk_xc, wp_dn, tx_nx, tx_rt, tx_xc, txa_nx, txa_rt, txa_xc, w7.h.iM (m := "make")]
  refine mk_ok w7.h w7.o g7 (by omega) (by omega) (by decide) (by decide) (by decide) (fun he s8 h8 f8 => ?_) (fun he => ?_)
  · have d8 : ∀ i, i ≠ 3 → i ≠ 4 → ∀ o, s7[i]? = some o → s8[i]? = some o := fun i h1 h2 o e => f8.at_ i o (by simp [h1, h2]) e
    have g8 : s8[f]? = some (.lst (wi F)) := d8 _ (by omega) (by omega) _ g7
    have k8 : s8[g]? = some (.lst (wi F)) := d8 _ (by omega) (by omega) _ k7
    have m8 : s8[8]? = some (.lst (wi M)) := d8 _ (by omega) (by omega) _ w7.md
    have b8 : s8[9]? = some (.lst (wi (ib B))) := d8 _ (by omega) (by omega) _ w7.bl
    have T8 : Tape s8 1 0 cs := by
      obtain ⟨a, b, d, x, e⟩ := w7.T.tape
      exact ⟨⟨a, b, d, x, d8 _ (by omega) (by omega) _ e⟩, d8 _ (by omega) (by omega) _ w7.T.cells⟩
    have q8 : Ht s8 5 6 7 (c : Int) [] [] := w7.h2.fr f8 (by decide) (by decide) (by decide)
    have o8 := w7.o.make (k : Int) (a : Int) (b : Int) F (by omega)
    have lm8 : gLen [.ref 8] s8 = some (.int (M.length : Int), s8) := by rw [lenL m8, List.length_map]
    have lf8 : gLen [.ref f] s8 = some (.int (F.length : Int), s8) := by rw [lenL g8, List.length_map]
    have ne8 : gNe (.ref f) (.ref g) s8 = some (.bl (!decide (F = F)), s8) := ne_ints g8 k8
    -- the ending, from any store in which only the list of the fields may have changed
    have fin : ∀ s9 : Sto, Fr [f] s8 s9 → s9[g]? = some (.lst (wi F)) → WpS [sDo (eMt isL gAppend (eVar 3) (aCons (eFn gLen (aCons (eVar 2) aNil)) aNil)), sCons (sDo (eMt isL gExtend (eVar 2) (aCons (eLst (aCons (eVar 9) (aCons (eVar 10) (aCons (eVar 11) (aCons (eFn gLen (aCons (eVar 6) aNil)) aNil))))) aNil))) (sCons (sDo (eMt isL gExtend (eVar 2) (aCons (eVar 6) aNil))) (sRet (eC (.bl true))))] [some (.ref 1), some (.ref 2), some (.ref 8), some (.ref 9), some (.int (c : Int)), some (.ref f), some (.ref g), some (.bl true), some (.bl true), some (.int (k : Int)), some (.int (a : Int)), some (.int (b : Int)), some (.int (4 * (M.length : Int) + 1)), none, none] s9 (fun o s1 => match o with | .rt w => R w s1 | .nx _ => R .non s1 | _ => False) := fun s9 f9' k9 => by
      have d9 : ∀ i, i < 10 → ∀ o, s8[i]? = some o → s9[i]? = some o := fun i h1 o e => f9'.at_ i o (by simp; omega) e
      have m9 : s9[8]? = some (.lst (wi M)) := d9 _ (by omega) _ m8
      have b9 : s9[9]? = some (.lst (wi (ib B))) := d9 _ (by omega) _ b8
      have lm9 : gLen [.ref 8] s9 = some (.int (M.length : Int), s9) := by rw [lenL m9, List.length_map]
      have ap : gAppend (.ref 9) [.int (M.length : Int)] s9 = some (.non, s9.set 9 (.lst (wi (ib B) ++ [.int (M.length : Int)]))) := appL b9 (by simp [ib]; omega)
      repeat first | with_reducible refine Eq.mpr wps_cons ?_ | with_reducible refine Eq.mpr wps_pass ?_ | with_reducible refine Eq.mpr wps_nil ?_ | with_reducible refine Eq.mpr wps_set ?_ | with_reducible refine Eq.mpr wps_do ?_ | with_reducible refine Eq.mpr wps_ret ?_ | with_reducible refine Eq.mpr wps_retN ?_ | with_reducible refine Eq.mpr wps_brk ?_ | with_reducible refine Eq.mpr wps_cnt ?_ | with_reducible refine Eq.mpr wps_if ?_ | with_reducible refine Eq.mpr wps_asg ?_ | with_reducible refine wps_asgL ?_ | with_reducible refine Eq.mpr wps_put ?_ | with_reducible refine Eq.mpr wps_dput ?_ | with_reducible refine Eq.mpr wps_aug ?_ | with_reducible refine Eq.mpr wps_par ?_ | with_reducible refine Eq.mpr wps_for ?_ | with_reducible refine Eq.mpr wps_wh ?_ | with_reducible refine Eq.mpr wps_fld ?_ | with_reducible refine Eq.mpr wps_try ?_ | with_reducible refine Eq.mpr wps_tryAs ?_ | simp only [wp_tup0, wp_tup1, wp_tup2, wp_tup3, wp_tup4, wp_tup5, wp_tup6, wp_tup7, wp_lst0, wp_lst1, wp_lst2, wp_lst3, wp_lst4, wp_lst5, wp_lst6, wp_lst7, wp_lst8, wp_lst9, wp_lst10, wp_lst11, wp_lst12, wp_bd, wp_lc, ql_nx, ql_ct, ql_bk, ql_rt, iSeq, iEnu, Mir.iRev, chkR, chkT, chkO, lstO, wp_some, wp_ite, wp_none, bd_some, eVar, eC, eOp, eUn, eFn, eMt, aNil, aCons,  eAnd, eOr, eNot, eIf, eIsi, eChain, bTest, bTruth, bAnd, bOr, bNot, bYes, eSl, pNo, pAt, eRinA, eRinB, eDnew, eDin, eDget, eDget2, tgM_name, tgM_tup, tgMs_nil, tgMs_name, tgMs_tup, List.getElem?_cons_succ, List.getElem?_cons_zero, List.set_cons_succ, List.set_cons_zero, List.map_cons, List.map_nil, List.length_cons, List.length_nil, List.replicate, List.nil_append, List.cons_append, if_true, if_false, Bool.false_eq_true, Bool.true_eq_false, Nat.reduceAdd, Nat.reduceSub, Nat.reduceLeDiff, Nat.zero_add, Bool.not_true, Bool.not_false, nc0, nc1, nc2, nc3, not_true_eq_false, not_false_eq_true, ii, addI, subI, negI, int1, eqI, neI, eqS, neS, ix0, ix1, ix2, ix3, decide_eq_true_eq, Bool.not_eq_true', decide_eq_false_iff_not, truB, truN, keyI, keyS, lenT, wipeM, wp_fld, wp_meth, wp_make, wpx_eL, wpx_sL, wpx_cons, kx_nx, kx_rt, kx_xc, wpx_if, wpx_raise, wpx_set, wpx_do, wpx_ret, vx_l, vx_r, wpx_op, gx_l, gx_r, wpx_put, px_l, px_r, wpx_meth, wpx_fn, exk_rt, exk_nx, exk_xc, wp_dn, tx_nx, tx_rt, tx_xc, txa_nx, txa_rt, txa_xc, isLR b9, lm9, ap]
      obtain ⟨sa, esa⟩ : ∃ sa, sa = s9.set 9 (O.lst (wi (ib B) ++ [.int (M.length : Int)])) := ⟨_, rfl⟩
      rw [← esa]
      have ma : sa[8]? = some (.lst (wi M)) := by rw [esa, getne (by decide)]; exact m9
      have ka : sa[g]? = some (.lst (wi F)) := by rw [esa, getne (by omega)]; exact k9
      have la : gLen [.ref g] sa = some (.int (F.length : Int), sa) := by rw [lenL ka, List.length_map]
      repeat first | with_reducible refine Eq.mpr wps_cons ?_ | with_reducible refine Eq.mpr wps_pass ?_ | with_reducible refine Eq.mpr wps_nil ?_ | with_reducible refine Eq.mpr wps_set ?_ | with_reducible refine Eq.mpr wps_do ?_ | with_reducible refine Eq.mpr wps_ret ?_ | with_reducible refine Eq.mpr wps_retN ?_ | with_reducible refine Eq.mpr wps_brk ?_ | with_reducible refine Eq.mpr wps_cnt ?_ | with_reducible refine Eq.mpr wps_if ?_ | with_reducible refine Eq.mpr wps_asg ?_ | with_reducible refine wps_asgL ?_ | with_reducible refine Eq.mpr wps_put ?_ | with_reducible refine Eq.mpr wps_dput ?_ | with_reducible refine Eq.mpr wps_aug ?_ | with_reducible refine Eq.mpr wps_par ?_ | with_reducible refine Eq.mpr wps_for ?_ | with_reducible refine Eq.mpr wps_wh ?_ | with_reducible refine Eq.mpr wps_fld ?_ | with_reducible refine Eq.mpr wps_try ?_ | with_reducible refine Eq.mpr wps_tryAs ?_ | simp only [wp_tup0, wp_tup1, wp_tup2, wp_tup3, wp_tup4, wp_tup5, wp_tup6, wp_tup7, wp_lst0, wp_lst1, wp_lst2, wp_lst3, wp_lst4, wp_lst5, wp_lst6, wp_lst7, wp_lst8, wp_lst9, wp_lst10, wp_lst11, wp_lst12, wp_bd, wp_lc, ql_nx, ql_ct, ql_bk, ql_rt, iSeq, iEnu, Mir.iRev, chkR, chkT, chkO, lstO, wp_some, wp_ite, wp_none, bd_some, eVar, eC, eOp, eUn, eFn, eMt, aNil, aCons,  eAnd, eOr, eNot, eIf, eIsi, eChain, bTest, bTruth, bAnd, bOr, bNot, bYes, eSl, pNo, pAt, eRinA, eRinB, eDnew, eDin, eDget, eDget2, tgM_name, tgM_tup, tgMs_nil, tgMs_name, tgMs_tup, List.getElem?_cons_succ, List.getElem?_cons_zero, List.set_cons_succ, List.set_cons_zero, List.map_cons, List.map_nil, List.length_cons, List.length_nil, List.replicate, List.nil_append, List.cons_append, if_true, if_false, Bool.false_eq_true, Bool.true_eq_false, Nat.reduceAdd, Nat.reduceSub, Nat.reduceLeDiff, Nat.zero_add, Bool.not_true, Bool.not_false, nc0, nc1, nc2, nc3, not_true_eq_false, not_false_eq_true, ii, addI, subI, negI, int1, eqI, neI, eqS, neS, ix0, ix1, ix2, ix3, decide_eq_true_eq, Bool.not_eq_true', decide_eq_false_iff_not, truB, truN, keyI, keyS, lenT, wipeM, wp_fld, wp_meth, wp_make, wpx_eL, wpx_sL, wpx_cons, kx_nx, kx_rt, kx_xc, wpx_if, wpx_raise, wpx_set, wpx_do, wpx_ret, vx_l, vx_r, wpx_op, gx_l, gx_r, wpx_put, px_l, px_r, wpx_meth, wpx_fn, exk_rt, exk_nx, exk_xc, wp_dn, tx_nx, tx_rt, tx_xc, txa_nx, txa_rt, txa_xc, isLR ma, la]
      obtain ⟨sb, esb⟩ : ∃ sb, sb = sa ++ [O.lst [.int (k : Int), .int (a : Int), .int (b : Int), .int (F.length : Int)]] := ⟨_, rfl⟩
      rw [← esb]
      have mb : sb[8]? = some (.lst (wi M)) := by rw [esb]; exact gapp ma
      have kb : sb[g]? = some (.lst (wi F)) := by rw [esb]; exact gapp ka
      have nb : sb[sa.length]? = some (.lst [.int (k : Int), .int (a : Int), .int (b : Int), .int (F.length : Int)]) := by rw [esb]; exact gnew
      have e1 : gExtend (.ref 8) [.ref sa.length] sb = some (.non, sb.set 8 (.lst (wi M ++ [.int (k : Int), .int (a : Int), .int (b : Int), .int (F.length : Int)]))) := extL mb nb (by simp; omega)
      repeat first | with_reducible refine Eq.mpr wps_cons ?_ | with_reducible refine Eq.mpr wps_pass ?_ | with_reducible refine Eq.mpr wps_nil ?_ | with_reducible refine Eq.mpr wps_set ?_ | with_reducible refine Eq.mpr wps_do ?_ | with_reducible refine Eq.mpr wps_ret ?_ | with_reducible refine Eq.mpr wps_retN ?_ | with_reducible refine Eq.mpr wps_brk ?_ | with_reducible refine Eq.mpr wps_cnt ?_ | with_reducible refine Eq.mpr wps_if ?_ | with_reducible refine Eq.mpr wps_asg ?_ | with_reducible refine wps_asgL ?_ | with_reducible refine Eq.mpr wps_put ?_ | with_reducible refine Eq.mpr wps_dput ?_ | with_reducible refine Eq.mpr wps_aug ?_ | with_reducible refine Eq.mpr wps_par ?_ | with_reducible refine Eq.mpr wps_for ?_ | with_reducible refine Eq.mpr wps_wh ?_ | with_reducible refine Eq.mpr wps_fld ?_ | with_reducible refine Eq.mpr wps_try ?_ | with_reducible refine Eq.mpr wps_tryAs ?_ | simp only [wp_tup0, wp_tup1, wp_tup2, wp_tup3, wp_tup4, wp_tup5, wp_tup6, wp_tup7, wp_lst0, wp_lst1, wp_lst2, wp_lst3, wp_lst4, wp_lst5, wp_lst6, wp_lst7, wp_lst8, wp_lst9, wp_lst10, wp_lst11, wp_lst12, wp_bd, wp_lc, ql_nx, ql_ct, ql_bk, ql_rt, iSeq, iEnu, Mir.iRev, chkR, chkT, chkO, lstO, wp_some, wp_ite, wp_none, bd_some, eVar, eC, eOp, eUn, eFn, eMt, aNil, aCons,  eAnd, eOr, eNot, eIf, eIsi, eChain, bTest, bTruth, bAnd, bOr, bNot, bYes, eSl, pNo, pAt, eRinA, eRinB, eDnew, eDin, eDget, eDget2, tgM_name, tgM_tup, tgMs_nil, tgMs_name, tgMs_tup, List.getElem?_cons_succ, List.getElem?_cons_zero, List.set_cons_succ, List.set_cons_zero, List.map_cons, List.map_nil, List.length_cons, List.length_nil, List.replicate, List.nil_append, List.cons_append, if_true, if_false, Bool.false_eq_true, Bool.true_eq_false, Nat.reduceAdd, Nat.reduceSub, Nat.reduceLeDiff, Nat.zero_add, Bool.not_true, Bool.not_false, nc0, nc1, nc2, nc3, not_true_eq_false, not_false_eq_true, ii, addI, subI, negI, int1, eqI, neI, eqS, neS, ix0, ix1, ix2, ix3, decide_eq_true_eq, Bool.not_eq_true', decide_eq_false_iff_not, truB, truN, keyI, keyS, lenT, wipeM, wp_fld, wp_meth, wp_make, wpx_eL, wpx_sL, wpx_cons, kx_nx, kx_rt, kx_xc, wpx_if, wpx_raise, wpx_set, wpx_do, wpx_ret, vx_l, vx_r, wpx_op, gx_l, gx_r, wpx_put, px_l, px_r, wpx_meth, wpx_fn, exk_rt, exk_nx, exk_xc, wp_dn, tx_nx, tx_rt, tx_xc, txa_nx, txa_rt, txa_xc, e1]
      obtain ⟨sc, esc⟩ : ∃ sc, sc = sb.set 8 (O.lst (wi M ++ [.int (k : Int), .int (a : Int), .int (b : Int), .int (F.length : Int)])) := ⟨_, rfl⟩
      rw [← esc]
      have mc : sc[8]? = some (.lst (wi M ++ [.int (k : Int), .int (a : Int), .int (b : Int), .int (F.length : Int)])) := by rw [esc, getset mb]
      have kc : sc[g]? = some (.lst (wi F)) := by rw [esc, getne (by omega)]; exact kb
      have e2 : gExtend (.ref 8) [.ref g] sc = some (.non, sc.set 8 (.lst (wi M ++ [.int (k : Int), .int (a : Int), .int (b : Int), .int (F.length : Int)] ++ wi F))) := extL mc kc (by simp; omega)
      repeat first | with_reducible refine Eq.mpr wps_cons ?_ | with_reducible refine Eq.mpr wps_pass ?_ | with_reducible refine Eq.mpr wps_nil ?_ | with_reducible refine Eq.mpr wps_set ?_ | with_reducible refine Eq.mpr wps_do ?_ | with_reducible refine Eq.mpr wps_ret ?_ | with_reducible refine Eq.mpr wps_retN ?_ | with_reducible refine Eq.mpr wps_brk ?_ | with_reducible refine Eq.mpr wps_cnt ?_ | with_reducible refine Eq.mpr wps_if ?_ | with_reducible refine Eq.mpr wps_asg ?_ | with_reducible refine wps_asgL ?_ | with_reducible refine Eq.mpr wps_put ?_ | with_reducible refine Eq.mpr wps_dput ?_ | with_reducible refine Eq.mpr wps_aug ?_ | with_reducible refine Eq.mpr wps_par ?_ | with_reducible refine Eq.mpr wps_for ?_ | with_reducible refine Eq.mpr wps_wh ?_ | with_reducible refine Eq.mpr wps_fld ?_ | with_reducible refine Eq.mpr wps_try ?_ | with_reducible refine Eq.mpr wps_tryAs ?_ | simp only [wp_tup0, wp_tup1, wp_tup2, wp_tup3, wp_tup4, wp_tup5, wp_tup6, wp_tup7, wp_lst0, wp_lst1, wp_lst2, wp_lst3, wp_lst4, wp_lst5, wp_lst6, wp_lst7, wp_lst8, wp_lst9, wp_lst10, wp_lst11, wp_lst12, wp_bd, wp_lc, ql_nx, ql_ct, ql_bk, ql_rt, iSeq, iEnu, Mir.iRev, chkR, chkT, chkO, lstO, wp_some, wp_ite, wp_none, bd_some, eVar, eC, eOp, eUn, eFn, eMt, aNil, aCons,  eAnd, eOr, eNot, eIf, eIsi, eChain, bTest, bTruth, bAnd, bOr, bNot, bYes, eSl, pNo, pAt, eRinA, eRinB, eDnew, eDin, eDget, eDget2, tgM_name, tgM_tup, tgMs_nil, tgMs_name, tgMs_tup, List.getElem?_cons_succ, List.getElem?_cons_zero, List.set_cons_succ, List.set_cons_zero, List.map_cons, List.map_nil, List.length_cons, List.length_nil, List.replicate, List.nil_append, List.cons_append, if_true, if_false, Bool.false_eq_true, Bool.true_eq_false, Nat.reduceAdd, Nat.reduceSub, Nat.reduceLeDiff, Nat.zero_add, Bool.not_true, Bool.not_false, nc0, nc1, nc2, nc3, not_true_eq_false, not_false_eq_true, ii, addI, subI, negI, int1, eqI, neI, eqS, neS, ix0, ix1, ix2, ix3, decide_eq_true_eq, Bool.not_eq_true', decide_eq_false_iff_not, truB, truN, keyI, keyS, lenT, wipeM, wp_fld, wp_meth, wp_make, wpx_eL, wpx_sL, wpx_cons, kx_nx, kx_rt, kx_xc, wpx_if, wpx_raise, wpx_set, wpx_do, wpx_ret, vx_l, vx_r, wpx_op, gx_l, gx_r, wpx_put, px_l, px_r, wpx_meth, wpx_fn, exk_rt, exk_nx, exk_xc, wp_dn, tx_nx, tx_rt, tx_xc, txa_nx, txa_rt, txa_xc, isLR mc, e2]
      have keep : ∀ i, i < 8 → ∀ o, s8[i]? = some o → (sc.set 8 (O.lst (wi M ++ [.int (k : Int), .int (a : Int), .int (b : Int), .int (F.length : Int)] ++ wi F)))[i]? = some o := fun i hi o e => by
        rw [getne (by omega), esc, getne (by omega), esb]
        refine gapp ?_
        rw [esa, getne (by omega)]
        exact d9 i (by omega) o e
      refine h (M ++ ((k : Int) :: (a : Int) :: (b : Int) :: (F.length : Int) :: F)) (B ++ [M.length]) _ ⟨?_, ?_, ?_, ?_, ?_, o8, ?_, w.c60⟩
      · obtain ⟨a, b, d, x, e⟩ := T8.tape
        exact ⟨⟨a, b, d, x, keep _ (by omega) _ e⟩, keep _ (by omega) _ T8.cells⟩
      · exact ⟨keep _ (by omega) _ h8.ins, keep _ (by omega) _ h8.wds, keep _ (by omega) _ h8.bgs⟩
      · exact ⟨keep _ (by omega) _ q8.ins, keep _ (by omega) _ q8.wds, keep _ (by omega) _ q8.bgs⟩
      · rw [getset mc]; simp [wi]
      · rw [getne (by decide), esc, getne (by decide), esb]
        refine gapp ?_
        rw [esa, getset b9]
        simp [wi, ib]
      · simp only [List.length_append, List.length_cons]
        omega
    have dF : decide (F = F) = true := decide_eq_true rfl
    by_cases q : (0 : Int) < (F.length : Int)
    · obtain ⟨v, hv⟩ : ∃ v, F[0]? = some v := ⟨F[0]'(by omega), List.getElem?_eq_getElem _⟩
      have pt : setAt (.ref f) (.int 0) (.int (-4)) s8 = some (s8.set f (.lst ((wi F).set 0 (.int (-4))))) := putL (i := 0) g8 (by rw [List.length_map]; omega)
      repeat first | with_reducible refine Eq.mpr wps_cons ?_ | with_reducible refine Eq.mpr wps_pass ?_ | with_reducible refine Eq.mpr wps_nil ?_ | with_reducible refine Eq.mpr wps_set ?_ | with_reducible refine Eq.mpr wps_do ?_ | with_reducible refine Eq.mpr wps_ret ?_ | with_reducible refine Eq.mpr wps_retN ?_ | with_reducible refine Eq.mpr wps_brk ?_ | with_reducible refine Eq.mpr wps_cnt ?_ | with_reducible refine Eq.mpr wps_if ?_ | with_reducible refine Eq.mpr wps_asg ?_ | with_reducible refine wps_asgL ?_ | with_reducible refine Eq.mpr wps_put ?_ | with_reducible refine Eq.mpr wps_dput ?_ | with_reducible refine Eq.mpr wps_aug ?_ | with_reducible refine Eq.mpr wps_par ?_ | with_reducible refine Eq.mpr wps_for ?_ | with_reducible refine Eq.mpr wps_wh ?_ | with_reducible refine Eq.mpr wps_fld ?_ | with_reducible refine Eq.mpr wps_try ?_ | with_reducible refine Eq.mpr wps_tryAs ?_ | simp only [wp_tup0, wp_tup1, wp_tup2, wp_tup3, wp_tup4, wp_tup5, wp_tup6, wp_tup7, wp_lst0, wp_lst1, wp_lst2, wp_lst3, wp_lst4, wp_lst5, wp_lst6, wp_lst7, wp_lst8, wp_lst9, wp_lst10, wp_lst11, wp_lst12, wp_bd, wp_lc, ql_nx, ql_ct, ql_bk, ql_rt, iSeq, iEnu, Mir.iRev, chkR, chkT, chkO, lstO, wp_some, wp_ite, wp_none, bd_some, eVar, eC, eOp, eUn, eFn, eMt, aNil, aCons,  eAnd, eOr, eNot, eIf, eIsi, eChain, bTest, bTruth, bAnd, bOr, bNot, bYes, eSl, pNo, pAt, eRinA, eRinB, eDnew, eDin, eDget, eDget2, tgM_name, tgM_tup, tgMs_nil, tgMs_name, tgMs_tup, List.getElem?_cons_succ, List.getElem?_cons_zero, List.set_cons_succ, List.set_cons_zero, List.map_cons, List.map_nil, List.length_cons, List.length_nil, List.replicate, List.nil_append, List.cons_append, if_true, if_false, Bool.false_eq_true, Bool.true_eq_false, Nat.reduceAdd, Nat.reduceSub, Nat.reduceLeDiff, Nat.zero_add, Bool.not_true, Bool.not_false, nc0, nc1, nc2, nc3, not_true_eq_false, not_false_eq_true, ii, addI, subI, negI, int1, eqI, neI, eqS, neS, ix0, ix1, ix2, ix3, decide_eq_true_eq, Bool.not_eq_true', decide_eq_false_iff_not, truB, truN, keyI, keyS, lenT, wipeM, wp_fld, wp_meth, wp_make, wpx_eL, wpx_sL, wpx_cons, kx_nx, kx_rt, kx_xc, wpx_if, wpx_raise, wpx_set, wpx_do, wpx_ret, vx_l, vx_r, wpx_op, gx_l, gx_r, wpx_put, px_l, px_r, wpx_meth, wpx_fn, exk_rt, exk_nx, exk_xc, wp_dn, tx_nx, tx_rt, tx_xc, txa_nx, txa_rt, txa_xc, he, decide_true, truB, ne8, lm8, m4, neI, lf8, gtI, q, negI, pt]
      obtain ⟨s9, es9⟩ : ∃ s9, s9 = s8.set f (O.lst ((wi F).set 0 (.int (-4)))) := ⟨_, rfl⟩
      rw [← es9]
      have f89 : Fr [f] s8 s9 := by rw [es9]; exact .set (by simp)
      have k9 : s9[g]? = some (.lst (wi F)) := f89.at_ _ _ (by simp; omega) k8
      have h9 := h8.fr f89 (by simp; omega) (by simp; omega) (by simp; omega)
      repeat first | with_reducible refine Eq.mpr wps_cons ?_ | with_reducible refine Eq.mpr wps_pass ?_ | with_reducible refine Eq.mpr wps_nil ?_ | with_reducible refine Eq.mpr wps_set ?_ | with_reducible refine Eq.mpr wps_do ?_ | with_reducible refine Eq.mpr wps_ret ?_ | with_reducible refine Eq.mpr wps_retN ?_ | with_reducible refine Eq.mpr wps_brk ?_ | with_reducible refine Eq.mpr wps_cnt ?_ | with_reducible refine Eq.mpr wps_if ?_ | with_reducible refine Eq.mpr wps_asg ?_ | with_reducible refine wps_asgL ?_ | with_reducible refine Eq.mpr wps_put ?_ | with_reducible refine Eq.mpr wps_dput ?_ | with_reducible refine Eq.mpr wps_aug ?_ | with_reducible refine Eq.mpr wps_par ?_ | with_reducible refine Eq.mpr wps_for ?_ | with_reducible refine Eq.mpr wps_wh ?_ | with_reducible refine Eq.mpr wps_fld ?_ | with_reducible refine Eq.mpr wps_try ?_ | with_reducible refine Eq.mpr wps_tryAs ?_ | simp only [wp_tup0, wp_tup1, wp_tup2, wp_tup3, wp_tup4, wp_tup5, wp_tup6, wp_tup7, wp_lst0, wp_lst1, wp_lst2, wp_lst3, wp_lst4, wp_lst5, wp_lst6, wp_lst7, wp_lst8, wp_lst9, wp_lst10, wp_lst11, wp_lst12, wp_bd, wp_lc, ql_nx, ql_ct, ql_bk, ql_rt, iSeq, iEnu, Mir.iRev, chkR, chkT, chkO, lstO, wp_some, wp_ite, wp_none, bd_some, eVar, eC, eOp, eUn, eFn, eMt, aNil, aCons,  eAnd, eOr, eNot, eIf, eIsi, eChain, bTest, bTruth, bAnd, bOr, bNot, bYes, eSl, pNo, pAt, eRinA, eRinB, eDnew, eDin, eDget, eDget2, tgM_name, tgM_tup, tgMs_nil, tgMs_name, tgMs_tup, List.getElem?_cons_succ, List.getElem?_cons_zero, List.set_cons_succ, List.set_cons_zero, List.map_cons, List.map_nil, List.length_cons, List.length_nil, List.replicate, List.nil_append, List.cons_append, if_true, if_false, Bool.false_eq_true, Bool.true_eq_false, Nat.reduceAdd, Nat.reduceSub, Nat.reduceLeDiff, Nat.zero_add, Bool.not_true, Bool.not_false, nc0, nc1, nc2, nc3, not_true_eq_false, not_false_eq_true, ii, addI, subI, negI, int1, eqI, neI, eqS, neS, ix0, ix1, ix2, ix3, decide_eq_true_eq, Bool.not_eq_true', decide_eq_false_iff_not, truB, truN, keyI, keyS, lenT, wipeM, wp_fld, wp_meth, wp_make, wpx_eL, wpx_sL, wpx_cons, kx_nx, kx_rt, kx_xc, wpx_if, wpx_raise, wpx_set, wpx_do, wpx_ret, vx_l, vx_r, wpx_op, gx_l, gx_r, wpx_put, px_l, px_r, wpx_meth, wpx_fn, exk_rt, exk_nx, exk_xc, wp_dn, tx_nx, tx_rt, tx_xc, txa_nx, txa_rt, txa_xc, h9.iM (m := "field")]
      refine fd_ok h9 o8 (fun b1 n1 j1 v1 hb1 ew1 en1 ej1 hj1 ev1 => ?_) (fun hbad => ?_)
      · have eb : b1 = M.length := by omega
        have ej : j1 = 0 := by omega
        subst eb ej
        have ev : v1 = v := by
          rw [List.getElem?_append_right (by omega), show M.length + 4 + 0 - M.length = 4 by omega] at ev1
          have z : F[0]? = some v1 := ev1
          rw [hv] at z
          exact (Option.some.inj z).symm
        subst ev
        have gx : gIx (.ref g) (.int 0) s9 = some (.int v1, s9) := ixI (i := 0) k9 hv
        repeat first | with_reducible refine Eq.mpr wps_cons ?_ | with_reducible refine Eq.mpr wps_pass ?_ | with_reducible refine Eq.mpr wps_nil ?_ | with_reducible refine Eq.mpr wps_set ?_ | with_reducible refine Eq.mpr wps_do ?_ | with_reducible refine Eq.mpr wps_ret ?_ | with_reducible refine Eq.mpr wps_retN ?_ | with_reducible refine Eq.mpr wps_brk ?_ | with_reducible refine Eq.mpr wps_cnt ?_ | with_reducible refine Eq.mpr wps_if ?_ | with_reducible refine Eq.mpr wps_asg ?_ | with_reducible refine wps_asgL ?_ | with_reducible refine Eq.mpr wps_put ?_ | with_reducible refine Eq.mpr wps_dput ?_ | with_reducible refine Eq.mpr wps_aug ?_ | with_reducible refine Eq.mpr wps_par ?_ | with_reducible refine Eq.mpr wps_for ?_ | with_reducible refine Eq.mpr wps_wh ?_ | with_reducible refine Eq.mpr wps_fld ?_ | with_reducible refine Eq.mpr wps_try ?_ | with_reducible refine Eq.mpr wps_tryAs ?_ | simp only [wp_tup0, wp_tup1, wp_tup2, wp_tup3, wp_tup4, wp_tup5, wp_tup6, wp_tup7, wp_lst0, wp_lst1, wp_lst2, wp_lst3, wp_lst4, wp_lst5, wp_lst6, wp_lst7, wp_lst8, wp_lst9, wp_lst10, wp_lst11, wp_lst12, wp_bd, wp_lc, ql_nx, ql_ct, ql_bk, ql_rt, iSeq, iEnu, Mir.iRev, chkR, chkT, chkO, lstO, wp_some, wp_ite, wp_none, bd_some, eVar, eC, eOp, eUn, eFn, eMt, aNil, aCons,  eAnd, eOr, eNot, eIf, eIsi, eChain, bTest, bTruth, bAnd, bOr, bNot, bYes, eSl, pNo, pAt, eRinA, eRinB, eDnew, eDin, eDget, eDget2, tgM_name, tgM_tup, tgMs_nil, tgMs_name, tgMs_tup, List.getElem?_cons_succ, List.getElem?_cons_zero, List.set_cons_succ, List.set_cons_zero, List.map_cons, List.map_nil, List.length_cons, List.length_nil, List.replicate, List.nil_append, List.cons_append, if_true, if_false, Bool.false_eq_true, Bool.true_eq_false, Nat.reduceAdd, Nat.reduceSub, Nat.reduceLeDiff, Nat.zero_add, Bool.not_true, Bool.not_false, nc0, nc1, nc2, nc3, not_true_eq_false, not_false_eq_true, ii, addI, subI, negI, int1, eqI, neI, eqS, neS, ix0, ix1, ix2, ix3, decide_eq_true_eq, Bool.not_eq_true', decide_eq_false_iff_not, truB, truN, keyI, keyS, lenT, wipeM, wp_fld, wp_meth, wp_make, wpx_eL, wpx_sL, wpx_cons, kx_nx, kx_rt, kx_xc, wpx_if, wpx_raise, wpx_set, wpx_do, wpx_ret, vx_l, vx_r, wpx_op, gx_l, gx_r, wpx_put, px_l, px_r, wpx_meth, wpx_fn, exk_rt, exk_nx, exk_xc, wp_dn, tx_nx, tx_rt, tx_xc, txa_nx, txa_rt, txa_xc, gx, neI, decide_true]
        have z := fin s9 f89 k9
        rw [wps_do] at z
        simp only [wp_tup0, wp_tup1, wp_tup2, wp_tup3, wp_tup4, wp_tup5, wp_tup6, wp_tup7, wp_lst0, wp_lst1, wp_lst2, wp_lst3, wp_lst4, wp_lst5, wp_lst6, wp_lst7, wp_lst8, wp_lst9, wp_lst10, wp_lst11, wp_lst12, wp_bd, wp_lc, ql_nx, ql_ct, ql_bk, ql_rt, iSeq, iEnu, Mir.iRev, chkR, chkT, chkO, lstO, wp_some, wp_ite, wp_none, bd_some, eVar, eC, eOp, eUn, eFn, eMt, aNil, aCons,  eAnd, eOr, eNot, eIf, eIsi, eChain, bTest, bTruth, bAnd, bOr, bNot, bYes, eSl, pNo, pAt, eRinA, eRinB, eDnew, eDin, eDget, eDget2, tgM_name, tgM_tup, tgMs_nil, tgMs_name, tgMs_tup, List.getElem?_cons_succ, List.getElem?_cons_zero, List.set_cons_succ, List.set_cons_zero, List.map_cons, List.map_nil, List.length_cons, List.length_nil, List.replicate, List.nil_append, List.cons_append, if_true, if_false, Bool.false_eq_true, Bool.true_eq_false, Nat.reduceAdd, Nat.reduceSub, Nat.reduceLeDiff, Nat.zero_add, Bool.not_true, Bool.not_false, nc0, nc1, nc2, nc3, not_true_eq_false, not_false_eq_true, ii, addI, subI, negI, int1, eqI, neI, eqS, neS, ix0, ix1, ix2, ix3, decide_eq_true_eq, Bool.not_eq_true', decide_eq_false_iff_not, truB, truN, keyI, keyS, lenT, wipeM] at z
        exact z
      · refine absurd ?_ (hbad M.length F.length 0 (by simp) rfl ?_ rfl)
        · omega
        · rw [List.getElem?_append_right (by omega), show M.length + 3 - M.length = 3 by omega]
          rfl
    · repeat first | with_reducible refine Eq.mpr wps_cons ?_ | with_reducible refine Eq.mpr wps_pass ?_ | with_reducible refine Eq.mpr wps_nil ?_ | with_reducible refine Eq.mpr wps_set ?_ | with_reducible refine Eq.mpr wps_do ?_ | with_reducible refine Eq.mpr wps_ret ?_ | with_reducible refine Eq.mpr wps_retN ?_ | with_reducible refine Eq.mpr wps_brk ?_ | with_reducible refine Eq.mpr wps_cnt ?_ | with_reducible refine Eq.mpr wps_if ?_ | with_reducible refine Eq.mpr wps_asg ?_ | with_reducible refine wps_asgL ?_ | with_reducible refine Eq.mpr wps_put ?_ | with_reducible refine Eq.mpr wps_dput ?_ | with_reducible refine Eq.mpr wps_aug ?_ | with_reducible refine Eq.mpr wps_par ?_ | with_reducible refine Eq.mpr wps_for ?_ | with_reducible refine Eq.mpr wps_wh ?_ | with_reducible refine Eq.mpr wps_fld ?_ | with_reducible refine Eq.mpr wps_try ?_ | with_reducible refine Eq.mpr wps_tryAs ?_ | simp only [wp_tup0, wp_tup1, wp_tup2, wp_tup3, wp_tup4, wp_tup5, wp_tup6, wp_tup7, wp_lst0, wp_lst1, wp_lst2, wp_lst3, wp_lst4, wp_lst5, wp_lst6, wp_lst7, wp_lst8, wp_lst9, wp_lst10, wp_lst11, wp_lst12, wp_bd, wp_lc, ql_nx, ql_ct, ql_bk, ql_rt, iSeq, iEnu, Mir.iRev, chkR, chkT, chkO, lstO, wp_some, wp_ite, wp_none, bd_some, eVar, eC, eOp, eUn, eFn, eMt, aNil, aCons,  eAnd, eOr, eNot, eIf, eIsi, eChain, bTest, bTruth, bAnd, bOr, bNot, bYes, eSl, pNo, pAt, eRinA, eRinB, eDnew, eDin, eDget, eDget2, tgM_name, tgM_tup, tgMs_nil, tgMs_name, tgMs_tup, List.getElem?_cons_succ, List.getElem?_cons_zero, List.set_cons_succ, List.set_cons_zero, List.map_cons, List.map_nil, List.length_cons, List.length_nil, List.replicate, List.nil_append, List.cons_append, if_true, if_false, Bool.false_eq_true, Bool.true_eq_false, Nat.reduceAdd, Nat.reduceSub, Nat.reduceLeDiff, Nat.zero_add, Bool.not_true, Bool.not_false, nc0, nc1, nc2, nc3, not_true_eq_false, not_false_eq_true, ii, addI, subI, negI, int1, eqI, neI, eqS, neS, ix0, ix1, ix2, ix3, decide_eq_true_eq, Bool.not_eq_true', decide_eq_false_iff_not, truB, truN, keyI, keyS, lenT, wipeM, wp_fld, wp_meth, wp_make, wpx_eL, wpx_sL, wpx_cons, kx_nx, kx_rt, kx_xc, wpx_if, wpx_raise, wpx_set, wpx_do, wpx_ret, vx_l, vx_r, wpx_op, gx_l, gx_r, wpx_put, px_l, px_r, wpx_meth, wpx_fn, exk_rt, exk_nx, exk_xc, wp_dn, tx_nx, tx_rt, tx_xc, txa_nx, txa_rt, txa_xc, he, decide_true, decide_false, truB, ne8, lm8, m4, neI, lf8, gtI, q]
      have z := fin s8 .refl k8
      rw [wps_do] at z
      simp only [wp_tup0, wp_tup1, wp_tup2, wp_tup3, wp_tup4, wp_tup5, wp_tup6, wp_tup7, wp_lst0, wp_lst1, wp_lst2, wp_lst3, wp_lst4, wp_lst5, wp_lst6, wp_lst7, wp_lst8, wp_lst9, wp_lst10, wp_lst11, wp_lst12, wp_bd, wp_lc, ql_nx, ql_ct, ql_bk, ql_rt, iSeq, iEnu, Mir.iRev, chkR, chkT, chkO, lstO, wp_some, wp_ite, wp_none, bd_some, eVar, eC, eOp, eUn, eFn, eMt, aNil, aCons,  eAnd, eOr, eNot, eIf, eIsi, eChain, bTest, bTruth, bAnd, bOr, bNot, bYes, eSl, pNo, pAt, eRinA, eRinB, eDnew, eDin, eDget, eDget2, tgM_name, tgM_tup, tgMs_nil, tgMs_name, tgMs_tup, List.getElem?_cons_succ, List.getElem?_cons_zero, List.set_cons_succ, List.set_cons_zero, List.map_cons, List.map_nil, List.length_cons, List.length_nil, List.replicate, List.nil_append, List.cons_append, if_true, if_false, Bool.false_eq_true, Bool.true_eq_false, Nat.reduceAdd, Nat.reduceSub, Nat.reduceLeDiff, Nat.zero_add, Bool.not_true, Bool.not_false, nc0, nc1, nc2, nc3, not_true_eq_false, not_false_eq_true, ii, addI, subI, negI, int1, eqI, neI, eqS, neS, ix0, ix1, ix2, ix3, decide_eq_true_eq, Bool.not_eq_true', decide_eq_false_iff_not, truB, truN, keyI, keyS, lenT, wipeM, lm8] at z
      exact z
  · repeat first | with_reducible refine Eq.mpr wps_cons ?_ | with_reducible refine Eq.mpr wps_pass ?_ | with_reducible refine Eq.mpr wps_nil ?_ | with_reducible refine Eq.mpr wps_set ?_ | with_reducible refine Eq.mpr wps_do ?_ | with_reducible refine Eq.mpr wps_ret ?_ | with_reducible refine Eq.mpr wps_retN ?_ | with_reducible refine Eq.mpr wps_brk ?_ | with_reducible refine Eq.mpr wps_cnt ?_ | with_reducible refine Eq.mpr wps_if ?_ | with_reducible refine Eq.mpr wps_asg ?_ | with_reducible refine wps_asgL ?_ | with_reducible refine Eq.mpr wps_put ?_ | with_reducible refine Eq.mpr wps_dput ?_ | with_reducible refine Eq.mpr wps_aug ?_ | with_reducible refine Eq.mpr wps_par ?_ | with_reducible refine Eq.mpr wps_for ?_ | with_reducible refine Eq.mpr wps_wh ?_ | with_reducible refine Eq.mpr wps_fld ?_ | with_reducible refine Eq.mpr wps_try ?_ | with_reducible refine Eq.mpr wps_tryAs ?_ | simp only [wp_tup0, wp_tup1, wp_tup2, wp_tup3, wp_tup4, wp_tup5, wp_tup6, wp_tup7, wp_lst0, wp_lst1, wp_lst2, wp_lst3, wp_lst4, wp_lst5, wp_lst6, wp_lst7, wp_lst8, wp_lst9, wp_lst10, wp_lst11, wp_lst12, wp_bd, wp_lc, ql_nx, ql_ct, ql_bk, ql_rt, iSeq, iEnu, Mir.iRev, chkR, chkT, chkO, lstO, wp_some, wp_ite, wp_none, bd_some, eVar, eC, eOp, eUn, eFn, eMt, aNil, aCons,  eAnd, eOr, eNot, eIf, eIsi, eChain, bTest, bTruth, bAnd, bOr, bNot, bYes, eSl, pNo, pAt, eRinA, eRinB, eDnew, eDin, eDget, eDget2, tgM_name, tgM_tup, tgMs_nil, tgMs_name, tgMs_tup, List.getElem?_cons_succ, List.getElem?_cons_zero, List.set_cons_succ, List.set_cons_zero, List.map_cons, List.map_nil, List.length_cons, List.length_nil, List.replicate, List.nil_append, List.cons_append, if_true, if_false, Bool.false_eq_true, Bool.true_eq_false, Nat.reduceAdd, Nat.reduceSub, Nat.reduceLeDiff, Nat.zero_add, Bool.not_true, Bool.not_false, nc0, nc1, nc2, nc3, not_true_eq_false, not_false_eq_true, ii, addI, subI, negI, int1, eqI, neI, eqS, neS, ix0, ix1, ix2, ix3, decide_eq_true_eq, Bool.not_eq_true', decide_eq_false_iff_not, truB, truN, keyI, keyS, lenT, wipeM, wp_fld, wp_meth, wp_make, wpx_eL, wpx_sL, wpx_cons, kx_nx, kx_rt, kx_xc, wpx_if, wpx_raise, wpx_set, wpx_do, wpx_ret, vx_l, vx_r, wpx_op, gx_l, gx_r, wpx_put, px_l, px_r, wpx_meth, wpx_fn, exk_rt, exk_nx, exk_xc, wp_dn, tx_nx, tx_rt, tx_xc, txa_nx, txa_rt, txa_xc]
    refine ⟨t1, ?_⟩
    have he' : decide ((M.length : Int) + 4 + (F.length : Int) ≤ (c : Int)) = false := decide_eq_false he
    repeat first | with_reducible refine Eq.mpr wps_cons ?_ | with_reducible refine Eq.mpr wps_pass ?_ | with_reducible refine Eq.mpr wps_nil ?_ | with_reducible refine Eq.mpr wps_set ?_ | with_reducible refine Eq.mpr wps_do ?_ | with_reducible refine Eq.mpr wps_ret ?_ | with_reducible refine Eq.mpr wps_retN ?_ | with_reducible refine Eq.mpr wps_brk ?_ | with_reducible refine Eq.mpr wps_cnt ?_ | with_reducible refine Eq.mpr wps_if ?_ | with_reducible refine Eq.mpr wps_asg ?_ | with_reducible refine wps_asgL ?_ | with_reducible refine Eq.mpr wps_put ?_ | with_reducible refine Eq.mpr wps_dput ?_ | with_reducible refine Eq.mpr wps_aug ?_ | with_reducible refine Eq.mpr wps_par ?_ | with_reducible refine Eq.mpr wps_for ?_ | with_reducible refine Eq.mpr wps_wh ?_ | with_reducible refine Eq.mpr wps_fld ?_ | with_reducible refine Eq.mpr wps_try ?_ | with_reducible refine Eq.mpr wps_tryAs ?_ | simp only [wp_tup0, wp_tup1, wp_tup2, wp_tup3, wp_tup4, wp_tup5, wp_tup6, wp_tup7, wp_lst0, wp_lst1, wp_lst2, wp_lst3, wp_lst4, wp_lst5, wp_lst6, wp_lst7, wp_lst8, wp_lst9, wp_lst10, wp_lst11, wp_lst12, wp_bd, wp_lc, ql_nx, ql_ct, ql_bk, ql_rt, iSeq, iEnu, Mir.iRev, chkR, chkT, chkO, lstO, wp_some, wp_ite, wp_none, bd_some, eVar, eC, eOp, eUn, eFn, eMt, aNil, aCons,  eAnd, eOr, eNot, eIf, eIsi, eChain, bTest, bTruth, bAnd, bOr, bNot, bYes, eSl, pNo, pAt, eRinA, eRinB, eDnew, eDin, eDget, eDget2, tgM_name, tgM_tup, tgMs_nil, tgMs_name, tgMs_tup, List.getElem?_cons_succ, List.getElem?_cons_zero, List.set_cons_succ, List.set_cons_zero, List.map_cons, List.map_nil, List.length_cons, List.length_nil, List.replicate, List.nil_append, List.cons_append, if_true, if_false, Bool.false_eq_true, Bool.true_eq_false, Nat.reduceAdd, Nat.reduceSub, Nat.reduceLeDiff, Nat.zero_add, Bool.not_true, Bool.not_false, nc0, nc1, nc2, nc3, not_true_eq_false, not_false_eq_true, ii, addI, subI, negI, int1, eqI, neI, eqS, neS, ix0, ix1, ix2, ix3, decide_eq_true_eq, Bool.not_eq_true', decide_eq_false_iff_not, truB, truN, keyI, keyS, lenT, wipeM, wp_fld, wp_meth, wp_make, wpx_eL, wpx_sL, wpx_cons, kx_nx, kx_rt, kx_xc, wpx_if, wpx_raise, wpx_set, wpx_do, wpx_ret, vx_l, vx_r, wpx_op, gx_l, gx_r, wpx_put, px_l, px_r, wpx_meth, wpx_fn, exk_rt, exk_nx, exk_xc, wp_dn, tx_nx, tx_rt, tx_xc, txa_nx, txa_rt, txa_xc, he', truB, eIsX, t2, t3]
    exact h M B s7 w7
end
end K72

set_option Elab.async false
set_option linter.all false
set_option maxRecDepth 100000
namespace K72
open PySem PySem.Spec PyProof.Rows L2 Mir
theorem mapMw : ∀ ns : List Int, pyWs (wi ns) = some (ns.map PyData.int)
  | [] => by rw [wi, List.map_nil, pyWs]; rfl
  | n :: ns => by
    have ih := mapMw ns
    rw [wi] at ih
    rw [wi, List.map_cons, pyWs, pyW, ih]
    rfl
theorem shp_tup (ns : List Int) : SeqAt.shaped (.tuple (ns.map PyData.int)) = true := by
  have := dep_ints ns
  have hd : (PyData.tuple (ns.map PyData.int)).depth ≤ 64 := by rw [PyData.depth]; omega
  simp only [SeqAt.shaped, PyData.canLay0, lay_ints, Bool.true_and, decide_eq_true hd]
theorem neT {s : Sto} {x : List Int} : gNe (.tup (wi x)) (.tup (wi x)) s = some (.bl false, s) := by
  have e : eqW s (.tup (wi x)) (.tup (wi x)) = some true := by
    simp only [eqW, sEq, datEq, pyS, pyW, mapMw, mapM_ints, Option.map_some, shp_tup, and_self, if_true, PyData.eqv, eqv_ints, decide_true]
  simp only [gNe, e, Bool.not_true]
section
variable {s : Sto} {cs : List Int} {c : Nat} {M : List Int} {B : List Nat}
theorem Wd.put {b n j : Nat} {v : Int} {s' : Sto} (w : Wd s cs c M B) (hb : b ∈ B) (en : M[b + 3]? = some (n : Int)) (hj : j < n) (h3 : s'[3]? = some (.lst (wi (M.set (b + 4 + j) v)))) (h8 : s'[8]? = some (.lst (wi (M.set (b + 4 + j) v)))) (f : Fr [3, 8] s s') : Wd s' cs c (M.set (b + 4 + j) v) B := by
  have d : ∀ i, i ≠ 3 → i ≠ 8 → ∀ o, s[i]? = some o → s'[i]? = some o := fun i h1 h2 o e => f.at_ i o (by simp [h1, h2]) e
  refine ⟨?_, ⟨d _ (by decide) (by decide) _ w.h.ins, h3, d _ (by decide) (by decide) _ w.h.bgs⟩, w.h2.fr f (by decide) (by decide) (by decide), h8, d _ (by decide) (by decide) _ w.bl, w.o.put hb en hj, by rw [List.length_set]; exact w.le, w.c60⟩
  obtain ⟨a, b, e, x, q⟩ := w.T.tape
  exact ⟨⟨a, b, e, x, d _ (by decide) (by decide) _ q⟩, d _ (by decide) (by decide) _ w.T.cells⟩
theorem no_blk {b : Nat} (o : HpOk M B) (hb : b ∈ B) {x : Nat} {w : Int} (hw : [4 * (b : Int), 4 * (b : Int) + 2, 3, 4 * ((b : Int) + 1) + 1, 4 * (M.length : Int) + 1, -3][x]? = some w) : ∀ b' ∈ B, w ≠ 4 * (b' : Int) + 1 := fun b' hb' e => by
  have l1 := lt_of_mem o hb'
  obtain ⟨n, e1, e2, e3⟩ := o.ok b hb
  rcases x with _ | _ | _ | _ | _ | _ | x
  · have : 4 * (b : Int) = w := Option.some.inj hw
    omega
  · have : 4 * (b : Int) + 2 = w := Option.some.inj hw
    omega
  · have : (3 : Int) = w := Option.some.inj hw
    omega
  · have z : 4 * ((b : Int) + 1) + 1 = w := Option.some.inj hw
    have : b < b' := by omega
    have := e3 b' hb' this
    omega
  · have : 4 * (M.length : Int) + 1 = w := Option.some.inj hw
    omega
  · have : (-3 : Int) = w := Option.some.inj hw
    omega
  · cases hw
theorem lk_ok {R : W → Sto → Prop} (w : Wd s cs c M B) (h : ∀ (M' : List Int) (B' : List Nat) (s' : Sto), Wd s' cs c M' B' → R (.bl true) s') : Wp (FLawLook [.ref 1, .ref 2, .ref 8, .ref 9] s) R := by
  have m4 : ∀ (x : Int) (s : Sto), Mir.gMul (.int 4) (.int x) s = some (.int (4 * x), s) := fun x s => mulL (by decide) (by decide)
  have hM60 : M.length ≤ 60 := Nat.le_trans w.le w.c60
  have hB : B.length ≤ 1000 := by have := w.o.len; omega
  have lb : gLen [.ref 9] s = some (.int (B.length : Int), s) := by rw [lenL w.bl]; simp [ib]
  unfold FLawLook
  rw [wp_mkF (by rfl)]
  unfold BLawLook
  by_cases q : (B.length : Int) = 0
  · have e0 : B = [] := List.length_eq_zero_iff.mp (by omega)
    subst e0
    repeat first | with_reducible refine Eq.mpr wps_cons ?_ | with_reducible refine Eq.mpr wps_pass ?_ | with_reducible refine Eq.mpr wps_nil ?_ | with_reducible refine Eq.mpr wps_set ?_ | with_reducible refine Eq.mpr wps_do ?_ | with_reducible refine Eq.mpr wps_ret ?_ | with_reducible refine Eq.mpr wps_retN ?_ | with_reducible refine Eq.mpr wps_brk ?_ | with_reducible refine Eq.mpr wps_cnt ?_ | with_reducible refine Eq.mpr wps_if ?_ | with_reducible refine Eq.mpr wps_asg ?_ | with_reducible refine wps_asgL ?_ | with_reducible refine Eq.mpr wps_put ?_ | with_reducible refine Eq.mpr wps_dput ?_ | with_reducible refine Eq.mpr wps_aug ?_ | with_reducible refine Eq.mpr wps_par ?_ | with_reducible refine Eq.mpr wps_for ?_ | with_reducible refine Eq.mpr wps_wh ?_ | with_reducible refine Eq.mpr wps_fld ?_ | with_reducible refine Eq.mpr wps_try ?_ | with_reducible refine Eq.mpr wps_tryAs ?_ | simp only [wp_tup0, wp_tup1, wp_tup2, wp_tup3, wp_tup4, wp_tup5, wp_tup6, wp_tup7, wp_lst0, wp_lst1, wp_lst2, wp_lst3, wp_lst4, wp_lst5, wp_lst6, wp_lst7, wp_lst8, wp_lst9, wp_lst10, wp_lst11, wp_lst12, wp_bd, wp_lc, ql_nx, ql_ct, ql_bk, ql_rt, iSeq, iEnu, Mir.iRev, chkR, chkT, chkO, lstO, wp_some, wp_ite, wp_none, bd_some, eVar, eC, eOp, eUn, eFn, eMt, aNil, aCons,  eAnd, eOr, eNot, eIf, eIsi, eChain, bTest, bTruth, bAnd, bOr, bNot, bYes, eSl, pNo, pAt, eRinA, eRinB, eDnew, eDin, eDget, eDget2, tgM_name, tgM_tup, tgMs_nil, tgMs_name, tgMs_tup, List.getElem?_cons_succ, List.getElem?_cons_zero, List.set_cons_succ, List.set_cons_zero, List.map_cons, List.map_nil, List.length_cons, List.length_nil, List.replicate, List.nil_append, List.cons_append, if_true, if_false, Bool.false_eq_true, Bool.true_eq_false, Nat.reduceAdd, Nat.reduceSub, Nat.reduceLeDiff, Nat.zero_add, Bool.not_true, Bool.not_false, nc0, nc1, nc2, nc3, not_true_eq_false, not_false_eq_true, ii, addI, subI, negI, int1, eqI, neI, eqS, neS, ix0, ix1, ix2, ix3, decide_eq_true_eq, Bool.not_eq_true', decide_eq_false_iff_not, truB, truN, keyI, keyS, lenT, wipeM, wp_fld, wp_meth, wp_make, wpx_eL, wpx_sL, wpx_cons, kx_nx, kx_rt, kx_xc, wpx_if, wpx_raise, wpx_set, wpx_do, wpx_ret, vx_l, vx_r, wpx_op, gx_l, gx_r, wpx_put, px_l, px_r, wpx_meth, wpx_fn, exk_rt, exk_nx, exk_xc, wp_dn, tx_nx, tx_rt, tx_xc, txa_nx, txa_rt, txa_xc, lb, eqI, q, decide_true]
    refine rf_ok w.h w.o (fun _ => ?_) (fun b n hb => by cases hb) (.inl fun b hb => by cases hb)
    repeat first | with_reducible refine Eq.mpr wps_cons ?_ | with_reducible refine Eq.mpr wps_pass ?_ | with_reducible refine Eq.mpr wps_nil ?_ | with_reducible refine Eq.mpr wps_set ?_ | with_reducible refine Eq.mpr wps_do ?_ | with_reducible refine Eq.mpr wps_ret ?_ | with_reducible refine Eq.mpr wps_retN ?_ | with_reducible refine Eq.mpr wps_brk ?_ | with_reducible refine Eq.mpr wps_cnt ?_ | with_reducible refine Eq.mpr wps_if ?_ | with_reducible refine Eq.mpr wps_asg ?_ | with_reducible refine wps_asgL ?_ | with_reducible refine Eq.mpr wps_put ?_ | with_reducible refine Eq.mpr wps_dput ?_ | with_reducible refine Eq.mpr wps_aug ?_ | with_reducible refine Eq.mpr wps_par ?_ | with_reducible refine Eq.mpr wps_for ?_ | with_reducible refine Eq.mpr wps_wh ?_ | with_reducible refine Eq.mpr wps_fld ?_ | with_reducible refine Eq.mpr wps_try ?_ | with_reducible refine Eq.mpr wps_tryAs ?_ | simp only [wp_tup0, wp_tup1, wp_tup2, wp_tup3, wp_tup4, wp_tup5, wp_tup6, wp_tup7, wp_lst0, wp_lst1, wp_lst2, wp_lst3, wp_lst4, wp_lst5, wp_lst6, wp_lst7, wp_lst8, wp_lst9, wp_lst10, wp_lst11, wp_lst12, wp_bd, wp_lc, ql_nx, ql_ct, ql_bk, ql_rt, iSeq, iEnu, Mir.iRev, chkR, chkT, chkO, lstO, wp_some, wp_ite, wp_none, bd_some, eVar, eC, eOp, eUn, eFn, eMt, aNil, aCons,  eAnd, eOr, eNot, eIf, eIsi, eChain, bTest, bTruth, bAnd, bOr, bNot, bYes, eSl, pNo, pAt, eRinA, eRinB, eDnew, eDin, eDget, eDget2, tgM_name, tgM_tup, tgMs_nil, tgMs_name, tgMs_tup, List.getElem?_cons_succ, List.getElem?_cons_zero, List.set_cons_succ, List.set_cons_zero, List.map_cons, List.map_nil, List.length_cons, List.length_nil, List.replicate, List.nil_append, List.cons_append, if_true, if_false, Bool.false_eq_true, Bool.true_eq_false, Nat.reduceAdd, Nat.reduceSub, Nat.reduceLeDiff, Nat.zero_add, Bool.not_true, Bool.not_false, nc0, nc1, nc2, nc3, not_true_eq_false, not_false_eq_true, ii, addI, subI, negI, int1, eqI, neI, eqS, neS, ix0, ix1, ix2, ix3, decide_eq_true_eq, Bool.not_eq_true', decide_eq_false_iff_not, truB, truN, keyI, keyS, lenT, wipeM, wp_fld, wp_meth, wp_make, wpx_eL, wpx_sL, wpx_cons, kx_nx, kx_rt, kx_xc, wpx_if, wpx_raise, wpx_set, wpx_do, wpx_ret, vx_l, vx_r, wpx_op, gx_l, gx_r, wpx_put, px_l, px_r, wpx_meth, wpx_fn, exk_rt, exk_nx, exk_xc, wp_dn, tx_nx, tx_rt, tx_xc, txa_nx, txa_rt, txa_xc, eqI, decide_true, truB]
    refine rf_ok w.h w.o (fun _ => ?_) (fun b n hb => by cases hb) (.inl fun b hb => by cases hb)
    repeat first | with_reducible refine Eq.mpr wps_cons ?_ | with_reducible refine Eq.mpr wps_pass ?_ | with_reducible refine Eq.mpr wps_nil ?_ | with_reducible refine Eq.mpr wps_set ?_ | with_reducible refine Eq.mpr wps_do ?_ | with_reducible refine Eq.mpr wps_ret ?_ | with_reducible refine Eq.mpr wps_retN ?_ | with_reducible refine Eq.mpr wps_brk ?_ | with_reducible refine Eq.mpr wps_cnt ?_ | with_reducible refine Eq.mpr wps_if ?_ | with_reducible refine Eq.mpr wps_asg ?_ | with_reducible refine wps_asgL ?_ | with_reducible refine Eq.mpr wps_put ?_ | with_reducible refine Eq.mpr wps_dput ?_ | with_reducible refine Eq.mpr wps_aug ?_ | with_reducible refine Eq.mpr wps_par ?_ | with_reducible refine Eq.mpr wps_for ?_ | with_reducible refine Eq.mpr wps_wh ?_ | with_reducible refine Eq.mpr wps_fld ?_ | with_reducible refine Eq.mpr wps_try ?_ | with_reducible refine Eq.mpr wps_tryAs ?_ | simp only [wp_tup0, wp_tup1, wp_tup2, wp_tup3, wp_tup4, wp_tup5, wp_tup6, wp_tup7, wp_lst0, wp_lst1, wp_lst2, wp_lst3, wp_lst4, wp_lst5, wp_lst6, wp_lst7, wp_lst8, wp_lst9, wp_lst10, wp_lst11, wp_lst12, wp_bd, wp_lc, ql_nx, ql_ct, ql_bk, ql_rt, iSeq, iEnu, Mir.iRev, chkR, chkT, chkO, lstO, wp_some, wp_ite, wp_none, bd_some, eVar, eC, eOp, eUn, eFn, eMt, aNil, aCons,  eAnd, eOr, eNot, eIf, eIsi, eChain, bTest, bTruth, bAnd, bOr, bNot, bYes, eSl, pNo, pAt, eRinA, eRinB, eDnew, eDin, eDget, eDget2, tgM_name, tgM_tup, tgMs_nil, tgMs_name, tgMs_tup, List.getElem?_cons_succ, List.getElem?_cons_zero, List.set_cons_succ, List.set_cons_zero, List.map_cons, List.map_nil, List.length_cons, List.length_nil, List.replicate, List.nil_append, List.cons_append, if_true, if_false, Bool.false_eq_true, Bool.true_eq_false, Nat.reduceAdd, Nat.reduceSub, Nat.reduceLeDiff, Nat.zero_add, Bool.not_true, Bool.not_false, nc0, nc1, nc2, nc3, not_true_eq_false, not_false_eq_true, ii, addI, subI, negI, int1, eqI, neI, eqS, neS, ix0, ix1, ix2, ix3, decide_eq_true_eq, Bool.not_eq_true', decide_eq_false_iff_not, truB, truN, keyI, keyS, lenT, wipeM, wp_fld, wp_meth, wp_make, wpx_eL, wpx_sL, wpx_cons, kx_nx, kx_rt, kx_xc, wpx_if, wpx_raise, wpx_set, wpx_do, wpx_ret, vx_l, vx_r, wpx_op, gx_l, gx_r, wpx_put, px_l, px_r, wpx_meth, wpx_fn, exk_rt, exk_nx, exk_xc, wp_dn, tx_nx, tx_rt, tx_xc, txa_nx, txa_rt, txa_xc, eqI, decide_true, truB]
    exact h _ _ _ w
  repeat first | with_reducible refine Eq.mpr wps_cons ?_ | with_reducible refine Eq.mpr wps_pass ?_ | with_reducible refine Eq.mpr wps_nil ?_ | with_reducible refine Eq.mpr wps_set ?_ | with_reducible refine Eq.mpr wps_do ?_ | with_reducible refine Eq.mpr wps_ret ?_ | with_reducible refine Eq.mpr wps_retN ?_ | with_reducible refine Eq.mpr wps_brk ?_ | with_reducible refine Eq.mpr wps_cnt ?_ | with_reducible refine Eq.mpr wps_if ?_ | with_reducible refine Eq.mpr wps_asg ?_ | with_reducible refine wps_asgL ?_ | with_reducible refine Eq.mpr wps_put ?_ | with_reducible refine Eq.mpr wps_dput ?_ | with_reducible refine Eq.mpr wps_aug ?_ | with_reducible refine Eq.mpr wps_par ?_ | with_reducible refine Eq.mpr wps_for ?_ | with_reducible refine Eq.mpr wps_wh ?_ | with_reducible refine Eq.mpr wps_fld ?_ | with_reducible refine Eq.mpr wps_try ?_ | with_reducible refine Eq.mpr wps_tryAs ?_ | simp only [wp_tup0, wp_tup1, wp_tup2, wp_tup3, wp_tup4, wp_tup5, wp_tup6, wp_tup7, wp_lst0, wp_lst1, wp_lst2, wp_lst3, wp_lst4, wp_lst5, wp_lst6, wp_lst7, wp_lst8, wp_lst9, wp_lst10, wp_lst11, wp_lst12, wp_bd, wp_lc, ql_nx, ql_ct, ql_bk, ql_rt, iSeq, iEnu, Mir.iRev, chkR, chkT, chkO, lstO, wp_some, wp_ite, wp_none, bd_some, eVar, eC, eOp, eUn, eFn, eMt, aNil, aCons,  eAnd, eOr, eNot, eIf, eIsi, eChain, bTest, bTruth, bAnd, bOr, bNot, bYes, eSl, pNo, pAt, eRinA, eRinB, eDnew, eDin, eDget, eDget2, tgM_name, tgM_tup, tgMs_nil, tgMs_name, tgMs_tup, List.getElem?_cons_succ, List.getElem?_cons_zero, List.set_cons_succ, List.set_cons_zero, List.map_cons, List.map_nil, List.length_cons, List.length_nil, List.replicate, List.nil_append, List.cons_append, if_true, if_false, Bool.false_eq_true, Bool.true_eq_false, Nat.reduceAdd, Nat.reduceSub, Nat.reduceLeDiff, Nat.zero_add, Bool.not_true, Bool.not_false, nc0, nc1, nc2, nc3, not_true_eq_false, not_false_eq_true, ii, addI, subI, negI, int1, eqI, neI, eqS, neS, ix0, ix1, ix2, ix3, decide_eq_true_eq, Bool.not_eq_true', decide_eq_false_iff_not, truB, truN, keyI, keyS, lenT, wipeM, wp_fld, wp_meth, wp_make, wpx_eL, wpx_sL, wpx_cons, kx_nx, kx_rt, kx_xc, wpx_if, wpx_raise, wpx_set, wpx_do, wpx_ret, vx_l, vx_r, wpx_op, gx_l, gx_r, wpx_put, px_l, px_r, wpx_meth, wpx_fn, exk_rt, exk_nx, exk_xc, wp_dn, tx_nx, tx_rt, tx_xc, txa_nx, txa_rt, txa_xc, lb, eqI, q, decide_false]
  refine dr w.T B.length (by omega) (by omega) fun x s1 hx T1 f1 l1 => ?_
  have w1 := w.fr T1 f1
  obtain ⟨b, eb⟩ : ∃ b, b = B[x] := ⟨_, rfl⟩
  have hb : b ∈ B := by rw [eb]; exact List.getElem_mem _
  have hv : (ib B)[x]? = some (b : Int) := by simp [ib, hx, eb]
  obtain ⟨n, en, en2, en3⟩ := w.o.ok b hb
  have sl8 : ∀ s2 : Sto, s2[8]? = some (.lst (wi M)) → gSlA (.ref 8) (some (b : Int)) (some ((b : Int) + 4)) s2 = some (.ref s2.length, s2 ++ [.lst (wi ((M.drop b).take 4))]) := fun s2 e => by
    have z : ((b : Int) + 4) = ((b + 4 : Nat) : Int) := by omega
    rw [z, slL e, wi, wi, ← List.map_drop, ← List.map_take, show b + 4 - b = 4 by omega]
  repeat first | with_reducible refine Eq.mpr wps_cons ?_ | with_reducible refine Eq.mpr wps_pass ?_ | with_reducible refine Eq.mpr wps_nil ?_ | with_reducible refine Eq.mpr wps_set ?_ | with_reducible refine Eq.mpr wps_do ?_ | with_reducible refine Eq.mpr wps_ret ?_ | with_reducible refine Eq.mpr wps_retN ?_ | with_reducible refine Eq.mpr wps_brk ?_ | with_reducible refine Eq.mpr wps_cnt ?_ | with_reducible refine Eq.mpr wps_if ?_ | with_reducible refine Eq.mpr wps_asg ?_ | with_reducible refine wps_asgL ?_ | with_reducible refine Eq.mpr wps_put ?_ | with_reducible refine Eq.mpr wps_dput ?_ | with_reducible refine Eq.mpr wps_aug ?_ | with_reducible refine Eq.mpr wps_par ?_ | with_reducible refine Eq.mpr wps_for ?_ | with_reducible refine Eq.mpr wps_wh ?_ | with_reducible refine Eq.mpr wps_fld ?_ | with_reducible refine Eq.mpr wps_try ?_ | with_reducible refine Eq.mpr wps_tryAs ?_ | simp only [wp_tup0, wp_tup1, wp_tup2, wp_tup3, wp_tup4, wp_tup5, wp_tup6, wp_tup7, wp_lst0, wp_lst1, wp_lst2, wp_lst3, wp_lst4, wp_lst5, wp_lst6, wp_lst7, wp_lst8, wp_lst9, wp_lst10, wp_lst11, wp_lst12, wp_bd, wp_lc, ql_nx, ql_ct, ql_bk, ql_rt, iSeq, iEnu, Mir.iRev, chkR, chkT, chkO, lstO, wp_some, wp_ite, wp_none, bd_some, eVar, eC, eOp, eUn, eFn, eMt, aNil, aCons,  eAnd, eOr, eNot, eIf, eIsi, eChain, bTest, bTruth, bAnd, bOr, bNot, bYes, eSl, pNo, pAt, eRinA, eRinB, eDnew, eDin, eDget, eDget2, tgM_name, tgM_tup, tgMs_nil, tgMs_name, tgMs_tup, List.getElem?_cons_succ, List.getElem?_cons_zero, List.set_cons_succ, List.set_cons_zero, List.map_cons, List.map_nil, List.length_cons, List.length_nil, List.replicate, List.nil_append, List.cons_append, if_true, if_false, Bool.false_eq_true, Bool.true_eq_false, Nat.reduceAdd, Nat.reduceSub, Nat.reduceLeDiff, Nat.zero_add, Bool.not_true, Bool.not_false, nc0, nc1, nc2, nc3, not_true_eq_false, not_false_eq_true, ii, addI, subI, negI, int1, eqI, neI, eqS, neS, ix0, ix1, ix2, ix3, decide_eq_true_eq, Bool.not_eq_true', decide_eq_false_iff_not, truB, truN, keyI, keyS, lenT, wipeM, wp_fld, wp_meth, wp_make, wpx_eL, wpx_sL, wpx_cons, kx_nx, kx_rt, kx_xc, wpx_if, wpx_raise, wpx_set, wpx_do, wpx_ret, vx_l, vx_r, wpx_op, gx_l, gx_r, wpx_put, px_l, px_r, wpx_meth, wpx_fn, exk_rt, exk_nx, exk_xc, wp_dn, tx_nx, tx_rt, tx_xc, txa_nx, txa_rt, txa_xc, ixI w1.bl hv, m4, w1.h.iM (m := "header")]
  refine hd_ok w1.h (fun b' hb' e => ?_) (fun z => absurd rfl (z b hb))
  have eb' : b' = b := by omega
  subst eb'
  obtain ⟨s2, es2⟩ : ∃ s2, s2 = s1 ++ [O.lst (wi ((M.drop b').take 4))] := ⟨_, rfl⟩
  rw [← es2]
  have w2 : Wd s2 cs c M B := by rw [es2]; exact w1.app
  repeat first | with_reducible refine Eq.mpr wps_cons ?_ | with_reducible refine Eq.mpr wps_pass ?_ | with_reducible refine Eq.mpr wps_nil ?_ | with_reducible refine Eq.mpr wps_set ?_ | with_reducible refine Eq.mpr wps_do ?_ | with_reducible refine Eq.mpr wps_ret ?_ | with_reducible refine Eq.mpr wps_retN ?_ | with_reducible refine Eq.mpr wps_brk ?_ | with_reducible refine Eq.mpr wps_cnt ?_ | with_reducible refine Eq.mpr wps_if ?_ | with_reducible refine Eq.mpr wps_asg ?_ | with_reducible refine wps_asgL ?_ | with_reducible refine Eq.mpr wps_put ?_ | with_reducible refine Eq.mpr wps_dput ?_ | with_reducible refine Eq.mpr wps_aug ?_ | with_reducible refine Eq.mpr wps_par ?_ | with_reducible refine Eq.mpr wps_for ?_ | with_reducible refine Eq.mpr wps_wh ?_ | with_reducible refine Eq.mpr wps_fld ?_ | with_reducible refine Eq.mpr wps_try ?_ | with_reducible refine Eq.mpr wps_tryAs ?_ | simp only [wp_tup0, wp_tup1, wp_tup2, wp_tup3, wp_tup4, wp_tup5, wp_tup6, wp_tup7, wp_lst0, wp_lst1, wp_lst2, wp_lst3, wp_lst4, wp_lst5, wp_lst6, wp_lst7, wp_lst8, wp_lst9, wp_lst10, wp_lst11, wp_lst12, wp_bd, wp_lc, ql_nx, ql_ct, ql_bk, ql_rt, iSeq, iEnu, Mir.iRev, chkR, chkT, chkO, lstO, wp_some, wp_ite, wp_none, bd_some, eVar, eC, eOp, eUn, eFn, eMt, aNil, aCons,  eAnd, eOr, eNot, eIf, eIsi, eChain, bTest, bTruth, bAnd, bOr, bNot, bYes, eSl, pNo, pAt, eRinA, eRinB, eDnew, eDin, eDget, eDget2, tgM_name, tgM_tup, tgMs_nil, tgMs_name, tgMs_tup, List.getElem?_cons_succ, List.getElem?_cons_zero, List.set_cons_succ, List.set_cons_zero, List.map_cons, List.map_nil, List.length_cons, List.length_nil, List.replicate, List.nil_append, List.cons_append, if_true, if_false, Bool.false_eq_true, Bool.true_eq_false, Nat.reduceAdd, Nat.reduceSub, Nat.reduceLeDiff, Nat.zero_add, Bool.not_true, Bool.not_false, nc0, nc1, nc2, nc3, not_true_eq_false, not_false_eq_true, ii, addI, subI, negI, int1, eqI, neI, eqS, neS, ix0, ix1, ix2, ix3, decide_eq_true_eq, Bool.not_eq_true', decide_eq_false_iff_not, truB, truN, keyI, keyS, lenT, wipeM, wp_fld, wp_meth, wp_make, wpx_eL, wpx_sL, wpx_cons, kx_nx, kx_rt, kx_xc, wpx_if, wpx_raise, wpx_set, wpx_do, wpx_ret, vx_l, vx_r, wpx_op, gx_l, gx_r, wpx_put, px_l, px_r, wpx_meth, wpx_fn, exk_rt, exk_nx, exk_xc, wp_dn, tx_nx, tx_rt, tx_xc, txa_nx, txa_rt, txa_xc, sl8 s2 w2.md, tupL gnew, neT]
  obtain ⟨s3, es3⟩ : ∃ s3, s3 = s2 ++ [O.lst (wi ((M.drop b').take 4))] := ⟨_, rfl⟩
  rw [← es3]
  have w3 : Wd s3 cs c M B := by rw [es3]; exact w2.app
  have z3 : ∀ z : Nat, z = b' → ((z : Int) + 3) = ((b' + 3 : Nat) : Int) := fun z e => by omega
  have gn : ∀ s4 : Sto, ∀ M' : List Int, s4[8]? = some (.lst (wi M')) → M'[b' + 3]? = some (n : Int) → gIx (.ref 8) (.int ((b' : Int) + 3)) s4 = some (.int (n : Int), s4) := fun s4 M' e1 e2 => by
    rw [show ((b' : Int) + 3) = ((b' + 3 : Nat) : Int) by omega]
    exact ixI e1 e2
  refine wp_rng1 ?_
  repeat first | with_reducible refine Eq.mpr wps_cons ?_ | with_reducible refine Eq.mpr wps_pass ?_ | with_reducible refine Eq.mpr wps_nil ?_ | with_reducible refine Eq.mpr wps_set ?_ | with_reducible refine Eq.mpr wps_do ?_ | with_reducible refine Eq.mpr wps_ret ?_ | with_reducible refine Eq.mpr wps_retN ?_ | with_reducible refine Eq.mpr wps_brk ?_ | with_reducible refine Eq.mpr wps_cnt ?_ | with_reducible refine Eq.mpr wps_if ?_ | with_reducible refine Eq.mpr wps_asg ?_ | with_reducible refine wps_asgL ?_ | with_reducible refine Eq.mpr wps_put ?_ | with_reducible refine Eq.mpr wps_dput ?_ | with_reducible refine Eq.mpr wps_aug ?_ | with_reducible refine Eq.mpr wps_par ?_ | with_reducible refine Eq.mpr wps_for ?_ | with_reducible refine Eq.mpr wps_wh ?_ | with_reducible refine Eq.mpr wps_fld ?_ | with_reducible refine Eq.mpr wps_try ?_ | with_reducible refine Eq.mpr wps_tryAs ?_ | simp only [wp_tup0, wp_tup1, wp_tup2, wp_tup3, wp_tup4, wp_tup5, wp_tup6, wp_tup7, wp_lst0, wp_lst1, wp_lst2, wp_lst3, wp_lst4, wp_lst5, wp_lst6, wp_lst7, wp_lst8, wp_lst9, wp_lst10, wp_lst11, wp_lst12, wp_bd, wp_lc, ql_nx, ql_ct, ql_bk, ql_rt, iSeq, iEnu, Mir.iRev, chkR, chkT, chkO, lstO, wp_some, wp_ite, wp_none, bd_some, eVar, eC, eOp, eUn, eFn, eMt, aNil, aCons,  eAnd, eOr, eNot, eIf, eIsi, eChain, bTest, bTruth, bAnd, bOr, bNot, bYes, eSl, pNo, pAt, eRinA, eRinB, eDnew, eDin, eDget, eDget2, tgM_name, tgM_tup, tgMs_nil, tgMs_name, tgMs_tup, List.getElem?_cons_succ, List.getElem?_cons_zero, List.set_cons_succ, List.set_cons_zero, List.map_cons, List.map_nil, List.length_cons, List.length_nil, List.replicate, List.nil_append, List.cons_append, if_true, if_false, Bool.false_eq_true, Bool.true_eq_false, Nat.reduceAdd, Nat.reduceSub, Nat.reduceLeDiff, Nat.zero_add, Bool.not_true, Bool.not_false, nc0, nc1, nc2, nc3, not_true_eq_false, not_false_eq_true, ii, addI, subI, negI, int1, eqI, neI, eqS, neS, ix0, ix1, ix2, ix3, decide_eq_true_eq, Bool.not_eq_true', decide_eq_false_iff_not, truB, truN, keyI, keyS, lenT, wipeM, wp_fld, wp_meth, wp_make, wpx_eL, wpx_sL, wpx_cons, kx_nx, kx_rt, kx_xc, wpx_if, wpx_raise, wpx_set, wpx_do, wpx_ret, vx_l, vx_r, wpx_op, gx_l, gx_r, wpx_put, px_l, px_r, wpx_meth, wpx_fn, exk_rt, exk_nx, exk_xc, wp_dn, tx_nx, tx_rt, tx_xc, txa_nx, txa_rt, txa_xc, gn s3 M w3.md en]
  refine ⟨n, rfl, by omega, ?_⟩
  refine wp_fo (I := fun k ρ s' => s' = s3 ∧ ∃ v6, ρ = [some (.ref 1), some (.ref 2), some (.ref 8), some (.ref 9), some (.int (b' : Int)), some (.int (4 * (b' : Int) + 1)), v6, none]) _ 0 _ _ ⟨rfl, none, rfl⟩ (fun i x ρ s' hi hI => ?_) (fun ρ s' hI => ?_)
  · obtain ⟨rfl, v6, rfl⟩ := hI
    have hi' : i < n := by
      have := (List.getElem?_eq_some_iff.mp hi).1
      simpa using this
    have ex : x = .int (i : Int) := by
      rw [List.getElem?_map, List.getElem?_range hi'] at hi
      exact (Option.some.inj hi).symm
    subst ex
    refine ⟨by rw [okN]; trivial, _, tgM_name, ?_⟩
    have hvi : M[b' + 4 + i]? = some M[b' + 4 + i] := List.getElem?_eq_getElem (by omega)
    have gi : gIx (.ref 8) (.int ((b' : Int) + 4 + (i : Int))) s' = some (.int M[b' + 4 + i], s') := by
      rw [show ((b' : Int) + 4 + (i : Int)) = ((b' + 4 + i : Nat) : Int) by omega]
      exact ixI w3.md hvi
    repeat first | with_reducible refine Eq.mpr wps_cons ?_ | with_reducible refine Eq.mpr wps_pass ?_ | with_reducible refine Eq.mpr wps_nil ?_ | with_reducible refine Eq.mpr wps_set ?_ | with_reducible refine Eq.mpr wps_do ?_ | with_reducible refine Eq.mpr wps_ret ?_ | with_reducible refine Eq.mpr wps_retN ?_ | with_reducible refine Eq.mpr wps_brk ?_ | with_reducible refine Eq.mpr wps_cnt ?_ | with_reducible refine Eq.mpr wps_if ?_ | with_reducible refine Eq.mpr wps_asg ?_ | with_reducible refine wps_asgL ?_ | with_reducible refine Eq.mpr wps_put ?_ | with_reducible refine Eq.mpr wps_dput ?_ | with_reducible refine Eq.mpr wps_aug ?_ | with_reducible refine Eq.mpr wps_par ?_ | with_reducible refine Eq.mpr wps_for ?_ | with_reducible refine Eq.mpr wps_wh ?_ | with_reducible refine Eq.mpr wps_fld ?_ | with_reducible refine Eq.mpr wps_try ?_ | with_reducible refine Eq.mpr wps_tryAs ?_ | simp only [wp_tup0, wp_tup1, wp_tup2, wp_tup3, wp_tup4, wp_tup5, wp_tup6, wp_tup7, wp_lst0, wp_lst1, wp_lst2, wp_lst3, wp_lst4, wp_lst5, wp_lst6, wp_lst7, wp_lst8, wp_lst9, wp_lst10, wp_lst11, wp_lst12, wp_bd, wp_lc, ql_nx, ql_ct, ql_bk, ql_rt, iSeq, iEnu, Mir.iRev, chkR, chkT, chkO, lstO, wp_some, wp_ite, wp_none, bd_some, eVar, eC, eOp, eUn, eFn, eMt, aNil, aCons,  eAnd, eOr, eNot, eIf, eIsi, eChain, bTest, bTruth, bAnd, bOr, bNot, bYes, eSl, pNo, pAt, eRinA, eRinB, eDnew, eDin, eDget, eDget2, tgM_name, tgM_tup, tgMs_nil, tgMs_name, tgMs_tup, List.getElem?_cons_succ, List.getElem?_cons_zero, List.set_cons_succ, List.set_cons_zero, List.map_cons, List.map_nil, List.length_cons, List.length_nil, List.replicate, List.nil_append, List.cons_append, if_true, if_false, Bool.false_eq_true, Bool.true_eq_false, Nat.reduceAdd, Nat.reduceSub, Nat.reduceLeDiff, Nat.zero_add, Bool.not_true, Bool.not_false, nc0, nc1, nc2, nc3, not_true_eq_false, not_false_eq_true, ii, addI, subI, negI, int1, eqI, neI, eqS, neS, ix0, ix1, ix2, ix3, decide_eq_true_eq, Bool.not_eq_true', decide_eq_false_iff_not, truB, truN, keyI, keyS, lenT, wipeM, wp_fld, wp_meth, wp_make, wpx_eL, wpx_sL, wpx_cons, kx_nx, kx_rt, kx_xc, wpx_if, wpx_raise, wpx_set, wpx_do, wpx_ret, vx_l, vx_r, wpx_op, gx_l, gx_r, wpx_put, px_l, px_r, wpx_meth, wpx_fn, exk_rt, exk_nx, exk_xc, wp_dn, tx_nx, tx_rt, tx_xc, txa_nx, txa_rt, txa_xc, w3.h.iM (m := "field")]
    refine fd_ok w3.h w3.o (fun b1 n1 j1 v1 hb1 ew1 en1 ej1 hj1 ev1 => ?_) (fun hbad => absurd hi' (hbad b' n i hb rfl en rfl))
    have e1 : b1 = b' := by omega
    have e2 : j1 = i := by omega
    subst e1 e2
    have e3 : v1 = M[b1 + 4 + j1] := by rw [hvi] at ev1; exact (Option.some.inj ev1).symm
    subst e3
    repeat first | with_reducible refine Eq.mpr wps_cons ?_ | with_reducible refine Eq.mpr wps_pass ?_ | with_reducible refine Eq.mpr wps_nil ?_ | with_reducible refine Eq.mpr wps_set ?_ | with_reducible refine Eq.mpr wps_do ?_ | with_reducible refine Eq.mpr wps_ret ?_ | with_reducible refine Eq.mpr wps_retN ?_ | with_reducible refine Eq.mpr wps_brk ?_ | with_reducible refine Eq.mpr wps_cnt ?_ | with_reducible refine Eq.mpr wps_if ?_ | with_reducible refine Eq.mpr wps_asg ?_ | with_reducible refine wps_asgL ?_ | with_reducible refine Eq.mpr wps_put ?_ | with_reducible refine Eq.mpr wps_dput ?_ | with_reducible refine Eq.mpr wps_aug ?_ | with_reducible refine Eq.mpr wps_par ?_ | with_reducible refine Eq.mpr wps_for ?_ | with_reducible refine Eq.mpr wps_wh ?_ | with_reducible refine Eq.mpr wps_fld ?_ | with_reducible refine Eq.mpr wps_try ?_ | with_reducible refine Eq.mpr wps_tryAs ?_ | simp only [wp_tup0, wp_tup1, wp_tup2, wp_tup3, wp_tup4, wp_tup5, wp_tup6, wp_tup7, wp_lst0, wp_lst1, wp_lst2, wp_lst3, wp_lst4, wp_lst5, wp_lst6, wp_lst7, wp_lst8, wp_lst9, wp_lst10, wp_lst11, wp_lst12, wp_bd, wp_lc, ql_nx, ql_ct, ql_bk, ql_rt, iSeq, iEnu, Mir.iRev, chkR, chkT, chkO, lstO, wp_some, wp_ite, wp_none, bd_some, eVar, eC, eOp, eUn, eFn, eMt, aNil, aCons,  eAnd, eOr, eNot, eIf, eIsi, eChain, bTest, bTruth, bAnd, bOr, bNot, bYes, eSl, pNo, pAt, eRinA, eRinB, eDnew, eDin, eDget, eDget2, tgM_name, tgM_tup, tgMs_nil, tgMs_name, tgMs_tup, List.getElem?_cons_succ, List.getElem?_cons_zero, List.set_cons_succ, List.set_cons_zero, List.map_cons, List.map_nil, List.length_cons, List.length_nil, List.replicate, List.nil_append, List.cons_append, if_true, if_false, Bool.false_eq_true, Bool.true_eq_false, Nat.reduceAdd, Nat.reduceSub, Nat.reduceLeDiff, Nat.zero_add, Bool.not_true, Bool.not_false, nc0, nc1, nc2, nc3, not_true_eq_false, not_false_eq_true, ii, addI, subI, negI, int1, eqI, neI, eqS, neS, ix0, ix1, ix2, ix3, decide_eq_true_eq, Bool.not_eq_true', decide_eq_false_iff_not, truB, truN, keyI, keyS, lenT, wipeM, wp_fld, wp_meth, wp_make, wpx_eL, wpx_sL, wpx_cons, kx_nx, kx_rt, kx_xc, wpx_if, wpx_raise, wpx_set, wpx_do, wpx_ret, vx_l, vx_r, wpx_op, gx_l, gx_r, wpx_put, px_l, px_r, wpx_meth, wpx_fn, exk_rt, exk_nx, exk_xc, wp_dn, tx_nx, tx_rt, tx_xc, txa_nx, txa_rt, txa_xc, gi, neI, decide_true]
    exact ⟨trivial, _, rfl⟩
  obtain ⟨rfl, v6, rfl⟩ := hI
  refine ⟨by rw [okN]; trivial, ?_⟩
  rw [wps_cons]
  refine wps_mid (M := fun ρ s4 => ∃ (M' : List Int) (v6 : Option W), Wd s4 cs c M' B ∧ M'[b' + 3]? = some (n : Int) ∧ ρ = [some (.ref 1), some (.ref 2), some (.ref 8), some (.ref 9), some (.int (b' : Int)), some (.int (4 * (b' : Int) + 1)), v6, none]) ?_ ?_
  · by_cases q0 : (0 : Int) < (n : Int)
    · repeat first | with_reducible refine Eq.mpr wps_cons ?_ | with_reducible refine Eq.mpr wps_pass ?_ | with_reducible refine Eq.mpr wps_nil ?_ | with_reducible refine Eq.mpr wps_set ?_ | with_reducible refine Eq.mpr wps_do ?_ | with_reducible refine Eq.mpr wps_ret ?_ | with_reducible refine Eq.mpr wps_retN ?_ | with_reducible refine Eq.mpr wps_brk ?_ | with_reducible refine Eq.mpr wps_cnt ?_ | with_reducible refine Eq.mpr wps_if ?_ | with_reducible refine Eq.mpr wps_asg ?_ | with_reducible refine wps_asgL ?_ | with_reducible refine Eq.mpr wps_put ?_ | with_reducible refine Eq.mpr wps_dput ?_ | with_reducible refine Eq.mpr wps_aug ?_ | with_reducible refine Eq.mpr wps_par ?_ | with_reducible refine Eq.mpr wps_for ?_ | with_reducible refine Eq.mpr wps_wh ?_ | with_reducible refine Eq.mpr wps_fld ?_ | with_reducible refine Eq.mpr wps_try ?_ | with_reducible refine Eq.mpr wps_tryAs ?_ | simp only [wp_tup0, wp_tup1, wp_tup2, wp_tup3, wp_tup4, wp_tup5, wp_tup6, wp_tup7, wp_lst0, wp_lst1, wp_lst2, wp_lst3, wp_lst4, wp_lst5, wp_lst6, wp_lst7, wp_lst8, wp_lst9, wp_lst10, wp_lst11, wp_lst12, wp_bd, wp_lc, ql_nx, ql_ct, ql_bk, ql_rt, iSeq, iEnu, Mir.iRev, chkR, chkT, chkO, lstO, wp_some, wp_ite, wp_none, bd_some, eVar, eC, eOp, eUn, eFn, eMt, aNil, aCons,  eAnd, eOr, eNot, eIf, eIsi, eChain, bTest, bTruth, bAnd, bOr, bNot, bYes, eSl, pNo, pAt, eRinA, eRinB, eDnew, eDin, eDget, eDget2, tgM_name, tgM_tup, tgMs_nil, tgMs_name, tgMs_tup, List.getElem?_cons_succ, List.getElem?_cons_zero, List.set_cons_succ, List.set_cons_zero, List.map_cons, List.map_nil, List.length_cons, List.length_nil, List.replicate, List.nil_append, List.cons_append, if_true, if_false, Bool.false_eq_true, Bool.true_eq_false, Nat.reduceAdd, Nat.reduceSub, Nat.reduceLeDiff, Nat.zero_add, Bool.not_true, Bool.not_false, nc0, nc1, nc2, nc3, not_true_eq_false, not_false_eq_true, ii, addI, subI, negI, int1, eqI, neI, eqS, neS, ix0, ix1, ix2, ix3, decide_eq_true_eq, Bool.not_eq_true', decide_eq_false_iff_not, truB, truN, keyI, keyS, lenT, wipeM, wp_fld, wp_meth, wp_make, wpx_eL, wpx_sL, wpx_cons, kx_nx, kx_rt, kx_xc, wpx_if, wpx_raise, wpx_set, wpx_do, wpx_ret, vx_l, vx_r, wpx_op, gx_l, gx_r, wpx_put, px_l, px_r, wpx_meth, wpx_fn, exk_rt, exk_nx, exk_xc, wp_dn, tx_nx, tx_rt, tx_xc, txa_nx, txa_rt, txa_xc, gn s' M w3.md en, gtI, q0, decide_true]
      refine dr w3.T n (by omega) (by omega) fun i s4 hi T4 f4 l4 => ?_
      have w4 := w3.fr T4 f4
      repeat first | with_reducible refine Eq.mpr wps_cons ?_ | with_reducible refine Eq.mpr wps_pass ?_ | with_reducible refine Eq.mpr wps_nil ?_ | with_reducible refine Eq.mpr wps_set ?_ | with_reducible refine Eq.mpr wps_do ?_ | with_reducible refine Eq.mpr wps_ret ?_ | with_reducible refine Eq.mpr wps_retN ?_ | with_reducible refine Eq.mpr wps_brk ?_ | with_reducible refine Eq.mpr wps_cnt ?_ | with_reducible refine Eq.mpr wps_if ?_ | with_reducible refine Eq.mpr wps_asg ?_ | with_reducible refine wps_asgL ?_ | with_reducible refine Eq.mpr wps_put ?_ | with_reducible refine Eq.mpr wps_dput ?_ | with_reducible refine Eq.mpr wps_aug ?_ | with_reducible refine Eq.mpr wps_par ?_ | with_reducible refine Eq.mpr wps_for ?_ | with_reducible refine Eq.mpr wps_wh ?_ | with_reducible refine Eq.mpr wps_fld ?_ | with_reducible refine Eq.mpr wps_try ?_ | with_reducible refine Eq.mpr wps_tryAs ?_ | simp only [wp_tup0, wp_tup1, wp_tup2, wp_tup3, wp_tup4, wp_tup5, wp_tup6, wp_tup7, wp_lst0, wp_lst1, wp_lst2, wp_lst3, wp_lst4, wp_lst5, wp_lst6, wp_lst7, wp_lst8, wp_lst9, wp_lst10, wp_lst11, wp_lst12, wp_bd, wp_lc, ql_nx, ql_ct, ql_bk, ql_rt, iSeq, iEnu, Mir.iRev, chkR, chkT, chkO, lstO, wp_some, wp_ite, wp_none, bd_some, eVar, eC, eOp, eUn, eFn, eMt, aNil, aCons,  eAnd, eOr, eNot, eIf, eIsi, eChain, bTest, bTruth, bAnd, bOr, bNot, bYes, eSl, pNo, pAt, eRinA, eRinB, eDnew, eDin, eDget, eDget2, tgM_name, tgM_tup, tgMs_nil, tgMs_name, tgMs_tup, List.getElem?_cons_succ, List.getElem?_cons_zero, List.set_cons_succ, List.set_cons_zero, List.map_cons, List.map_nil, List.length_cons, List.length_nil, List.replicate, List.nil_append, List.cons_append, if_true, if_false, Bool.false_eq_true, Bool.true_eq_false, Nat.reduceAdd, Nat.reduceSub, Nat.reduceLeDiff, Nat.zero_add, Bool.not_true, Bool.not_false, nc0, nc1, nc2, nc3, not_true_eq_false, not_false_eq_true, ii, addI, subI, negI, int1, eqI, neI, eqS, neS, ix0, ix1, ix2, ix3, decide_eq_true_eq, Bool.not_eq_true', decide_eq_false_iff_not, truB, truN, keyI, keyS, lenT, wipeM, wp_fld, wp_meth, wp_make, wpx_eL, wpx_sL, wpx_cons, kx_nx, kx_rt, kx_xc, wpx_if, wpx_raise, wpx_set, wpx_do, wpx_ret, vx_l, vx_r, wpx_op, gx_l, gx_r, wpx_put, px_l, px_r, wpx_meth, wpx_fn, exk_rt, exk_nx, exk_xc, wp_dn, tx_nx, tx_rt, tx_xc, txa_nx, txa_rt, txa_xc]
      refine lw_ok w4.T w4.bl (by decide) hB fun v s5 T5 f5 l5 => ?_
      have w5 := w4.fr T5 f5
      have zi : ((b' : Int) + 4 + (i : Int)) = ((b' + 4 + i : Nat) : Int) := by omega
      have pt : setAt (.ref 8) (.int ((b' : Int) + 4 + (i : Int))) (.int v) s5 = some (s5.set 8 (.lst (wi (M.set (b' + 4 + i) v)))) := by
        rw [zi, putL w5.md (by rw [List.length_map]; omega)]
        rw [wi, wi, List.map_set]
      repeat first | with_reducible refine Eq.mpr wps_cons ?_ | with_reducible refine Eq.mpr wps_pass ?_ | with_reducible refine Eq.mpr wps_nil ?_ | with_reducible refine Eq.mpr wps_set ?_ | with_reducible refine Eq.mpr wps_do ?_ | with_reducible refine Eq.mpr wps_ret ?_ | with_reducible refine Eq.mpr wps_retN ?_ | with_reducible refine Eq.mpr wps_brk ?_ | with_reducible refine Eq.mpr wps_cnt ?_ | with_reducible refine Eq.mpr wps_if ?_ | with_reducible refine Eq.mpr wps_asg ?_ | with_reducible refine wps_asgL ?_ | with_reducible refine Eq.mpr wps_put ?_ | with_reducible refine Eq.mpr wps_dput ?_ | with_reducible refine Eq.mpr wps_aug ?_ | with_reducible refine Eq.mpr wps_par ?_ | with_reducible refine Eq.mpr wps_for ?_ | with_reducible refine Eq.mpr wps_wh ?_ | with_reducible refine Eq.mpr wps_fld ?_ | with_reducible refine Eq.mpr wps_try ?_ | with_reducible refine Eq.mpr wps_tryAs ?_ | simp only [wp_tup0, wp_tup1, wp_tup2, wp_tup3, wp_tup4, wp_tup5, wp_tup6, wp_tup7, wp_lst0, wp_lst1, wp_lst2, wp_lst3, wp_lst4, wp_lst5, wp_lst6, wp_lst7, wp_lst8, wp_lst9, wp_lst10, wp_lst11, wp_lst12, wp_bd, wp_lc, ql_nx, ql_ct, ql_bk, ql_rt, iSeq, iEnu, Mir.iRev, chkR, chkT, chkO, lstO, wp_some, wp_ite, wp_none, bd_some, eVar, eC, eOp, eUn, eFn, eMt, aNil, aCons,  eAnd, eOr, eNot, eIf, eIsi, eChain, bTest, bTruth, bAnd, bOr, bNot, bYes, eSl, pNo, pAt, eRinA, eRinB, eDnew, eDin, eDget, eDget2, tgM_name, tgM_tup, tgMs_nil, tgMs_name, tgMs_tup, List.getElem?_cons_succ, List.getElem?_cons_zero, List.set_cons_succ, List.set_cons_zero, List.map_cons, List.map_nil, List.length_cons, List.length_nil, List.replicate, List.nil_append, List.cons_append, if_true, if_false, Bool.false_eq_true, Bool.true_eq_false, Nat.reduceAdd, Nat.reduceSub, Nat.reduceLeDiff, Nat.zero_add, Bool.not_true, Bool.not_false, nc0, nc1, nc2, nc3, not_true_eq_false, not_false_eq_true, ii, addI, subI, negI, int1, eqI, neI, eqS, neS, ix0, ix1, ix2, ix3, decide_eq_true_eq, Bool.not_eq_true', decide_eq_false_iff_not, truB, truN, keyI, keyS, lenT, wipeM, wp_fld, wp_meth, wp_make, wpx_eL, wpx_sL, wpx_cons, kx_nx, kx_rt, kx_xc, wpx_if, wpx_raise, wpx_set, wpx_do, wpx_ret, vx_l, vx_r, wpx_op, gx_l, gx_r, wpx_put, px_l, px_r, wpx_meth, wpx_fn, exk_rt, exk_nx, exk_xc, wp_dn, tx_nx, tx_rt, tx_xc, txa_nx, txa_rt, txa_xc, pt]
      obtain ⟨s6, es6⟩ : ∃ s6, s6 = s5.set 8 (O.lst (wi (M.set (b' + 4 + i) v))) := ⟨_, rfl⟩
      rw [← es6]
      have f56 : Fr [8] s5 s6 := by rw [es6]; exact .set (by simp)
      have h6 : Ht s6 2 3 4 (c : Int) M B := w5.h.fr f56 (by decide) (by decide) (by decide)
      have m6 : s6[8]? = some (.lst (wi (M.set (b' + 4 + i) v))) := by rw [es6, getset w5.md]
      have hv6 : (M.set (b' + 4 + i) v)[b' + 4 + i]? = some v := by rw [List.getElem?_set_self (by omega)]
      have g6 : gIx (.ref 8) (.int ((b' : Int) + 4 + (i : Int))) s6 = some (.int v, s6) := by rw [zi]; exact ixI m6 hv6
      repeat first | with_reducible refine Eq.mpr wps_cons ?_ | with_reducible refine Eq.mpr wps_pass ?_ | with_reducible refine Eq.mpr wps_nil ?_ | with_reducible refine Eq.mpr wps_set ?_ | with_reducible refine Eq.mpr wps_do ?_ | with_reducible refine Eq.mpr wps_ret ?_ | with_reducible refine Eq.mpr wps_retN ?_ | with_reducible refine Eq.mpr wps_brk ?_ | with_reducible refine Eq.mpr wps_cnt ?_ | with_reducible refine Eq.mpr wps_if ?_ | with_reducible refine Eq.mpr wps_asg ?_ | with_reducible refine wps_asgL ?_ | with_reducible refine Eq.mpr wps_put ?_ | with_reducible refine Eq.mpr wps_dput ?_ | with_reducible refine Eq.mpr wps_aug ?_ | with_reducible refine Eq.mpr wps_par ?_ | with_reducible refine Eq.mpr wps_for ?_ | with_reducible refine Eq.mpr wps_wh ?_ | with_reducible refine Eq.mpr wps_fld ?_ | with_reducible refine Eq.mpr wps_try ?_ | with_reducible refine Eq.mpr wps_tryAs ?_ | simp only [wp_tup0, wp_tup1, wp_tup2, wp_tup3, wp_tup4, wp_tup5, wp_tup6, wp_tup7, wp_lst0, wp_lst1, wp_lst2, wp_lst3, wp_lst4, wp_lst5, wp_lst6, wp_lst7, wp_lst8, wp_lst9, wp_lst10, wp_lst11, wp_lst12, wp_bd, wp_lc, ql_nx, ql_ct, ql_bk, ql_rt, iSeq, iEnu, Mir.iRev, chkR, chkT, chkO, lstO, wp_some, wp_ite, wp_none, bd_some, eVar, eC, eOp, eUn, eFn, eMt, aNil, aCons,  eAnd, eOr, eNot, eIf, eIsi, eChain, bTest, bTruth, bAnd, bOr, bNot, bYes, eSl, pNo, pAt, eRinA, eRinB, eDnew, eDin, eDget, eDget2, tgM_name, tgM_tup, tgMs_nil, tgMs_name, tgMs_tup, List.getElem?_cons_succ, List.getElem?_cons_zero, List.set_cons_succ, List.set_cons_zero, List.map_cons, List.map_nil, List.length_cons, List.length_nil, List.replicate, List.nil_append, List.cons_append, if_true, if_false, Bool.false_eq_true, Bool.true_eq_false, Nat.reduceAdd, Nat.reduceSub, Nat.reduceLeDiff, Nat.zero_add, Bool.not_true, Bool.not_false, nc0, nc1, nc2, nc3, not_true_eq_false, not_false_eq_true, ii, addI, subI, negI, int1, eqI, neI, eqS, neS, ix0, ix1, ix2, ix3, decide_eq_true_eq, Bool.not_eq_true', decide_eq_false_iff_not, truB, truN, keyI, keyS, lenT, wipeM, wp_fld, wp_meth, wp_make, wpx_eL, wpx_sL, wpx_cons, kx_nx, kx_rt, kx_xc, wpx_if, wpx_raise, wpx_set, wpx_do, wpx_ret, vx_l, vx_r, wpx_op, gx_l, gx_r, wpx_put, px_l, px_r, wpx_meth, wpx_fn, exk_rt, exk_nx, exk_xc, wp_dn, tx_nx, tx_rt, tx_xc, txa_nx, txa_rt, txa_xc, h6.iM (m := "store_field"), g6]
      refine sf_ok h6 w5.o (fun b1 n1 j1 hb1 ew1 en1 ej1 hj1 => ?_) (fun hbad => absurd hi (hbad b' n i hb rfl en rfl))
      have e1 : b1 = b' := by omega
      have e2 : j1 = i := by omega
      subst e1 e2
      obtain ⟨s7, es7⟩ : ∃ s7, s7 = s6.set 3 (O.lst (wi (M.set (b1 + 4 + j1) v))) := ⟨_, rfl⟩
      rw [← es7]
      have m7 : s7[8]? = some (.lst (wi (M.set (b1 + 4 + j1) v))) := by rw [es7, getne (by decide)]; exact m6
      have m73 : s7[3]? = some (.lst (wi (M.set (b1 + 4 + j1) v))) := by rw [es7, getset h6.wds]
      have f57 : Fr [3, 8] s5 s7 := (f56.mono (by simp)).trans (by rw [es7]; exact .set (by simp))
      have w7 := w5.put (v := v) hb1 en hi m73 m7 f57
      have g7 : gIx (.ref 8) (.int ((b1 : Int) + 4 + (j1 : Int))) s7 = some (.int v, s7) := by rw [zi]; exact ixI m7 hv6
      repeat first | with_reducible refine Eq.mpr wps_cons ?_ | with_reducible refine Eq.mpr wps_pass ?_ | with_reducible refine Eq.mpr wps_nil ?_ | with_reducible refine Eq.mpr wps_set ?_ | with_reducible refine Eq.mpr wps_do ?_ | with_reducible refine Eq.mpr wps_ret ?_ | with_reducible refine Eq.mpr wps_retN ?_ | with_reducible refine Eq.mpr wps_brk ?_ | with_reducible refine Eq.mpr wps_cnt ?_ | with_reducible refine Eq.mpr wps_if ?_ | with_reducible refine Eq.mpr wps_asg ?_ | with_reducible refine wps_asgL ?_ | with_reducible refine Eq.mpr wps_put ?_ | with_reducible refine Eq.mpr wps_dput ?_ | with_reducible refine Eq.mpr wps_aug ?_ | with_reducible refine Eq.mpr wps_par ?_ | with_reducible refine Eq.mpr wps_for ?_ | with_reducible refine Eq.mpr wps_wh ?_ | with_reducible refine Eq.mpr wps_fld ?_ | with_reducible refine Eq.mpr wps_try ?_ | with_reducible refine Eq.mpr wps_tryAs ?_ | simp only [wp_tup0, wp_tup1, wp_tup2, wp_tup3, wp_tup4, wp_tup5, wp_tup6, wp_tup7, wp_lst0, wp_lst1, wp_lst2, wp_lst3, wp_lst4, wp_lst5, wp_lst6, wp_lst7, wp_lst8, wp_lst9, wp_lst10, wp_lst11, wp_lst12, wp_bd, wp_lc, ql_nx, ql_ct, ql_bk, ql_rt, iSeq, iEnu, Mir.iRev, chkR, chkT, chkO, lstO, wp_some, wp_ite, wp_none, bd_some, eVar, eC, eOp, eUn, eFn, eMt, aNil, aCons,  eAnd, eOr, eNot, eIf, eIsi, eChain, bTest, bTruth, bAnd, bOr, bNot, bYes, eSl, pNo, pAt, eRinA, eRinB, eDnew, eDin, eDget, eDget2, tgM_name, tgM_tup, tgMs_nil, tgMs_name, tgMs_tup, List.getElem?_cons_succ, List.getElem?_cons_zero, List.set_cons_succ, List.set_cons_zero, List.map_cons, List.map_nil, List.length_cons, List.length_nil, List.replicate, List.nil_append, List.cons_append, if_true, if_false, Bool.false_eq_true, Bool.true_eq_false, Nat.reduceAdd, Nat.reduceSub, Nat.reduceLeDiff, Nat.zero_add, Bool.not_true, Bool.not_false, nc0, nc1, nc2, nc3, not_true_eq_false, not_false_eq_true, ii, addI, subI, negI, int1, eqI, neI, eqS, neS, ix0, ix1, ix2, ix3, decide_eq_true_eq, Bool.not_eq_true', decide_eq_false_iff_not, truB, truN, keyI, keyS, lenT, wipeM, wp_fld, wp_meth, wp_make, wpx_eL, wpx_sL, wpx_cons, kx_nx, kx_rt, kx_xc, wpx_if, wpx_raise, wpx_set, wpx_do, wpx_ret, vx_l, vx_r, wpx_op, gx_l, gx_r, wpx_put, px_l, px_r, wpx_meth, wpx_fn, exk_rt, exk_nx, exk_xc, wp_dn, tx_nx, tx_rt, tx_xc, txa_nx, txa_rt, txa_xc, w7.h.iM (m := "field")]
      have en7 : (M.set (b1 + 4 + j1) v)[b1 + 3]? = some (n : Int) := by rw [List.getElem?_set_ne (by omega)]; exact en
      refine fd_ok w7.h w7.o (fun b2 n2 j2 v2 hb2 ew2 en2 ej2 hj2 ev2 => ?_) (fun hbad => absurd hi (hbad b1 n j1 hb1 rfl en7 rfl))
      have e3 : b2 = b1 := by omega
      have e4 : j2 = j1 := by omega
      subst e3 e4
      have e5 : v2 = v := by rw [hv6] at ev2; exact (Option.some.inj ev2).symm
      subst e5
      repeat first | with_reducible refine Eq.mpr wps_cons ?_ | with_reducible refine Eq.mpr wps_pass ?_ | with_reducible refine Eq.mpr wps_nil ?_ | with_reducible refine Eq.mpr wps_set ?_ | with_reducible refine Eq.mpr wps_do ?_ | with_reducible refine Eq.mpr wps_ret ?_ | with_reducible refine Eq.mpr wps_retN ?_ | with_reducible refine Eq.mpr wps_brk ?_ | with_reducible refine Eq.mpr wps_cnt ?_ | with_reducible refine Eq.mpr wps_if ?_ | with_reducible refine Eq.mpr wps_asg ?_ | with_reducible refine wps_asgL ?_ | with_reducible refine Eq.mpr wps_put ?_ | with_reducible refine Eq.mpr wps_dput ?_ | with_reducible refine Eq.mpr wps_aug ?_ | with_reducible refine Eq.mpr wps_par ?_ | with_reducible refine Eq.mpr wps_for ?_ | with_reducible refine Eq.mpr wps_wh ?_ | with_reducible refine Eq.mpr wps_fld ?_ | with_reducible refine Eq.mpr wps_try ?_ | with_reducible refine Eq.mpr wps_tryAs ?_ | simp only [wp_tup0, wp_tup1, wp_tup2, wp_tup3, wp_tup4, wp_tup5, wp_tup6, wp_tup7, wp_lst0, wp_lst1, wp_lst2, wp_lst3, wp_lst4, wp_lst5, wp_lst6, wp_lst7, wp_lst8, wp_lst9, wp_lst10, wp_lst11, wp_lst12, wp_bd, wp_lc, ql_nx, ql_ct, ql_bk, ql_rt, iSeq, iEnu, Mir.iRev, chkR, chkT, chkO, lstO, wp_some, wp_ite, wp_none, bd_some, eVar, eC, eOp, eUn, eFn, eMt, aNil, aCons,  eAnd, eOr, eNot, eIf, eIsi, eChain, bTest, bTruth, bAnd, bOr, bNot, bYes, eSl, pNo, pAt, eRinA, eRinB, eDnew, eDin, eDget, eDget2, tgM_name, tgM_tup, tgMs_nil, tgMs_name, tgMs_tup, List.getElem?_cons_succ, List.getElem?_cons_zero, List.set_cons_succ, List.set_cons_zero, List.map_cons, List.map_nil, List.length_cons, List.length_nil, List.replicate, List.nil_append, List.cons_append, if_true, if_false, Bool.false_eq_true, Bool.true_eq_false, Nat.reduceAdd, Nat.reduceSub, Nat.reduceLeDiff, Nat.zero_add, Bool.not_true, Bool.not_false, nc0, nc1, nc2, nc3, not_true_eq_false, not_false_eq_true, ii, addI, subI, negI, int1, eqI, neI, eqS, neS, ix0, ix1, ix2, ix3, decide_eq_true_eq, Bool.not_eq_true', decide_eq_false_iff_not, truB, truN, keyI, keyS, lenT, wipeM, wp_fld, wp_meth, wp_make, wpx_eL, wpx_sL, wpx_cons, kx_nx, kx_rt, kx_xc, wpx_if, wpx_raise, wpx_set, wpx_do, wpx_ret, vx_l, vx_r, wpx_op, gx_l, gx_r, wpx_put, px_l, px_r, wpx_meth, wpx_fn, exk_rt, exk_nx, exk_xc, wp_dn, tx_nx, tx_rt, tx_xc, txa_nx, txa_rt, txa_xc, g7, neI, decide_true]
      exact ⟨_, _, w7, en7, rfl⟩
    · repeat first | with_reducible refine Eq.mpr wps_cons ?_ | with_reducible refine Eq.mpr wps_pass ?_ | with_reducible refine Eq.mpr wps_nil ?_ | with_reducible refine Eq.mpr wps_set ?_ | with_reducible refine Eq.mpr wps_do ?_ | with_reducible refine Eq.mpr wps_ret ?_ | with_reducible refine Eq.mpr wps_retN ?_ | with_reducible refine Eq.mpr wps_brk ?_ | with_reducible refine Eq.mpr wps_cnt ?_ | with_reducible refine Eq.mpr wps_if ?_ | with_reducible refine Eq.mpr wps_asg ?_ | with_reducible refine wps_asgL ?_ | with_reducible refine Eq.mpr wps_put ?_ | with_reducible refine Eq.mpr wps_dput ?_ | with_reducible refine Eq.mpr wps_aug ?_ | with_reducible refine Eq.mpr wps_par ?_ | with_reducible refine Eq.mpr wps_for ?_ | with_reducible refine Eq.mpr wps_wh ?_ | with_reducible refine Eq.mpr wps_fld ?_ | with_reducible refine Eq.mpr wps_try ?_ | with_reducible refine Eq.mpr wps_tryAs ?_ | simp only [wp_tup0, wp_tup1, wp_tup2, wp_tup3, wp_tup4, wp_tup5, wp_tup6, wp_tup7, wp_lst0, wp_lst1, wp_lst2, wp_lst3, wp_lst4, wp_lst5, wp_lst6, wp_lst7, wp_lst8, wp_lst9, wp_lst10, wp_lst11, wp_lst12, wp_bd, wp_lc, ql_nx, ql_ct, ql_bk, ql_rt, iSeq, iEnu, Mir.iRev, chkR, chkT, chkO, lstO, wp_some, wp_ite, wp_none, bd_some, eVar, eC, eOp, eUn, eFn, eMt, aNil, aCons,  eAnd, eOr, eNot, eIf, eIsi, eChain, bTest, bTruth, bAnd, bOr, bNot, bYes, eSl, pNo, pAt, eRinA, eRinB, eDnew, eDin, eDget, eDget2, tgM_name, tgM_tup, tgMs_nil, tgMs_name, tgMs_tup, List.getElem?_cons_succ, List.getElem?_cons_zero, List.set_cons_succ, List.set_cons_zero, List.map_cons, List.map_nil, List.length_cons, List.length_nil, List.replicate, List.nil_append, List.cons_append, if_true, if_false, Bool.false_eq_true, Bool.true_eq_false, Nat.reduceAdd, Nat.reduceSub, Nat.reduceLeDiff, Nat.zero_add, Bool.not_true, Bool.not_false, nc0, nc1, nc2, nc3, not_true_eq_false, not_false_eq_true, ii, addI, subI, negI, int1, eqI, neI, eqS, neS, ix0, ix1, ix2, ix3, decide_eq_true_eq, Bool.not_eq_true', decide_eq_false_iff_not, truB, truN, keyI, keyS, lenT, wipeM, wp_fld, wp_meth, wp_make, wpx_eL, wpx_sL, wpx_cons, kx_nx, kx_rt, kx_xc, wpx_if, wpx_raise, wpx_set, wpx_do, wpx_ret, vx_l, vx_r, wpx_op, gx_l, gx_r, wpx_put, px_l, px_r, wpx_meth, wpx_fn, exk_rt, exk_nx, exk_xc, wp_dn, tx_nx, tx_rt, tx_xc, txa_nx, txa_rt, txa_xc, gn s' M w3.md en, gtI, q0, decide_false]
      exact ⟨_, _, w3, en, rfl⟩
  · rintro ρ1 s4 ⟨M', v7, w4, en4, rfl⟩
    have lm : gLen [.ref 8] s4 = some (.int (M'.length : Int), s4) := by rw [lenL w4.md, List.length_map]
    repeat first | with_reducible refine Eq.mpr wps_cons ?_ | with_reducible refine Eq.mpr wps_pass ?_ | with_reducible refine Eq.mpr wps_nil ?_ | with_reducible refine Eq.mpr wps_set ?_ | with_reducible refine Eq.mpr wps_do ?_ | with_reducible refine Eq.mpr wps_ret ?_ | with_reducible refine Eq.mpr wps_retN ?_ | with_reducible refine Eq.mpr wps_brk ?_ | with_reducible refine Eq.mpr wps_cnt ?_ | with_reducible refine Eq.mpr wps_if ?_ | with_reducible refine Eq.mpr wps_asg ?_ | with_reducible refine wps_asgL ?_ | with_reducible refine Eq.mpr wps_put ?_ | with_reducible refine Eq.mpr wps_dput ?_ | with_reducible refine Eq.mpr wps_aug ?_ | with_reducible refine Eq.mpr wps_par ?_ | with_reducible refine Eq.mpr wps_for ?_ | with_reducible refine Eq.mpr wps_wh ?_ | with_reducible refine Eq.mpr wps_fld ?_ | with_reducible refine Eq.mpr wps_try ?_ | with_reducible refine Eq.mpr wps_tryAs ?_ | simp only [wp_tup0, wp_tup1, wp_tup2, wp_tup3, wp_tup4, wp_tup5, wp_tup6, wp_tup7, wp_lst0, wp_lst1, wp_lst2, wp_lst3, wp_lst4, wp_lst5, wp_lst6, wp_lst7, wp_lst8, wp_lst9, wp_lst10, wp_lst11, wp_lst12, wp_bd, wp_lc, ql_nx, ql_ct, ql_bk, ql_rt, iSeq, iEnu, Mir.iRev, chkR, chkT, chkO, lstO, wp_some, wp_ite, wp_none, bd_some, eVar, eC, eOp, eUn, eFn, eMt, aNil, aCons,  eAnd, eOr, eNot, eIf, eIsi, eChain, bTest, bTruth, bAnd, bOr, bNot, bYes, eSl, pNo, pAt, eRinA, eRinB, eDnew, eDin, eDget, eDget2, tgM_name, tgM_tup, tgMs_nil, tgMs_name, tgMs_tup, List.getElem?_cons_succ, List.getElem?_cons_zero, List.set_cons_succ, List.set_cons_zero, List.map_cons, List.map_nil, List.length_cons, List.length_nil, List.replicate, List.nil_append, List.cons_append, if_true, if_false, Bool.false_eq_true, Bool.true_eq_false, Nat.reduceAdd, Nat.reduceSub, Nat.reduceLeDiff, Nat.zero_add, Bool.not_true, Bool.not_false, nc0, nc1, nc2, nc3, not_true_eq_false, not_false_eq_true, ii, addI, subI, negI, int1, eqI, neI, eqS, neS, ix0, ix1, ix2, ix3, decide_eq_true_eq, Bool.not_eq_true', decide_eq_false_iff_not, truB, truN, keyI, keyS, lenT, wipeM, wp_fld, wp_meth, wp_make, wpx_eL, wpx_sL, wpx_cons, kx_nx, kx_rt, kx_xc, wpx_if, wpx_raise, wpx_set, wpx_do, wpx_ret, vx_l, vx_r, wpx_op, gx_l, gx_r, wpx_put, px_l, px_r, wpx_meth, wpx_fn, exk_rt, exk_nx, exk_xc, wp_dn, tx_nx, tx_rt, tx_xc, txa_nx, txa_rt, txa_xc, m4, lm]
    obtain ⟨s5, es5⟩ : ∃ s5, s5 = s4 ++ [O.lst [.int (4 * (b' : Int)), .int (4 * (b' : Int) + 2), .int 3, .int (4 * ((b' : Int) + 1) + 1), .int (4 * (M'.length : Int) + 1), .int (-3)]] := ⟨_, rfl⟩
    rw [← es5]
    have w5 : Wd s5 cs c M' B := by rw [es5]; exact w4.app
    have n5 : s5[s4.length]? = some (.lst (wi [4 * (b' : Int), 4 * (b' : Int) + 2, 3, 4 * ((b' : Int) + 1) + 1, 4 * (M'.length : Int) + 1, -3])) := by rw [es5]; exact gnew
    have l9 : s4.length ≠ 1 := by have := gltn w4.bl; omega
    refine dr w5.T 6 (by decide) (by decide) fun y s6 hy T6 f6 l6 => ?_
    have w6 := w5.fr T6 f6
    have n6 := f6.at_ _ _ (by simpa using l9) n5
    obtain ⟨v, hv6⟩ : ∃ v, [4 * (b' : Int), 4 * (b' : Int) + 2, 3, 4 * ((b' : Int) + 1) + 1, 4 * (M'.length : Int) + 1, -3][y]? = some v := ⟨_, List.getElem?_eq_getElem (by simpa using hy)⟩
    repeat first | with_reducible refine Eq.mpr wps_cons ?_ | with_reducible refine Eq.mpr wps_pass ?_ | with_reducible refine Eq.mpr wps_nil ?_ | with_reducible refine Eq.mpr wps_set ?_ | with_reducible refine Eq.mpr wps_do ?_ | with_reducible refine Eq.mpr wps_ret ?_ | with_reducible refine Eq.mpr wps_retN ?_ | with_reducible refine Eq.mpr wps_brk ?_ | with_reducible refine Eq.mpr wps_cnt ?_ | with_reducible refine Eq.mpr wps_if ?_ | with_reducible refine Eq.mpr wps_asg ?_ | with_reducible refine wps_asgL ?_ | with_reducible refine Eq.mpr wps_put ?_ | with_reducible refine Eq.mpr wps_dput ?_ | with_reducible refine Eq.mpr wps_aug ?_ | with_reducible refine Eq.mpr wps_par ?_ | with_reducible refine Eq.mpr wps_for ?_ | with_reducible refine Eq.mpr wps_wh ?_ | with_reducible refine Eq.mpr wps_fld ?_ | with_reducible refine Eq.mpr wps_try ?_ | with_reducible refine Eq.mpr wps_tryAs ?_ | simp only [wp_tup0, wp_tup1, wp_tup2, wp_tup3, wp_tup4, wp_tup5, wp_tup6, wp_tup7, wp_lst0, wp_lst1, wp_lst2, wp_lst3, wp_lst4, wp_lst5, wp_lst6, wp_lst7, wp_lst8, wp_lst9, wp_lst10, wp_lst11, wp_lst12, wp_bd, wp_lc, ql_nx, ql_ct, ql_bk, ql_rt, iSeq, iEnu, Mir.iRev, chkR, chkT, chkO, lstO, wp_some, wp_ite, wp_none, bd_some, eVar, eC, eOp, eUn, eFn, eMt, aNil, aCons,  eAnd, eOr, eNot, eIf, eIsi, eChain, bTest, bTruth, bAnd, bOr, bNot, bYes, eSl, pNo, pAt, eRinA, eRinB, eDnew, eDin, eDget, eDget2, tgM_name, tgM_tup, tgMs_nil, tgMs_name, tgMs_tup, List.getElem?_cons_succ, List.getElem?_cons_zero, List.set_cons_succ, List.set_cons_zero, List.map_cons, List.map_nil, List.length_cons, List.length_nil, List.replicate, List.nil_append, List.cons_append, if_true, if_false, Bool.false_eq_true, Bool.true_eq_false, Nat.reduceAdd, Nat.reduceSub, Nat.reduceLeDiff, Nat.zero_add, Bool.not_true, Bool.not_false, nc0, nc1, nc2, nc3, not_true_eq_false, not_false_eq_true, ii, addI, subI, negI, int1, eqI, neI, eqS, neS, ix0, ix1, ix2, ix3, decide_eq_true_eq, Bool.not_eq_true', decide_eq_false_iff_not, truB, truN, keyI, keyS, lenT, wipeM, wp_fld, wp_meth, wp_make, wpx_eL, wpx_sL, wpx_cons, kx_nx, kx_rt, kx_xc, wpx_if, wpx_raise, wpx_set, wpx_do, wpx_ret, vx_l, vx_r, wpx_op, gx_l, gx_r, wpx_put, px_l, px_r, wpx_meth, wpx_fn, exk_rt, exk_nx, exk_xc, wp_dn, tx_nx, tx_rt, tx_xc, txa_nx, txa_rt, txa_xc, ixI n6 hv6]
    have nb := no_blk w6.o hb hv6
    refine rf_ok w6.h w6.o (fun _ => ?_) (fun b1 n1 hb1 ew => absurd ew (nb b1 hb1)) (.inl nb)
    repeat first | with_reducible refine Eq.mpr wps_cons ?_ | with_reducible refine Eq.mpr wps_pass ?_ | with_reducible refine Eq.mpr wps_nil ?_ | with_reducible refine Eq.mpr wps_set ?_ | with_reducible refine Eq.mpr wps_do ?_ | with_reducible refine Eq.mpr wps_ret ?_ | with_reducible refine Eq.mpr wps_retN ?_ | with_reducible refine Eq.mpr wps_brk ?_ | with_reducible refine Eq.mpr wps_cnt ?_ | with_reducible refine Eq.mpr wps_if ?_ | with_reducible refine Eq.mpr wps_asg ?_ | with_reducible refine wps_asgL ?_ | with_reducible refine Eq.mpr wps_put ?_ | with_reducible refine Eq.mpr wps_dput ?_ | with_reducible refine Eq.mpr wps_aug ?_ | with_reducible refine Eq.mpr wps_par ?_ | with_reducible refine Eq.mpr wps_for ?_ | with_reducible refine Eq.mpr wps_wh ?_ | with_reducible refine Eq.mpr wps_fld ?_ | with_reducible refine Eq.mpr wps_try ?_ | with_reducible refine Eq.mpr wps_tryAs ?_ | simp only [wp_tup0, wp_tup1, wp_tup2, wp_tup3, wp_tup4, wp_tup5, wp_tup6, wp_tup7, wp_lst0, wp_lst1, wp_lst2, wp_lst3, wp_lst4, wp_lst5, wp_lst6, wp_lst7, wp_lst8, wp_lst9, wp_lst10, wp_lst11, wp_lst12, wp_bd, wp_lc, ql_nx, ql_ct, ql_bk, ql_rt, iSeq, iEnu, Mir.iRev, chkR, chkT, chkO, lstO, wp_some, wp_ite, wp_none, bd_some, eVar, eC, eOp, eUn, eFn, eMt, aNil, aCons,  eAnd, eOr, eNot, eIf, eIsi, eChain, bTest, bTruth, bAnd, bOr, bNot, bYes, eSl, pNo, pAt, eRinA, eRinB, eDnew, eDin, eDget, eDget2, tgM_name, tgM_tup, tgMs_nil, tgMs_name, tgMs_tup, List.getElem?_cons_succ, List.getElem?_cons_zero, List.set_cons_succ, List.set_cons_zero, List.map_cons, List.map_nil, List.length_cons, List.length_nil, List.replicate, List.nil_append, List.cons_append, if_true, if_false, Bool.false_eq_true, Bool.true_eq_false, Nat.reduceAdd, Nat.reduceSub, Nat.reduceLeDiff, Nat.zero_add, Bool.not_true, Bool.not_false, nc0, nc1, nc2, nc3, not_true_eq_false, not_false_eq_true, ii, addI, subI, negI, int1, eqI, neI, eqS, neS, ix0, ix1, ix2, ix3, decide_eq_true_eq, Bool.not_eq_true', decide_eq_false_iff_not, truB, truN, keyI, keyS, lenT, wipeM, wp_fld, wp_meth, wp_make, wpx_eL, wpx_sL, wpx_cons, kx_nx, kx_rt, kx_xc, wpx_if, wpx_raise, wpx_set, wpx_do, wpx_ret, vx_l, vx_r, wpx_op, gx_l, gx_r, wpx_put, px_l, px_r, wpx_meth, wpx_fn, exk_rt, exk_nx, exk_xc, wp_dn, tx_nx, tx_rt, tx_xc, txa_nx, txa_rt, txa_xc, eqI, decide_true, truB, gn s6 M' w6.md en4]
    refine rf_ok w6.h w6.o (fun z => absurd rfl (z b' hb)) (fun b1 n1 hb1 ew1 en1 hi1 s7 f7 => ?_) (.inr ⟨b', n, hb, rfl, en4, by omega⟩)
    have w7 := w6.fr ⟨by obtain ⟨a, b, d, x, e⟩ := w6.T.tape; exact ⟨a, b, d, x, f7.at_ _ _ (by simp) e⟩, f7.at_ _ _ (by simp) w6.T.cells⟩ (f7.mono (by simp))
    repeat first | with_reducible refine Eq.mpr wps_cons ?_ | with_reducible refine Eq.mpr wps_pass ?_ | with_reducible refine Eq.mpr wps_nil ?_ | with_reducible refine Eq.mpr wps_set ?_ | with_reducible refine Eq.mpr wps_do ?_ | with_reducible refine Eq.mpr wps_ret ?_ | with_reducible refine Eq.mpr wps_retN ?_ | with_reducible refine Eq.mpr wps_brk ?_ | with_reducible refine Eq.mpr wps_cnt ?_ | with_reducible refine Eq.mpr wps_if ?_ | with_reducible refine Eq.mpr wps_asg ?_ | with_reducible refine wps_asgL ?_ | with_reducible refine Eq.mpr wps_put ?_ | with_reducible refine Eq.mpr wps_dput ?_ | with_reducible refine Eq.mpr wps_aug ?_ | with_reducible refine Eq.mpr wps_par ?_ | with_reducible refine Eq.mpr wps_for ?_ | with_reducible refine Eq.mpr wps_wh ?_ | with_reducible refine Eq.mpr wps_fld ?_ | with_reducible refine Eq.mpr wps_try ?_ | with_reducible refine Eq.mpr wps_tryAs ?_ | simp only [wp_tup0, wp_tup1, wp_tup2, wp_tup3, wp_tup4, wp_tup5, wp_tup6, wp_tup7, wp_lst0, wp_lst1, wp_lst2, wp_lst3, wp_lst4, wp_lst5, wp_lst6, wp_lst7, wp_lst8, wp_lst9, wp_lst10, wp_lst11, wp_lst12, wp_bd, wp_lc, ql_nx, ql_ct, ql_bk, ql_rt, iSeq, iEnu, Mir.iRev, chkR, chkT, chkO, lstO, wp_some, wp_ite, wp_none, bd_some, eVar, eC, eOp, eUn, eFn, eMt, aNil, aCons,  eAnd, eOr, eNot, eIf, eIsi, eChain, bTest, bTruth, bAnd, bOr, bNot, bYes, eSl, pNo, pAt, eRinA, eRinB, eDnew, eDin, eDget, eDget2, tgM_name, tgM_tup, tgMs_nil, tgMs_name, tgMs_tup, List.getElem?_cons_succ, List.getElem?_cons_zero, List.set_cons_succ, List.set_cons_zero, List.map_cons, List.map_nil, List.length_cons, List.length_nil, List.replicate, List.nil_append, List.cons_append, if_true, if_false, Bool.false_eq_true, Bool.true_eq_false, Nat.reduceAdd, Nat.reduceSub, Nat.reduceLeDiff, Nat.zero_add, Bool.not_true, Bool.not_false, nc0, nc1, nc2, nc3, not_true_eq_false, not_false_eq_true, ii, addI, subI, negI, int1, eqI, neI, eqS, neS, ix0, ix1, ix2, ix3, decide_eq_true_eq, Bool.not_eq_true', decide_eq_false_iff_not, truB, truN, keyI, keyS, lenT, wipeM, wp_fld, wp_meth, wp_make, wpx_eL, wpx_sL, wpx_cons, kx_nx, kx_rt, kx_xc, wpx_if, wpx_raise, wpx_set, wpx_do, wpx_ret, vx_l, vx_r, wpx_op, gx_l, gx_r, wpx_put, px_l, px_r, wpx_meth, wpx_fn, exk_rt, exk_nx, exk_xc, wp_dn, tx_nx, tx_rt, tx_xc, txa_nx, txa_rt, txa_xc, eqI, decide_true, truB]
    refine rf_ok w7.h w7.o (fun z => absurd rfl (z b' hb)) (fun b1 n1 hb1 ew1 en1 hi1 s8 f8 => ?_) (.inr ⟨b', n, hb, rfl, en4, by omega⟩)
    have w8 := w7.fr ⟨by obtain ⟨a, b, d, x, e⟩ := w7.T.tape; exact ⟨a, b, d, x, f8.at_ _ _ (by simp) e⟩, f8.at_ _ _ (by simp) w7.T.cells⟩ (f8.mono (by simp))
    repeat first | with_reducible refine Eq.mpr wps_cons ?_ | with_reducible refine Eq.mpr wps_pass ?_ | with_reducible refine Eq.mpr wps_nil ?_ | with_reducible refine Eq.mpr wps_set ?_ | with_reducible refine Eq.mpr wps_do ?_ | with_reducible refine Eq.mpr wps_ret ?_ | with_reducible refine Eq.mpr wps_retN ?_ | with_reducible refine Eq.mpr wps_brk ?_ | with_reducible refine Eq.mpr wps_cnt ?_ | with_reducible refine Eq.mpr wps_if ?_ | with_reducible refine Eq.mpr wps_asg ?_ | with_reducible refine wps_asgL ?_ | with_reducible refine Eq.mpr wps_put ?_ | with_reducible refine Eq.mpr wps_dput ?_ | with_reducible refine Eq.mpr wps_aug ?_ | with_reducible refine Eq.mpr wps_par ?_ | with_reducible refine Eq.mpr wps_for ?_ | with_reducible refine Eq.mpr wps_wh ?_ | with_reducible refine Eq.mpr wps_fld ?_ | with_reducible refine Eq.mpr wps_try ?_ | with_reducible refine Eq.mpr wps_tryAs ?_ | simp only [wp_tup0, wp_tup1, wp_tup2, wp_tup3, wp_tup4, wp_tup5, wp_tup6, wp_tup7, wp_lst0, wp_lst1, wp_lst2, wp_lst3, wp_lst4, wp_lst5, wp_lst6, wp_lst7, wp_lst8, wp_lst9, wp_lst10, wp_lst11, wp_lst12, wp_bd, wp_lc, ql_nx, ql_ct, ql_bk, ql_rt, iSeq, iEnu, Mir.iRev, chkR, chkT, chkO, lstO, wp_some, wp_ite, wp_none, bd_some, eVar, eC, eOp, eUn, eFn, eMt, aNil, aCons,  eAnd, eOr, eNot, eIf, eIsi, eChain, bTest, bTruth, bAnd, bOr, bNot, bYes, eSl, pNo, pAt, eRinA, eRinB, eDnew, eDin, eDget, eDget2, tgM_name, tgM_tup, tgMs_nil, tgMs_name, tgMs_tup, List.getElem?_cons_succ, List.getElem?_cons_zero, List.set_cons_succ, List.set_cons_zero, List.map_cons, List.map_nil, List.length_cons, List.length_nil, List.replicate, List.nil_append, List.cons_append, if_true, if_false, Bool.false_eq_true, Bool.true_eq_false, Nat.reduceAdd, Nat.reduceSub, Nat.reduceLeDiff, Nat.zero_add, Bool.not_true, Bool.not_false, nc0, nc1, nc2, nc3, not_true_eq_false, not_false_eq_true, ii, addI, subI, negI, int1, eqI, neI, eqS, neS, ix0, ix1, ix2, ix3, decide_eq_true_eq, Bool.not_eq_true', decide_eq_false_iff_not, truB, truN, keyI, keyS, lenT, wipeM, wp_fld, wp_meth, wp_make, wpx_eL, wpx_sL, wpx_cons, kx_nx, kx_rt, kx_xc, wpx_if, wpx_raise, wpx_set, wpx_do, wpx_ret, vx_l, vx_r, wpx_op, gx_l, gx_r, wpx_put, px_l, px_r, wpx_meth, wpx_fn, exk_rt, exk_nx, exk_xc, wp_dn, tx_nx, tx_rt, tx_xc, txa_nx, txa_rt, txa_xc, eqI, decide_true, truB]
    exact h _ _ _ w8
end
end K72

set_option Elab.async false
set_option linter.all false
set_option maxRecDepth 100000
namespace K72
open PySem PySem.Spec PyProof.Rows L2 Mir
section
theorem pf1 {c : Int} : pF "cells" (.int c) [] = [(("cells" : Str), W.int c)] := rfl
theorem pf2 {c : Int} {a : Nat} : pF "words" (.ref a) [(("cells" : Str), W.int c)] = [(("cells" : Str), W.int c), ("words", .ref a)] := by
  simp only [pF, show ¬ (("cells" : Str) = ("words" : Str)) from by decide +kernel, if_false]
theorem pf3 {c : Int} {a b : Nat} : pF "beginnings" (.ref b) [(("cells" : Str), W.int c), ("words", .ref a)] = hF c a b := by
  simp only [pF, hF, show ¬ (("cells" : Str) = ("beginnings" : Str)) from by decide +kernel, show ¬ (("words" : Str) = ("beginnings" : Str)) from by decide +kernel, if_false]
theorem init_ok {s : Sto} {n : Nat} {c : Int} {R : W → Sto → Prop} (hn : s[n]? = some (.ins "Heap" [])) (h : ∀ s' : Sto, Ht s' n s.length (s.length + 1) c [] [] → Fr [n] s s' → s'.length = s.length + 2 → R .non s') : Wp (FHeapInit [.ref n, .int c] s) R := by
  have ln := gltn hn
  unfold FHeapInit
  rw [wp_mkF (by rfl)]
  unfold BHeapInit
  repeat first | with_reducible refine Eq.mpr wps_cons ?_ | with_reducible refine Eq.mpr wps_pass ?_ | with_reducible refine Eq.mpr wps_nil ?_ | with_reducible refine Eq.mpr wps_set ?_ | with_reducible refine Eq.mpr wps_do ?_ | with_reducible refine Eq.mpr wps_ret ?_ | with_reducible refine Eq.mpr wps_retN ?_ | with_reducible refine Eq.mpr wps_brk ?_ | with_reducible refine Eq.mpr wps_cnt ?_ | with_reducible refine Eq.mpr wps_if ?_ | with_reducible refine Eq.mpr wps_asg ?_ | with_reducible refine wps_asgL ?_ | with_reducible refine Eq.mpr wps_put ?_ | with_reducible refine Eq.mpr wps_dput ?_ | with_reducible refine Eq.mpr wps_aug ?_ | with_reducible refine Eq.mpr wps_par ?_ | with_reducible refine Eq.mpr wps_for ?_ | with_reducible refine Eq.mpr wps_wh ?_ | with_reducible refine Eq.mpr wps_fld ?_ | with_reducible refine Eq.mpr wps_try ?_ | with_reducible refine Eq.mpr wps_tryAs ?_ | simp only [wp_tup0, wp_tup1, wp_tup2, wp_tup3, wp_tup4, wp_tup5, wp_tup6, wp_tup7, wp_lst0, wp_lst1, wp_lst2, wp_lst3, wp_lst4, wp_lst5, wp_lst6, wp_lst7, wp_lst8, wp_lst9, wp_lst10, wp_lst11, wp_lst12, wp_bd, wp_lc, ql_nx, ql_ct, ql_bk, ql_rt, iSeq, iEnu, Mir.iRev, chkR, chkT, chkO, lstO, wp_some, wp_ite, wp_none, bd_some, eVar, eC, eOp, eUn, eFn, eMt, aNil, aCons,  eAnd, eOr, eNot, eIf, eIsi, eChain, bTest, bTruth, bAnd, bOr, bNot, bYes, eSl, pNo, pAt, eRinA, eRinB, eDnew, eDin, eDget, eDget2, tgM_name, tgM_tup, tgMs_nil, tgMs_name, tgMs_tup, List.getElem?_cons_succ, List.getElem?_cons_zero, List.set_cons_succ, List.set_cons_zero, List.map_cons, List.map_nil, List.length_cons, List.length_nil, List.replicate, List.nil_append, List.cons_append, if_true, if_false, Bool.false_eq_true, Bool.true_eq_false, Nat.reduceAdd, Nat.reduceSub, Nat.reduceLeDiff, Nat.zero_add, Bool.not_true, Bool.not_false, nc0, nc1, nc2, nc3, not_true_eq_false, not_false_eq_true, ii, addI, subI, negI, int1, eqI, neI, eqS, neS, ix0, ix1, ix2, ix3, decide_eq_true_eq, Bool.not_eq_true', decide_eq_false_iff_not, truB, truN, keyI, keyS, lenT, wipeM, wp_fld, wp_meth, wp_make, wpx_eL, wpx_sL, wpx_cons, kx_nx, kx_rt, kx_xc, wpx_if, wpx_raise, wpx_set, wpx_do, wpx_ret, vx_l, vx_r, wpx_op, gx_l, gx_r, wpx_put, px_l, px_r, wpx_meth, wpx_fn, exk_rt, exk_nx, exk_xc, wp_dn, tx_nx, tx_rt, tx_xc, txa_nx, txa_rt, txa_xc, insR hn, pf1]
  refine ⟨⟨trivial, by simp⟩, ?_⟩
  obtain ⟨s1, es1⟩ : ∃ s1, s1 = s.set n (O.ins "Heap" [("cells", .int c)]) := ⟨_, rfl⟩
  rw [← es1]
  have n1 : s1[n]? = some (.ins "Heap" [("cells", .int c)]) := by rw [es1, getset hn]
  have l1 : s1.length = s.length := by rw [es1, List.length_set]
  repeat first | with_reducible refine Eq.mpr wps_cons ?_ | with_reducible refine Eq.mpr wps_pass ?_ | with_reducible refine Eq.mpr wps_nil ?_ | with_reducible refine Eq.mpr wps_set ?_ | with_reducible refine Eq.mpr wps_do ?_ | with_reducible refine Eq.mpr wps_ret ?_ | with_reducible refine Eq.mpr wps_retN ?_ | with_reducible refine Eq.mpr wps_brk ?_ | with_reducible refine Eq.mpr wps_cnt ?_ | with_reducible refine Eq.mpr wps_if ?_ | with_reducible refine Eq.mpr wps_asg ?_ | with_reducible refine wps_asgL ?_ | with_reducible refine Eq.mpr wps_put ?_ | with_reducible refine Eq.mpr wps_dput ?_ | with_reducible refine Eq.mpr wps_aug ?_ | with_reducible refine Eq.mpr wps_par ?_ | with_reducible refine Eq.mpr wps_for ?_ | with_reducible refine Eq.mpr wps_wh ?_ | with_reducible refine Eq.mpr wps_fld ?_ | with_reducible refine Eq.mpr wps_try ?_ | with_reducible refine Eq.mpr wps_tryAs ?_ | simp only [wp_tup0, wp_tup1, wp_tup2, wp_tup3, wp_tup4, wp_tup5, wp_tup6, wp_tup7, wp_lst0, wp_lst1, wp_lst2, wp_lst3, wp_lst4, wp_lst5, wp_lst6, wp_lst7, wp_lst8, wp_lst9, wp_lst10, wp_lst11, wp_lst12, wp_bd, wp_lc, ql_nx, ql_ct, ql_bk, ql_rt, iSeq, iEnu, Mir.iRev, chkR, chkT, chkO, lstO, wp_some, wp_ite, wp_none, bd_some, eVar, eC, eOp, eUn, eFn, eMt, aNil, aCons,  eAnd, eOr, eNot, eIf, eIsi, eChain, bTest, bTruth, bAnd, bOr, bNot, bYes, eSl, pNo, pAt, eRinA, eRinB, eDnew, eDin, eDget, eDget2, tgM_name, tgM_tup, tgMs_nil, tgMs_name, tgMs_tup, List.getElem?_cons_succ, List.getElem?_cons_zero, List.set_cons_succ, List.set_cons_zero, List.map_cons, List.map_nil, List.length_cons, List.length_nil, List.replicate, List.nil_append, List.cons_append, if_true, if_false, Bool.false_eq_true, Bool.true_eq_false, Nat.reduceAdd, Nat.reduceSub, Nat.reduceLeDiff, Nat.zero_add, Bool.not_true, Bool.not_false, nc0, nc1, nc2, nc3, not_true_eq_false, not_false_eq_true, ii, addI, subI, negI, int1, eqI, neI, eqS, neS, ix0, ix1, ix2, ix3, decide_eq_true_eq, Bool.not_eq_true', decide_eq_false_iff_not, truB, truN, keyI, keyS, lenT, wipeM, wp_fld, wp_meth, wp_make, wpx_eL, wpx_sL, wpx_cons, kx_nx, kx_rt, kx_xc, wpx_if, wpx_raise, wpx_set, wpx_do, wpx_ret, vx_l, vx_r, wpx_op, gx_l, gx_r, wpx_put, px_l, px_r, wpx_meth, wpx_fn, exk_rt, exk_nx, exk_xc, wp_dn, tx_nx, tx_rt, tx_xc, txa_nx, txa_rt, txa_xc]
  obtain ⟨s2, es2⟩ : ∃ s2, s2 = s1 ++ [O.lst []] := ⟨_, rfl⟩
  rw [← es2]
  have n2 : s2[n]? = some (.ins "Heap" [("cells", .int c)]) := by rw [es2]; exact gapp n1
  repeat first | with_reducible refine Eq.mpr wps_cons ?_ | with_reducible refine Eq.mpr wps_pass ?_ | with_reducible refine Eq.mpr wps_nil ?_ | with_reducible refine Eq.mpr wps_set ?_ | with_reducible refine Eq.mpr wps_do ?_ | with_reducible refine Eq.mpr wps_ret ?_ | with_reducible refine Eq.mpr wps_retN ?_ | with_reducible refine Eq.mpr wps_brk ?_ | with_reducible refine Eq.mpr wps_cnt ?_ | with_reducible refine Eq.mpr wps_if ?_ | with_reducible refine Eq.mpr wps_asg ?_ | with_reducible refine wps_asgL ?_ | with_reducible refine Eq.mpr wps_put ?_ | with_reducible refine Eq.mpr wps_dput ?_ | with_reducible refine Eq.mpr wps_aug ?_ | with_reducible refine Eq.mpr wps_par ?_ | with_reducible refine Eq.mpr wps_for ?_ | with_reducible refine Eq.mpr wps_wh ?_ | with_reducible refine Eq.mpr wps_fld ?_ | with_reducible refine Eq.mpr wps_try ?_ | with_reducible refine Eq.mpr wps_tryAs ?_ | simp only [wp_tup0, wp_tup1, wp_tup2, wp_tup3, wp_tup4, wp_tup5, wp_tup6, wp_tup7, wp_lst0, wp_lst1, wp_lst2, wp_lst3, wp_lst4, wp_lst5, wp_lst6, wp_lst7, wp_lst8, wp_lst9, wp_lst10, wp_lst11, wp_lst12, wp_bd, wp_lc, ql_nx, ql_ct, ql_bk, ql_rt, iSeq, iEnu, Mir.iRev, chkR, chkT, chkO, lstO, wp_some, wp_ite, wp_none, bd_some, eVar, eC, eOp, eUn, eFn, eMt, aNil, aCons,  eAnd, eOr, eNot, eIf, eIsi, eChain, bTest, bTruth, bAnd, bOr, bNot, bYes, eSl, pNo, pAt, eRinA, eRinB, eDnew, eDin, eDget, eDget2, tgM_name, tgM_tup, tgMs_nil, tgMs_name, tgMs_tup, List.getElem?_cons_succ, List.getElem?_cons_zero, List.set_cons_succ, List.set_cons_zero, List.map_cons, List.map_nil, List.length_cons, List.length_nil, List.replicate, List.nil_append, List.cons_append, if_true, if_false, Bool.false_eq_true, Bool.true_eq_false, Nat.reduceAdd, Nat.reduceSub, Nat.reduceLeDiff, Nat.zero_add, Bool.not_true, Bool.not_false, nc0, nc1, nc2, nc3, not_true_eq_false, not_false_eq_true, ii, addI, subI, negI, int1, eqI, neI, eqS, neS, ix0, ix1, ix2, ix3, decide_eq_true_eq, Bool.not_eq_true', decide_eq_false_iff_not, truB, truN, keyI, keyS, lenT, wipeM, wp_fld, wp_meth, wp_make, wpx_eL, wpx_sL, wpx_cons, kx_nx, kx_rt, kx_xc, wpx_if, wpx_raise, wpx_set, wpx_do, wpx_ret, vx_l, vx_r, wpx_op, gx_l, gx_r, wpx_put, px_l, px_r, wpx_meth, wpx_fn, exk_rt, exk_nx, exk_xc, wp_dn, tx_nx, tx_rt, tx_xc, txa_nx, txa_rt, txa_xc, insR n2, pf2]
  refine ⟨⟨trivial, by simp⟩, ?_⟩
  obtain ⟨s3, es3⟩ : ∃ s3, s3 = s2.set n (O.ins "Heap" [("cells", .int c), ("words", .ref s1.length)]) := ⟨_, rfl⟩
  rw [← es3]
  have n3 : s3[n]? = some (.ins "Heap" [("cells", .int c), ("words", .ref s1.length)]) := by rw [es3, getset n2]
  have l3 : s3.length = s.length + 1 := by rw [es3, List.length_set, es2, List.length_append, l1]; rfl
  repeat first | with_reducible refine Eq.mpr wps_cons ?_ | with_reducible refine Eq.mpr wps_pass ?_ | with_reducible refine Eq.mpr wps_nil ?_ | with_reducible refine Eq.mpr wps_set ?_ | with_reducible refine Eq.mpr wps_do ?_ | with_reducible refine Eq.mpr wps_ret ?_ | with_reducible refine Eq.mpr wps_retN ?_ | with_reducible refine Eq.mpr wps_brk ?_ | with_reducible refine Eq.mpr wps_cnt ?_ | with_reducible refine Eq.mpr wps_if ?_ | with_reducible refine Eq.mpr wps_asg ?_ | with_reducible refine wps_asgL ?_ | with_reducible refine Eq.mpr wps_put ?_ | with_reducible refine Eq.mpr wps_dput ?_ | with_reducible refine Eq.mpr wps_aug ?_ | with_reducible refine Eq.mpr wps_par ?_ | with_reducible refine Eq.mpr wps_for ?_ | with_reducible refine Eq.mpr wps_wh ?_ | with_reducible refine Eq.mpr wps_fld ?_ | with_reducible refine Eq.mpr wps_try ?_ | with_reducible refine Eq.mpr wps_tryAs ?_ | simp only [wp_tup0, wp_tup1, wp_tup2, wp_tup3, wp_tup4, wp_tup5, wp_tup6, wp_tup7, wp_lst0, wp_lst1, wp_lst2, wp_lst3, wp_lst4, wp_lst5, wp_lst6, wp_lst7, wp_lst8, wp_lst9, wp_lst10, wp_lst11, wp_lst12, wp_bd, wp_lc, ql_nx, ql_ct, ql_bk, ql_rt, iSeq, iEnu, Mir.iRev, chkR, chkT, chkO, lstO, wp_some, wp_ite, wp_none, bd_some, eVar, eC, eOp, eUn, eFn, eMt, aNil, aCons,  eAnd, eOr, eNot, eIf, eIsi, eChain, bTest, bTruth, bAnd, bOr, bNot, bYes, eSl, pNo, pAt, eRinA, eRinB, eDnew, eDin, eDget, eDget2, tgM_name, tgM_tup, tgMs_nil, tgMs_name, tgMs_tup, List.getElem?_cons_succ, List.getElem?_cons_zero, List.set_cons_succ, List.set_cons_zero, List.map_cons, List.map_nil, List.length_cons, List.length_nil, List.replicate, List.nil_append, List.cons_append, if_true, if_false, Bool.false_eq_true, Bool.true_eq_false, Nat.reduceAdd, Nat.reduceSub, Nat.reduceLeDiff, Nat.zero_add, Bool.not_true, Bool.not_false, nc0, nc1, nc2, nc3, not_true_eq_false, not_false_eq_true, ii, addI, subI, negI, int1, eqI, neI, eqS, neS, ix0, ix1, ix2, ix3, decide_eq_true_eq, Bool.not_eq_true', decide_eq_false_iff_not, truB, truN, keyI, keyS, lenT, wipeM, wp_fld, wp_meth, wp_make, wpx_eL, wpx_sL, wpx_cons, kx_nx, kx_rt, kx_xc, wpx_if, wpx_raise, wpx_set, wpx_do, wpx_ret, vx_l, vx_r, wpx_op, gx_l, gx_r, wpx_put, px_l, px_r, wpx_meth, wpx_fn, exk_rt, exk_nx, exk_xc, wp_dn, tx_nx, tx_rt, tx_xc, txa_nx, txa_rt, txa_xc]
  obtain ⟨s4, es4⟩ : ∃ s4, s4 = s3 ++ [O.dct []] := ⟨_, rfl⟩
  rw [← es4]
  have n4 : s4[n]? = some (.ins "Heap" [("cells", .int c), ("words", .ref s1.length)]) := by rw [es4]; exact gapp n3
  repeat first | with_reducible refine Eq.mpr wps_cons ?_ | with_reducible refine Eq.mpr wps_pass ?_ | with_reducible refine Eq.mpr wps_nil ?_ | with_reducible refine Eq.mpr wps_set ?_ | with_reducible refine Eq.mpr wps_do ?_ | with_reducible refine Eq.mpr wps_ret ?_ | with_reducible refine Eq.mpr wps_retN ?_ | with_reducible refine Eq.mpr wps_brk ?_ | with_reducible refine Eq.mpr wps_cnt ?_ | with_reducible refine Eq.mpr wps_if ?_ | with_reducible refine Eq.mpr wps_asg ?_ | with_reducible refine wps_asgL ?_ | with_reducible refine Eq.mpr wps_put ?_ | with_reducible refine Eq.mpr wps_dput ?_ | with_reducible refine Eq.mpr wps_aug ?_ | with_reducible refine Eq.mpr wps_par ?_ | with_reducible refine Eq.mpr wps_for ?_ | with_reducible refine Eq.mpr wps_wh ?_ | with_reducible refine Eq.mpr wps_fld ?_ | with_reducible refine Eq.mpr wps_try ?_ | with_reducible refine Eq.mpr wps_tryAs ?_ | simp only [wp_tup0, wp_tup1, wp_tup2, wp_tup3, wp_tup4, wp_tup5, wp_tup6, wp_tup7, wp_lst0, wp_lst1, wp_lst2, wp_lst3, wp_lst4, wp_lst5, wp_lst6, wp_lst7, wp_lst8, wp_lst9, wp_lst10, wp_lst11, wp_lst12, wp_bd, wp_lc, ql_nx, ql_ct, ql_bk, ql_rt, iSeq, iEnu, Mir.iRev, chkR, chkT, chkO, lstO, wp_some, wp_ite, wp_none, bd_some, eVar, eC, eOp, eUn, eFn, eMt, aNil, aCons,  eAnd, eOr, eNot, eIf, eIsi, eChain, bTest, bTruth, bAnd, bOr, bNot, bYes, eSl, pNo, pAt, eRinA, eRinB, eDnew, eDin, eDget, eDget2, tgM_name, tgM_tup, tgMs_nil, tgMs_name, tgMs_tup, List.getElem?_cons_succ, List.getElem?_cons_zero, List.set_cons_succ, List.set_cons_zero, List.map_cons, List.map_nil, List.length_cons, List.length_nil, List.replicate, List.nil_append, List.cons_append, if_true, if_false, Bool.false_eq_true, Bool.true_eq_false, Nat.reduceAdd, Nat.reduceSub, Nat.reduceLeDiff, Nat.zero_add, Bool.not_true, Bool.not_false, nc0, nc1, nc2, nc3, not_true_eq_false, not_false_eq_true, ii, addI, subI, negI, int1, eqI, neI, eqS, neS, ix0, ix1, ix2, ix3, decide_eq_true_eq, Bool.not_eq_true', decide_eq_false_iff_not, truB, truN, keyI, keyS, lenT, wipeM, wp_fld, wp_meth, wp_make, wpx_eL, wpx_sL, wpx_cons, kx_nx, kx_rt, kx_xc, wpx_if, wpx_raise, wpx_set, wpx_do, wpx_ret, vx_l, vx_r, wpx_op, gx_l, gx_r, wpx_put, px_l, px_r, wpx_meth, wpx_fn, exk_rt, exk_nx, exk_xc, wp_dn, tx_nx, tx_rt, tx_xc, txa_nx, txa_rt, txa_xc, insR n4, pf3]
  refine ⟨⟨trivial, by simp⟩, ?_⟩
  rw [wps_nil]
  refine h _ ⟨?_, ?_, ?_⟩ ?_ ?_
  · rw [getset n4, l1, l3]
  · rw [getne (by omega), es4]
    refine gapp ?_
    rw [es3, getne (by omega), es2, ← l1]
    exact gnew
  · rw [getne (by omega), es4, ← l3]
    exact gnew
  · refine Fr.trans (s' := s1) (by rw [es1]; exact .set (by simp)) (Fr.trans (s' := s2) (by rw [es2]; exact .app) (Fr.trans (s' := s3) (by rw [es3]; exact .set (by simp)) (Fr.trans (s' := s4) (by rw [es4]; exact .app) (.set (by simp)))))
  · rw [List.length_set, es4, List.length_append, l3]
    rfl
theorem pure_law : ∀ ns : List Int, ns.length ≤ 63 → ∃ s, FLaw [.lro (ns.map W.int)] [] = some (.bl true, s) := by
  intro ns _
  have key : Wp (FLaw [.lro (ns.map W.int)] []) (fun w _ => w = .bl true) := by
    have tl : FLawTape [.lro (ns.map W.int), .int 0] [] = some (.ref 1, [.lst (ns.map W.int), .lst [.ref 0, .int 0, .int 0, .int 1, .int 0]]) := tape_ok ns
    unfold FLaw
    rw [wp_mkF (by rfl)]
    unfold BLaw
    repeat first | with_reducible refine Eq.mpr wps_cons ?_ | with_reducible refine Eq.mpr wps_pass ?_ | with_reducible refine Eq.mpr wps_nil ?_ | with_reducible refine Eq.mpr wps_set ?_ | with_reducible refine Eq.mpr wps_do ?_ | with_reducible refine Eq.mpr wps_ret ?_ | with_reducible refine Eq.mpr wps_retN ?_ | with_reducible refine Eq.mpr wps_brk ?_ | with_reducible refine Eq.mpr wps_cnt ?_ | with_reducible refine Eq.mpr wps_if ?_ | with_reducible refine Eq.mpr wps_asg ?_ | with_reducible refine wps_asgL ?_ | with_reducible refine Eq.mpr wps_put ?_ | with_reducible refine Eq.mpr wps_dput ?_ | with_reducible refine Eq.mpr wps_aug ?_ | with_reducible refine Eq.mpr wps_par ?_ | with_reducible refine Eq.mpr wps_for ?_ | with_reducible refine Eq.mpr wps_wh ?_ | with_reducible refine Eq.mpr wps_fld ?_ | with_reducible refine Eq.mpr wps_try ?_ | with_reducible refine Eq.mpr wps_tryAs ?_ | simp only [wp_tup0, wp_tup1, wp_tup2, wp_tup3, wp_tup4, wp_tup5, wp_tup6, wp_tup7, wp_lst0, wp_lst1, wp_lst2, wp_lst3, wp_lst4, wp_lst5, wp_lst6, wp_lst7, wp_lst8, wp_lst9, wp_lst10, wp_lst11, wp_lst12, wp_bd, wp_lc, ql_nx, ql_ct, ql_bk, ql_rt, iSeq, iEnu, Mir.iRev, chkR, chkT, chkO, lstO, wp_some, wp_ite, wp_none, bd_some, eVar, eC, eOp, eUn, eFn, eMt, aNil, aCons,  eAnd, eOr, eNot, eIf, eIsi, eChain, bTest, bTruth, bAnd, bOr, bNot, bYes, eSl, pNo, pAt, eRinA, eRinB, eDnew, eDin, eDget, eDget2, tgM_name, tgM_tup, tgMs_nil, tgMs_name, tgMs_tup, List.getElem?_cons_succ, List.getElem?_cons_zero, List.set_cons_succ, List.set_cons_zero, List.map_cons, List.map_nil, List.length_cons, List.length_nil, List.replicate, List.nil_append, List.cons_append, if_true, if_false, Bool.false_eq_true, Bool.true_eq_false, Nat.reduceAdd, Nat.reduceSub, Nat.reduceLeDiff, Nat.zero_add, Bool.not_true, Bool.not_false, nc0, nc1, nc2, nc3, not_true_eq_false, not_false_eq_true, ii, addI, subI, negI, int1, eqI, neI, eqS, neS, ix0, ix1, ix2, ix3, decide_eq_true_eq, Bool.not_eq_true', decide_eq_false_iff_not, truB, truN, keyI, keyS, lenT, wipeM, wp_fld, wp_meth, wp_make, wpx_eL, wpx_sL, wpx_cons, kx_nx, kx_rt, kx_xc, wpx_if, wpx_raise, wpx_set, wpx_do, wpx_ret, vx_l, vx_r, wpx_op, gx_l, gx_r, wpx_put, px_l, px_r, wpx_meth, wpx_fn, exk_rt, exk_nx, exk_xc, wp_dn, tx_nx, tx_rt, tx_xc, txa_nx, txa_rt, txa_xc, tl]
    refine dr (tape_T ns) 61 (by decide) (by decide) fun c s1 hc T1 f1 l1 => ?_
    have l1 : s1.length = 2 := l1
    repeat first | with_reducible refine Eq.mpr wps_cons ?_ | with_reducible refine Eq.mpr wps_pass ?_ | with_reducible refine Eq.mpr wps_nil ?_ | with_reducible refine Eq.mpr wps_set ?_ | with_reducible refine Eq.mpr wps_do ?_ | with_reducible refine Eq.mpr wps_ret ?_ | with_reducible refine Eq.mpr wps_retN ?_ | with_reducible refine Eq.mpr wps_brk ?_ | with_reducible refine Eq.mpr wps_cnt ?_ | with_reducible refine Eq.mpr wps_if ?_ | with_reducible refine Eq.mpr wps_asg ?_ | with_reducible refine wps_asgL ?_ | with_reducible refine Eq.mpr wps_put ?_ | with_reducible refine Eq.mpr wps_dput ?_ | with_reducible refine Eq.mpr wps_aug ?_ | with_reducible refine Eq.mpr wps_par ?_ | with_reducible refine Eq.mpr wps_for ?_ | with_reducible refine Eq.mpr wps_wh ?_ | with_reducible refine Eq.mpr wps_fld ?_ | with_reducible refine Eq.mpr wps_try ?_ | with_reducible refine Eq.mpr wps_tryAs ?_ | simp only [wp_tup0, wp_tup1, wp_tup2, wp_tup3, wp_tup4, wp_tup5, wp_tup6, wp_tup7, wp_lst0, wp_lst1, wp_lst2, wp_lst3, wp_lst4, wp_lst5, wp_lst6, wp_lst7, wp_lst8, wp_lst9, wp_lst10, wp_lst11, wp_lst12, wp_bd, wp_lc, ql_nx, ql_ct, ql_bk, ql_rt, iSeq, iEnu, Mir.iRev, chkR, chkT, chkO, lstO, wp_some, wp_ite, wp_none, bd_some, eVar, eC, eOp, eUn, eFn, eMt, aNil, aCons,  eAnd, eOr, eNot, eIf, eIsi, eChain, bTest, bTruth, bAnd, bOr, bNot, bYes, eSl, pNo, pAt, eRinA, eRinB, eDnew, eDin, eDget, eDget2, tgM_name, tgM_tup, tgMs_nil, tgMs_name, tgMs_tup, List.getElem?_cons_succ, List.getElem?_cons_zero, List.set_cons_succ, List.set_cons_zero, List.map_cons, List.map_nil, List.length_cons, List.length_nil, List.replicate, List.nil_append, List.cons_append, if_true, if_false, Bool.false_eq_true, Bool.true_eq_false, Nat.reduceAdd, Nat.reduceSub, Nat.reduceLeDiff, Nat.zero_add, Bool.not_true, Bool.not_false, nc0, nc1, nc2, nc3, not_true_eq_false, not_false_eq_true, ii, addI, subI, negI, int1, eqI, neI, eqS, neS, ix0, ix1, ix2, ix3, decide_eq_true_eq, Bool.not_eq_true', decide_eq_false_iff_not, truB, truN, keyI, keyS, lenT, wipeM, wp_fld, wp_meth, wp_make, wpx_eL, wpx_sL, wpx_cons, kx_nx, kx_rt, kx_xc, wpx_if, wpx_raise, wpx_set, wpx_do, wpx_ret, vx_l, vx_r, wpx_op, gx_l, gx_r, wpx_put, px_l, px_r, wpx_meth, wpx_fn, exk_rt, exk_nx, exk_xc, wp_dn, tx_nx, tx_rt, tx_xc, txa_nx, txa_rt, txa_xc]
    rw [l1]
    refine init_ok (by rw [← l1]; exact gnew) fun s2 h2 f2 l2 => ?_
    have e3 : (s1 ++ [O.ins "Heap" []]).length = 3 := by rw [List.length_append, l1]; rfl
    rw [e3] at h2 l2
    have T2 : Tape s2 1 0 ns := by
      obtain ⟨a, b, d, x, e⟩ := T1.tape
      exact ⟨⟨a, b, d, x, f2.at_ _ _ (by simp) (gapp e)⟩, f2.at_ _ _ (by simp) (gapp T1.cells)⟩
    repeat first | with_reducible refine Eq.mpr wps_cons ?_ | with_reducible refine Eq.mpr wps_pass ?_ | with_reducible refine Eq.mpr wps_nil ?_ | with_reducible refine Eq.mpr wps_set ?_ | with_reducible refine Eq.mpr wps_do ?_ | with_reducible refine Eq.mpr wps_ret ?_ | with_reducible refine Eq.mpr wps_retN ?_ | with_reducible refine Eq.mpr wps_brk ?_ | with_reducible refine Eq.mpr wps_cnt ?_ | with_reducible refine Eq.mpr wps_if ?_ | with_reducible refine Eq.mpr wps_asg ?_ | with_reducible refine wps_asgL ?_ | with_reducible refine Eq.mpr wps_put ?_ | with_reducible refine Eq.mpr wps_dput ?_ | with_reducible refine Eq.mpr wps_aug ?_ | with_reducible refine Eq.mpr wps_par ?_ | with_reducible refine Eq.mpr wps_for ?_ | with_reducible refine Eq.mpr wps_wh ?_ | with_reducible refine Eq.mpr wps_fld ?_ | with_reducible refine Eq.mpr wps_try ?_ | with_reducible refine Eq.mpr wps_tryAs ?_ | simp only [wp_tup0, wp_tup1, wp_tup2, wp_tup3, wp_tup4, wp_tup5, wp_tup6, wp_tup7, wp_lst0, wp_lst1, wp_lst2, wp_lst3, wp_lst4, wp_lst5, wp_lst6, wp_lst7, wp_lst8, wp_lst9, wp_lst10, wp_lst11, wp_lst12, wp_bd, wp_lc, ql_nx, ql_ct, ql_bk, ql_rt, iSeq, iEnu, Mir.iRev, chkR, chkT, chkO, lstO, wp_some, wp_ite, wp_none, bd_some, eVar, eC, eOp, eUn, eFn, eMt, aNil, aCons,  eAnd, eOr, eNot, eIf, eIsi, eChain, bTest, bTruth, bAnd, bOr, bNot, bYes, eSl, pNo, pAt, eRinA, eRinB, eDnew, eDin, eDget, eDget2, tgM_name, tgM_tup, tgMs_nil, tgMs_name, tgMs_tup, List.getElem?_cons_succ, List.getElem?_cons_zero, List.set_cons_succ, List.set_cons_zero, List.map_cons, List.map_nil, List.length_cons, List.length_nil, List.replicate, List.nil_append, List.cons_append, if_true, if_false, Bool.false_eq_true, Bool.true_eq_false, Nat.reduceAdd, Nat.reduceSub, Nat.reduceLeDiff, Nat.zero_add, Bool.not_true, Bool.not_false, nc0, nc1, nc2, nc3, not_true_eq_false, not_false_eq_true, ii, addI, subI, negI, int1, eqI, neI, eqS, neS, ix0, ix1, ix2, ix3, decide_eq_true_eq, Bool.not_eq_true', decide_eq_false_iff_not, truB, truN, keyI, keyS, lenT, wipeM, wp_fld, wp_meth, wp_make, wpx_eL, wpx_sL, wpx_cons, kx_nx, kx_rt, kx_xc, wpx_if, wpx_raise, wpx_set, wpx_do, wpx_ret, vx_l, vx_r, wpx_op, gx_l, gx_r, wpx_put, px_l, px_r, wpx_meth, wpx_fn, exk_rt, exk_nx, exk_xc, wp_dn, tx_nx, tx_rt, tx_xc, txa_nx, txa_rt, txa_xc]
    refine ⟨trivial, ?_⟩
    repeat first | with_reducible refine Eq.mpr wps_cons ?_ | with_reducible refine Eq.mpr wps_pass ?_ | with_reducible refine Eq.mpr wps_nil ?_ | with_reducible refine Eq.mpr wps_set ?_ | with_reducible refine Eq.mpr wps_do ?_ | with_reducible refine Eq.mpr wps_ret ?_ | with_reducible refine Eq.mpr wps_retN ?_ | with_reducible refine Eq.mpr wps_brk ?_ | with_reducible refine Eq.mpr wps_cnt ?_ | with_reducible refine Eq.mpr wps_if ?_ | with_reducible refine Eq.mpr wps_asg ?_ | with_reducible refine wps_asgL ?_ | with_reducible refine Eq.mpr wps_put ?_ | with_reducible refine Eq.mpr wps_dput ?_ | with_reducible refine Eq.mpr wps_aug ?_ | with_reducible refine Eq.mpr wps_par ?_ | with_reducible refine Eq.mpr wps_for ?_ | with_reducible refine Eq.mpr wps_wh ?_ | with_reducible refine Eq.mpr wps_fld ?_ | with_reducible refine Eq.mpr wps_try ?_ | with_reducible refine Eq.mpr wps_tryAs ?_ | simp only [wp_tup0, wp_tup1, wp_tup2, wp_tup3, wp_tup4, wp_tup5, wp_tup6, wp_tup7, wp_lst0, wp_lst1, wp_lst2, wp_lst3, wp_lst4, wp_lst5, wp_lst6, wp_lst7, wp_lst8, wp_lst9, wp_lst10, wp_lst11, wp_lst12, wp_bd, wp_lc, ql_nx, ql_ct, ql_bk, ql_rt, iSeq, iEnu, Mir.iRev, chkR, chkT, chkO, lstO, wp_some, wp_ite, wp_none, bd_some, eVar, eC, eOp, eUn, eFn, eMt, aNil, aCons,  eAnd, eOr, eNot, eIf, eIsi, eChain, bTest, bTruth, bAnd, bOr, bNot, bYes, eSl, pNo, pAt, eRinA, eRinB, eDnew, eDin, eDget, eDget2, tgM_name, tgM_tup, tgMs_nil, tgMs_name, tgMs_tup, List.getElem?_cons_succ, List.getElem?_cons_zero, List.set_cons_succ, List.set_cons_zero, List.map_cons, List.map_nil, List.length_cons, List.length_nil, List.replicate, List.nil_append, List.cons_append, if_true, if_false, Bool.false_eq_true, Bool.true_eq_false, Nat.reduceAdd, Nat.reduceSub, Nat.reduceLeDiff, Nat.zero_add, Bool.not_true, Bool.not_false, nc0, nc1, nc2, nc3, not_true_eq_false, not_false_eq_true, ii, addI, subI, negI, int1, eqI, neI, eqS, neS, ix0, ix1, ix2, ix3, decide_eq_true_eq, Bool.not_eq_true', decide_eq_false_iff_not, truB, truN, keyI, keyS, lenT, wipeM, wp_fld, wp_meth, wp_make, wpx_eL, wpx_sL, wpx_cons, kx_nx, kx_rt, kx_xc, wpx_if, wpx_raise, wpx_set, wpx_do, wpx_ret, vx_l, vx_r, wpx_op, gx_l, gx_r, wpx_put, px_l, px_r, wpx_meth, wpx_fn, exk_rt, exk_nx, exk_xc, wp_dn, tx_nx, tx_rt, tx_xc, txa_nx, txa_rt, txa_xc]
    rw [l2]
    refine init_ok (by rw [show 3 + 2 = s2.length by omega]; exact gnew) fun s3 h3 f3 l3 => ?_
    have e6 : (s2 ++ [O.ins "Heap" []]).length = 6 := by rw [List.length_append, l2]; rfl
    rw [e6] at h3 l3
    have T3 : Tape s3 1 0 ns := by
      obtain ⟨a, b, d, x, e⟩ := T2.tape
      exact ⟨⟨a, b, d, x, f3.at_ _ _ (by simp) (gapp e)⟩, f3.at_ _ _ (by simp) (gapp T2.cells)⟩
    have h2' : Ht s3 2 3 4 (c : Int) [] [] := ⟨f3.at_ _ _ (by simp) (gapp h2.ins), f3.at_ _ _ (by simp) (gapp h2.wds), f3.at_ _ _ (by simp) (gapp h2.bgs)⟩
    repeat first | with_reducible refine Eq.mpr wps_cons ?_ | with_reducible refine Eq.mpr wps_pass ?_ | with_reducible refine Eq.mpr wps_nil ?_ | with_reducible refine Eq.mpr wps_set ?_ | with_reducible refine Eq.mpr wps_do ?_ | with_reducible refine Eq.mpr wps_ret ?_ | with_reducible refine Eq.mpr wps_retN ?_ | with_reducible refine Eq.mpr wps_brk ?_ | with_reducible refine Eq.mpr wps_cnt ?_ | with_reducible refine Eq.mpr wps_if ?_ | with_reducible refine Eq.mpr wps_asg ?_ | with_reducible refine wps_asgL ?_ | with_reducible refine Eq.mpr wps_put ?_ | with_reducible refine Eq.mpr wps_dput ?_ | with_reducible refine Eq.mpr wps_aug ?_ | with_reducible refine Eq.mpr wps_par ?_ | with_reducible refine Eq.mpr wps_for ?_ | with_reducible refine Eq.mpr wps_wh ?_ | with_reducible refine Eq.mpr wps_fld ?_ | with_reducible refine Eq.mpr wps_try ?_ | with_reducible refine Eq.mpr wps_tryAs ?_ | simp only [wp_tup0, wp_tup1, wp_tup2, wp_tup3, wp_tup4, wp_tup5, wp_tup6, wp_tup7, wp_lst0, wp_lst1, wp_lst2, wp_lst3, wp_lst4, wp_lst5, wp_lst6, wp_lst7, wp_lst8, wp_lst9, wp_lst10, wp_lst11, wp_lst12, wp_bd, wp_lc, ql_nx, ql_ct, ql_bk, ql_rt, iSeq, iEnu, Mir.iRev, chkR, chkT, chkO, lstO, wp_some, wp_ite, wp_none, bd_some, eVar, eC, eOp, eUn, eFn, eMt, aNil, aCons,  eAnd, eOr, eNot, eIf, eIsi, eChain, bTest, bTruth, bAnd, bOr, bNot, bYes, eSl, pNo, pAt, eRinA, eRinB, eDnew, eDin, eDget, eDget2, tgM_name, tgM_tup, tgMs_nil, tgMs_name, tgMs_tup, List.getElem?_cons_succ, List.getElem?_cons_zero, List.set_cons_succ, List.set_cons_zero, List.map_cons, List.map_nil, List.length_cons, List.length_nil, List.replicate, List.nil_append, List.cons_append, if_true, if_false, Bool.false_eq_true, Bool.true_eq_false, Nat.reduceAdd, Nat.reduceSub, Nat.reduceLeDiff, Nat.zero_add, Bool.not_true, Bool.not_false, nc0, nc1, nc2, nc3, not_true_eq_false, not_false_eq_true, ii, addI, subI, negI, int1, eqI, neI, eqS, neS, ix0, ix1, ix2, ix3, decide_eq_true_eq, Bool.not_eq_true', decide_eq_false_iff_not, truB, truN, keyI, keyS, lenT, wipeM, wp_fld, wp_meth, wp_make, wpx_eL, wpx_sL, wpx_cons, kx_nx, kx_rt, kx_xc, wpx_if, wpx_raise, wpx_set, wpx_do, wpx_ret, vx_l, vx_r, wpx_op, gx_l, gx_r, wpx_put, px_l, px_r, wpx_meth, wpx_fn, exk_rt, exk_nx, exk_xc, wp_dn, tx_nx, tx_rt, tx_xc, txa_nx, txa_rt, txa_xc]
    refine ⟨trivial, ?_⟩
    obtain ⟨s4, es4⟩ : ∃ s4, s4 = s3 ++ [O.lst []] ++ [O.lst []] := ⟨_, rfl⟩
    have ww : Wd s4 ns c [] [] := by
      have a4 : Fr [] s3 s4 := by rw [es4, List.append_assoc]; exact .app
      refine ⟨?_, h2'.fr a4 (by simp) (by simp) (by simp), h3.fr a4 (by simp) (by simp) (by simp), ?_, ?_, ⟨(fun b hb => by cases hb), by simp, by simp⟩, by simp, by omega⟩
      · obtain ⟨a, b, d, x, e⟩ := T3.tape
        exact ⟨⟨a, b, d, x, a4.at_ _ _ (by simp) e⟩, a4.at_ _ _ (by simp) T3.cells⟩
      · rw [es4, show 8 = s3.length by omega]
        exact gapp gnew
      · rw [es4, show 9 = (s3 ++ [O.lst []]).length by rw [List.length_append, l3]; rfl]
        exact gnew
    have l8 : s3.length = 8 := by omega
    repeat first | with_reducible refine Eq.mpr wps_cons ?_ | with_reducible refine Eq.mpr wps_pass ?_ | with_reducible refine Eq.mpr wps_nil ?_ | with_reducible refine Eq.mpr wps_set ?_ | with_reducible refine Eq.mpr wps_do ?_ | with_reducible refine Eq.mpr wps_ret ?_ | with_reducible refine Eq.mpr wps_retN ?_ | with_reducible refine Eq.mpr wps_brk ?_ | with_reducible refine Eq.mpr wps_cnt ?_ | with_reducible refine Eq.mpr wps_if ?_ | with_reducible refine Eq.mpr wps_asg ?_ | with_reducible refine wps_asgL ?_ | with_reducible refine Eq.mpr wps_put ?_ | with_reducible refine Eq.mpr wps_dput ?_ | with_reducible refine Eq.mpr wps_aug ?_ | with_reducible refine Eq.mpr wps_par ?_ | with_reducible refine Eq.mpr wps_for ?_ | with_reducible refine Eq.mpr wps_wh ?_ | with_reducible refine Eq.mpr wps_fld ?_ | with_reducible refine Eq.mpr wps_try ?_ | with_reducible refine Eq.mpr wps_tryAs ?_ | simp only [wp_tup0, wp_tup1, wp_tup2, wp_tup3, wp_tup4, wp_tup5, wp_tup6, wp_tup7, wp_lst0, wp_lst1, wp_lst2, wp_lst3, wp_lst4, wp_lst5, wp_lst6, wp_lst7, wp_lst8, wp_lst9, wp_lst10, wp_lst11, wp_lst12, wp_bd, wp_lc, ql_nx, ql_ct, ql_bk, ql_rt, iSeq, iEnu, Mir.iRev, chkR, chkT, chkO, lstO, wp_some, wp_ite, wp_none, bd_some, eVar, eC, eOp, eUn, eFn, eMt, aNil, aCons,  eAnd, eOr, eNot, eIf, eIsi, eChain, bTest, bTruth, bAnd, bOr, bNot, bYes, eSl, pNo, pAt, eRinA, eRinB, eDnew, eDin, eDget, eDget2, tgM_name, tgM_tup, tgMs_nil, tgMs_name, tgMs_tup, List.getElem?_cons_succ, List.getElem?_cons_zero, List.set_cons_succ, List.set_cons_zero, List.map_cons, List.map_nil, List.length_cons, List.length_nil, List.replicate, List.nil_append, List.cons_append, if_true, if_false, Bool.false_eq_true, Bool.true_eq_false, Nat.reduceAdd, Nat.reduceSub, Nat.reduceLeDiff, Nat.zero_add, Bool.not_true, Bool.not_false, nc0, nc1, nc2, nc3, not_true_eq_false, not_false_eq_true, ii, addI, subI, negI, int1, eqI, neI, eqS, neS, ix0, ix1, ix2, ix3, decide_eq_true_eq, Bool.not_eq_true', decide_eq_false_iff_not, truB, truN, keyI, keyS, lenT, wipeM, wp_fld, wp_meth, wp_make, wpx_eL, wpx_sL, wpx_cons, kx_nx, kx_rt, kx_xc, wpx_if, wpx_raise, wpx_set, wpx_do, wpx_ret, vx_l, vx_r, wpx_op, gx_l, gx_r, wpx_put, px_l, px_r, wpx_meth, wpx_fn, exk_rt, exk_nx, exk_xc, wp_dn, tx_nx, tx_rt, tx_xc, txa_nx, txa_rt, txa_xc]
    have l9 : (s3 ++ [O.lst []]).length = 9 := by rw [List.length_append, l8]; rfl
    rw [← es4, l8, l9]
    refine wp_rng1 ?_
    repeat first | with_reducible refine Eq.mpr wps_cons ?_ | with_reducible refine Eq.mpr wps_pass ?_ | with_reducible refine Eq.mpr wps_nil ?_ | with_reducible refine Eq.mpr wps_set ?_ | with_reducible refine Eq.mpr wps_do ?_ | with_reducible refine Eq.mpr wps_ret ?_ | with_reducible refine Eq.mpr wps_retN ?_ | with_reducible refine Eq.mpr wps_brk ?_ | with_reducible refine Eq.mpr wps_cnt ?_ | with_reducible refine Eq.mpr wps_if ?_ | with_reducible refine Eq.mpr wps_asg ?_ | with_reducible refine wps_asgL ?_ | with_reducible refine Eq.mpr wps_put ?_ | with_reducible refine Eq.mpr wps_dput ?_ | with_reducible refine Eq.mpr wps_aug ?_ | with_reducible refine Eq.mpr wps_par ?_ | with_reducible refine Eq.mpr wps_for ?_ | with_reducible refine Eq.mpr wps_wh ?_ | with_reducible refine Eq.mpr wps_fld ?_ | with_reducible refine Eq.mpr wps_try ?_ | with_reducible refine Eq.mpr wps_tryAs ?_ | simp only [wp_tup0, wp_tup1, wp_tup2, wp_tup3, wp_tup4, wp_tup5, wp_tup6, wp_tup7, wp_lst0, wp_lst1, wp_lst2, wp_lst3, wp_lst4, wp_lst5, wp_lst6, wp_lst7, wp_lst8, wp_lst9, wp_lst10, wp_lst11, wp_lst12, wp_bd, wp_lc, ql_nx, ql_ct, ql_bk, ql_rt, iSeq, iEnu, Mir.iRev, chkR, chkT, chkO, lstO, wp_some, wp_ite, wp_none, bd_some, eVar, eC, eOp, eUn, eFn, eMt, aNil, aCons,  eAnd, eOr, eNot, eIf, eIsi, eChain, bTest, bTruth, bAnd, bOr, bNot, bYes, eSl, pNo, pAt, eRinA, eRinB, eDnew, eDin, eDget, eDget2, tgM_name, tgM_tup, tgMs_nil, tgMs_name, tgMs_tup, List.getElem?_cons_succ, List.getElem?_cons_zero, List.set_cons_succ, List.set_cons_zero, List.map_cons, List.map_nil, List.length_cons, List.length_nil, List.replicate, List.nil_append, List.cons_append, if_true, if_false, Bool.false_eq_true, Bool.true_eq_false, Nat.reduceAdd, Nat.reduceSub, Nat.reduceLeDiff, Nat.zero_add, Bool.not_true, Bool.not_false, nc0, nc1, nc2, nc3, not_true_eq_false, not_false_eq_true, ii, addI, subI, negI, int1, eqI, neI, eqS, neS, ix0, ix1, ix2, ix3, decide_eq_true_eq, Bool.not_eq_true', decide_eq_false_iff_not, truB, truN, keyI, keyS, lenT, wipeM, wp_fld, wp_meth, wp_make, wpx_eL, wpx_sL, wpx_cons, kx_nx, kx_rt, kx_xc, wpx_if, wpx_raise, wpx_set, wpx_do, wpx_ret, vx_l, vx_r, wpx_op, gx_l, gx_r, wpx_put, px_l, px_r, wpx_meth, wpx_fn, exk_rt, exk_nx, exk_xc, wp_dn, tx_nx, tx_rt, tx_xc, txa_nx, txa_rt, txa_xc]
    refine dr ww.T 16 (by decide) (by decide) fun m s5 hm T5 f5 l5 => ?_
    have w5 := ww.fr T5 f5
    refine ⟨m, rfl, by omega, ?_⟩
    refine wp_fo (I := fun k ρ s' => ∃ (M : List Int) (B : List Nat) (v7 v8 : Option W), Wd s' ns c M B ∧ ρ = [some (.lro (ns.map W.int)), some (.ref 1), some (.int (c : Int)), some (.ref 2), some (.ref 5), some (.ref 8), some (.ref 9), v7, v8]) _ 0 _ _ ⟨[], [], none, none, w5, rfl⟩ (fun i x ρ s' hi hI => ?_) (fun ρ s' hI => ?_)
    · obtain ⟨M, B, v7, v8, w6, rfl⟩ := hI
      refine ⟨by rw [okN]; trivial, _, tgM_name, ?_⟩
      repeat first | with_reducible refine Eq.mpr wps_cons ?_ | with_reducible refine Eq.mpr wps_pass ?_ | with_reducible refine Eq.mpr wps_nil ?_ | with_reducible refine Eq.mpr wps_set ?_ | with_reducible refine Eq.mpr wps_do ?_ | with_reducible refine Eq.mpr wps_ret ?_ | with_reducible refine Eq.mpr wps_retN ?_ | with_reducible refine Eq.mpr wps_brk ?_ | with_reducible refine Eq.mpr wps_cnt ?_ | with_reducible refine Eq.mpr wps_if ?_ | with_reducible refine Eq.mpr wps_asg ?_ | with_reducible refine wps_asgL ?_ | with_reducible refine Eq.mpr wps_put ?_ | with_reducible refine Eq.mpr wps_dput ?_ | with_reducible refine Eq.mpr wps_aug ?_ | with_reducible refine Eq.mpr wps_par ?_ | with_reducible refine Eq.mpr wps_for ?_ | with_reducible refine Eq.mpr wps_wh ?_ | with_reducible refine Eq.mpr wps_fld ?_ | with_reducible refine Eq.mpr wps_try ?_ | with_reducible refine Eq.mpr wps_tryAs ?_ | simp only [wp_tup0, wp_tup1, wp_tup2, wp_tup3, wp_tup4, wp_tup5, wp_tup6, wp_tup7, wp_lst0, wp_lst1, wp_lst2, wp_lst3, wp_lst4, wp_lst5, wp_lst6, wp_lst7, wp_lst8, wp_lst9, wp_lst10, wp_lst11, wp_lst12, wp_bd, wp_lc, ql_nx, ql_ct, ql_bk, ql_rt, iSeq, iEnu, Mir.iRev, chkR, chkT, chkO, lstO, wp_some, wp_ite, wp_none, bd_some, eVar, eC, eOp, eUn, eFn, eMt, aNil, aCons,  eAnd, eOr, eNot, eIf, eIsi, eChain, bTest, bTruth, bAnd, bOr, bNot, bYes, eSl, pNo, pAt, eRinA, eRinB, eDnew, eDin, eDget, eDget2, tgM_name, tgM_tup, tgMs_nil, tgMs_name, tgMs_tup, List.getElem?_cons_succ, List.getElem?_cons_zero, List.set_cons_succ, List.set_cons_zero, List.map_cons, List.map_nil, List.length_cons, List.length_nil, List.replicate, List.nil_append, List.cons_append, if_true, if_false, Bool.false_eq_true, Bool.true_eq_false, Nat.reduceAdd, Nat.reduceSub, Nat.reduceLeDiff, Nat.zero_add, Bool.not_true, Bool.not_false, nc0, nc1, nc2, nc3, not_true_eq_false, not_false_eq_true, ii, addI, subI, negI, int1, eqI, neI, eqS, neS, ix0, ix1, ix2, ix3, decide_eq_true_eq, Bool.not_eq_true', decide_eq_false_iff_not, truB, truN, keyI, keyS, lenT, wipeM, wp_fld, wp_meth, wp_make, wpx_eL, wpx_sL, wpx_cons, kx_nx, kx_rt, kx_xc, wpx_if, wpx_raise, wpx_set, wpx_do, wpx_ret, vx_l, vx_r, wpx_op, gx_l, gx_r, wpx_put, px_l, px_r, wpx_meth, wpx_fn, exk_rt, exk_nx, exk_xc, wp_dn, tx_nx, tx_rt, tx_xc, txa_nx, txa_rt, txa_xc]
      refine dr w6.T 3 (by decide) (by decide) fun z s7 hz T7 f7 l7 => ?_
      have w7 := w6.fr T7 f7
      by_cases q : (0 : Int) < (z : Int)
      · repeat first | with_reducible refine Eq.mpr wps_cons ?_ | with_reducible refine Eq.mpr wps_pass ?_ | with_reducible refine Eq.mpr wps_nil ?_ | with_reducible refine Eq.mpr wps_set ?_ | with_reducible refine Eq.mpr wps_do ?_ | with_reducible refine Eq.mpr wps_ret ?_ | with_reducible refine Eq.mpr wps_retN ?_ | with_reducible refine Eq.mpr wps_brk ?_ | with_reducible refine Eq.mpr wps_cnt ?_ | with_reducible refine Eq.mpr wps_if ?_ | with_reducible refine Eq.mpr wps_asg ?_ | with_reducible refine wps_asgL ?_ | with_reducible refine Eq.mpr wps_put ?_ | with_reducible refine Eq.mpr wps_dput ?_ | with_reducible refine Eq.mpr wps_aug ?_ | with_reducible refine Eq.mpr wps_par ?_ | with_reducible refine Eq.mpr wps_for ?_ | with_reducible refine Eq.mpr wps_wh ?_ | with_reducible refine wh_go ?_ | with_reducible refine fo_goN ?_ | with_reducible refine fo_goC ?_ | simp only [wp_tup0, wp_tup1, wp_tup2, wp_tup3, wp_tup4, wp_tup5, wp_tup6, wp_tup7, wp_lst0, wp_lst1, wp_lst2, wp_lst3, wp_lst4, wp_lst5, wp_lst6, wp_lst7, wp_lst8, wp_lst9, wp_lst10, wp_lst11, wp_lst12, wp_bd, wp_lc, ql_nx, ql_ct, ql_bk, ql_rt, iSeq, iEnu, Mir.iRev, chkR, chkT, chkO, lstO, wp_some, wp_ite, wp_none, bd_some, eVar, eC, eOp, eUn, eFn, eMt, aNil, aCons,  eAnd, eOr, eNot, eIf, eIsi, eChain, bTest, bTruth, bAnd, bOr, bNot, bYes, eSl, pNo, pAt, eRinA, eRinB, eDnew, eDin, eDget, eDget2, tgM_name, tgM_tup, tgMs_nil, tgMs_name, tgMs_tup, List.getElem?_cons_succ, List.getElem?_cons_zero, List.set_cons_succ, List.set_cons_zero, List.map_cons, List.map_nil, List.length_cons, List.length_nil, List.replicate, List.nil_append, List.cons_append, if_true, if_false, Bool.false_eq_true, Bool.true_eq_false, Nat.reduceAdd, Nat.reduceSub, Nat.reduceLeDiff, Nat.zero_add, Bool.not_true, Bool.not_false, nc0, nc1, nc2, nc3, not_true_eq_false, not_false_eq_true, ii, addI, subI, negI, int1, eqI, neI, eqS, neS, ix0, ix1, ix2, ix3, decide_eq_true_eq, Bool.not_eq_true', decide_eq_false_iff_not, truB, truN, keyI, keyS, lenT, wipeM, qw_nx, qw_ct, qw_bk, qw_rt, qf_nx, qf_ct, qf_bk, qf_rt, okN, lcf_goN, lcf_goC, lcf_goT, slT1, slT2, List.drop_succ_cons, List.drop_zero, List.take_succ_cons, List.take_zero, true_and, and_true, ofString_inj, String.reduceEq, decide_true, decide_false, Bool.or_self, Bool.or_true, Bool.true_or, Bool.or_false, Bool.false_or, Bool.and_self, Bool.and_true, Bool.true_and, Bool.and_false, Bool.false_and, isN, isnN, Mir.isNon, truB, gtI, q, decide_true]
        refine mkL_ok w7 fun M' B' s8 w8 => ?_
        repeat first | with_reducible refine Eq.mpr wps_cons ?_ | with_reducible refine Eq.mpr wps_pass ?_ | with_reducible refine Eq.mpr wps_nil ?_ | with_reducible refine Eq.mpr wps_set ?_ | with_reducible refine Eq.mpr wps_do ?_ | with_reducible refine Eq.mpr wps_ret ?_ | with_reducible refine Eq.mpr wps_retN ?_ | with_reducible refine Eq.mpr wps_brk ?_ | with_reducible refine Eq.mpr wps_cnt ?_ | with_reducible refine Eq.mpr wps_if ?_ | with_reducible refine Eq.mpr wps_asg ?_ | with_reducible refine wps_asgL ?_ | with_reducible refine Eq.mpr wps_put ?_ | with_reducible refine Eq.mpr wps_dput ?_ | with_reducible refine Eq.mpr wps_aug ?_ | with_reducible refine Eq.mpr wps_par ?_ | with_reducible refine Eq.mpr wps_for ?_ | with_reducible refine Eq.mpr wps_wh ?_ | with_reducible refine Eq.mpr wps_fld ?_ | with_reducible refine Eq.mpr wps_try ?_ | with_reducible refine Eq.mpr wps_tryAs ?_ | simp only [wp_tup0, wp_tup1, wp_tup2, wp_tup3, wp_tup4, wp_tup5, wp_tup6, wp_tup7, wp_lst0, wp_lst1, wp_lst2, wp_lst3, wp_lst4, wp_lst5, wp_lst6, wp_lst7, wp_lst8, wp_lst9, wp_lst10, wp_lst11, wp_lst12, wp_bd, wp_lc, ql_nx, ql_ct, ql_bk, ql_rt, iSeq, iEnu, Mir.iRev, chkR, chkT, chkO, lstO, wp_some, wp_ite, wp_none, bd_some, eVar, eC, eOp, eUn, eFn, eMt, aNil, aCons,  eAnd, eOr, eNot, eIf, eIsi, eChain, bTest, bTruth, bAnd, bOr, bNot, bYes, eSl, pNo, pAt, eRinA, eRinB, eDnew, eDin, eDget, eDget2, tgM_name, tgM_tup, tgMs_nil, tgMs_name, tgMs_tup, List.getElem?_cons_succ, List.getElem?_cons_zero, List.set_cons_succ, List.set_cons_zero, List.map_cons, List.map_nil, List.length_cons, List.length_nil, List.replicate, List.nil_append, List.cons_append, if_true, if_false, Bool.false_eq_true, Bool.true_eq_false, Nat.reduceAdd, Nat.reduceSub, Nat.reduceLeDiff, Nat.zero_add, Bool.not_true, Bool.not_false, nc0, nc1, nc2, nc3, not_true_eq_false, not_false_eq_true, ii, addI, subI, negI, int1, eqI, neI, eqS, neS, ix0, ix1, ix2, ix3, decide_eq_true_eq, Bool.not_eq_true', decide_eq_false_iff_not, truB, truN, keyI, keyS, lenT, wipeM, wp_fld, wp_meth, wp_make, wpx_eL, wpx_sL, wpx_cons, kx_nx, kx_rt, kx_xc, wpx_if, wpx_raise, wpx_set, wpx_do, wpx_ret, vx_l, vx_r, wpx_op, gx_l, gx_r, wpx_put, px_l, px_r, wpx_meth, wpx_fn, exk_rt, exk_nx, exk_xc, wp_dn, tx_nx, tx_rt, tx_xc, txa_nx, txa_rt, txa_xc, truB, w8.h.fW, w8.h.fC, ne_ints w8.h.wds w8.md, neI, decide_true]
        exact ⟨M', B', _, _, w8, rfl⟩
      · repeat first | with_reducible refine Eq.mpr wps_cons ?_ | with_reducible refine Eq.mpr wps_pass ?_ | with_reducible refine Eq.mpr wps_nil ?_ | with_reducible refine Eq.mpr wps_set ?_ | with_reducible refine Eq.mpr wps_do ?_ | with_reducible refine Eq.mpr wps_ret ?_ | with_reducible refine Eq.mpr wps_retN ?_ | with_reducible refine Eq.mpr wps_brk ?_ | with_reducible refine Eq.mpr wps_cnt ?_ | with_reducible refine Eq.mpr wps_if ?_ | with_reducible refine Eq.mpr wps_asg ?_ | with_reducible refine wps_asgL ?_ | with_reducible refine Eq.mpr wps_put ?_ | with_reducible refine Eq.mpr wps_dput ?_ | with_reducible refine Eq.mpr wps_aug ?_ | with_reducible refine Eq.mpr wps_par ?_ | with_reducible refine Eq.mpr wps_for ?_ | with_reducible refine Eq.mpr wps_wh ?_ | with_reducible refine wh_go ?_ | with_reducible refine fo_goN ?_ | with_reducible refine fo_goC ?_ | simp only [wp_tup0, wp_tup1, wp_tup2, wp_tup3, wp_tup4, wp_tup5, wp_tup6, wp_tup7, wp_lst0, wp_lst1, wp_lst2, wp_lst3, wp_lst4, wp_lst5, wp_lst6, wp_lst7, wp_lst8, wp_lst9, wp_lst10, wp_lst11, wp_lst12, wp_bd, wp_lc, ql_nx, ql_ct, ql_bk, ql_rt, iSeq, iEnu, Mir.iRev, chkR, chkT, chkO, lstO, wp_some, wp_ite, wp_none, bd_some, eVar, eC, eOp, eUn, eFn, eMt, aNil, aCons,  eAnd, eOr, eNot, eIf, eIsi, eChain, bTest, bTruth, bAnd, bOr, bNot, bYes, eSl, pNo, pAt, eRinA, eRinB, eDnew, eDin, eDget, eDget2, tgM_name, tgM_tup, tgMs_nil, tgMs_name, tgMs_tup, List.getElem?_cons_succ, List.getElem?_cons_zero, List.set_cons_succ, List.set_cons_zero, List.map_cons, List.map_nil, List.length_cons, List.length_nil, List.replicate, List.nil_append, List.cons_append, if_true, if_false, Bool.false_eq_true, Bool.true_eq_false, Nat.reduceAdd, Nat.reduceSub, Nat.reduceLeDiff, Nat.zero_add, Bool.not_true, Bool.not_false, nc0, nc1, nc2, nc3, not_true_eq_false, not_false_eq_true, ii, addI, subI, negI, int1, eqI, neI, eqS, neS, ix0, ix1, ix2, ix3, decide_eq_true_eq, Bool.not_eq_true', decide_eq_false_iff_not, truB, truN, keyI, keyS, lenT, wipeM, qw_nx, qw_ct, qw_bk, qw_rt, qf_nx, qf_ct, qf_bk, qf_rt, okN, lcf_goN, lcf_goC, lcf_goT, slT1, slT2, List.drop_succ_cons, List.drop_zero, List.take_succ_cons, List.take_zero, true_and, and_true, ofString_inj, String.reduceEq, decide_true, decide_false, Bool.or_self, Bool.or_true, Bool.true_or, Bool.or_false, Bool.false_or, Bool.and_self, Bool.and_true, Bool.true_and, Bool.and_false, Bool.false_and, isN, isnN, Mir.isNon, truB, gtI, q, decide_false]
        refine lk_ok w7 fun M' B' s8 w8 => ?_
        repeat first | with_reducible refine Eq.mpr wps_cons ?_ | with_reducible refine Eq.mpr wps_pass ?_ | with_reducible refine Eq.mpr wps_nil ?_ | with_reducible refine Eq.mpr wps_set ?_ | with_reducible refine Eq.mpr wps_do ?_ | with_reducible refine Eq.mpr wps_ret ?_ | with_reducible refine Eq.mpr wps_retN ?_ | with_reducible refine Eq.mpr wps_brk ?_ | with_reducible refine Eq.mpr wps_cnt ?_ | with_reducible refine Eq.mpr wps_if ?_ | with_reducible refine Eq.mpr wps_asg ?_ | with_reducible refine wps_asgL ?_ | with_reducible refine Eq.mpr wps_put ?_ | with_reducible refine Eq.mpr wps_dput ?_ | with_reducible refine Eq.mpr wps_aug ?_ | with_reducible refine Eq.mpr wps_par ?_ | with_reducible refine Eq.mpr wps_for ?_ | with_reducible refine Eq.mpr wps_wh ?_ | with_reducible refine Eq.mpr wps_fld ?_ | with_reducible refine Eq.mpr wps_try ?_ | with_reducible refine Eq.mpr wps_tryAs ?_ | simp only [wp_tup0, wp_tup1, wp_tup2, wp_tup3, wp_tup4, wp_tup5, wp_tup6, wp_tup7, wp_lst0, wp_lst1, wp_lst2, wp_lst3, wp_lst4, wp_lst5, wp_lst6, wp_lst7, wp_lst8, wp_lst9, wp_lst10, wp_lst11, wp_lst12, wp_bd, wp_lc, ql_nx, ql_ct, ql_bk, ql_rt, iSeq, iEnu, Mir.iRev, chkR, chkT, chkO, lstO, wp_some, wp_ite, wp_none, bd_some, eVar, eC, eOp, eUn, eFn, eMt, aNil, aCons,  eAnd, eOr, eNot, eIf, eIsi, eChain, bTest, bTruth, bAnd, bOr, bNot, bYes, eSl, pNo, pAt, eRinA, eRinB, eDnew, eDin, eDget, eDget2, tgM_name, tgM_tup, tgMs_nil, tgMs_name, tgMs_tup, List.getElem?_cons_succ, List.getElem?_cons_zero, List.set_cons_succ, List.set_cons_zero, List.map_cons, List.map_nil, List.length_cons, List.length_nil, List.replicate, List.nil_append, List.cons_append, if_true, if_false, Bool.false_eq_true, Bool.true_eq_false, Nat.reduceAdd, Nat.reduceSub, Nat.reduceLeDiff, Nat.zero_add, Bool.not_true, Bool.not_false, nc0, nc1, nc2, nc3, not_true_eq_false, not_false_eq_true, ii, addI, subI, negI, int1, eqI, neI, eqS, neS, ix0, ix1, ix2, ix3, decide_eq_true_eq, Bool.not_eq_true', decide_eq_false_iff_not, truB, truN, keyI, keyS, lenT, wipeM, wp_fld, wp_meth, wp_make, wpx_eL, wpx_sL, wpx_cons, kx_nx, kx_rt, kx_xc, wpx_if, wpx_raise, wpx_set, wpx_do, wpx_ret, vx_l, vx_r, wpx_op, gx_l, gx_r, wpx_put, px_l, px_r, wpx_meth, wpx_fn, exk_rt, exk_nx, exk_xc, wp_dn, tx_nx, tx_rt, tx_xc, txa_nx, txa_rt, txa_xc, truB, w8.h.fW, w8.h.fC, ne_ints w8.h.wds w8.md, neI, decide_true]
        exact ⟨M', B', _, _, w8, rfl⟩
    · obtain ⟨M, B, v7, v8, w6, rfl⟩ := hI
      refine ⟨by rw [okN]; trivial, ?_⟩
      repeat first | with_reducible refine Eq.mpr wps_cons ?_ | with_reducible refine Eq.mpr wps_pass ?_ | with_reducible refine Eq.mpr wps_nil ?_ | with_reducible refine Eq.mpr wps_set ?_ | with_reducible refine Eq.mpr wps_do ?_ | with_reducible refine Eq.mpr wps_ret ?_ | with_reducible refine Eq.mpr wps_retN ?_ | with_reducible refine Eq.mpr wps_brk ?_ | with_reducible refine Eq.mpr wps_cnt ?_ | with_reducible refine Eq.mpr wps_if ?_ | with_reducible refine Eq.mpr wps_asg ?_ | with_reducible refine wps_asgL ?_ | with_reducible refine Eq.mpr wps_put ?_ | with_reducible refine Eq.mpr wps_dput ?_ | with_reducible refine Eq.mpr wps_aug ?_ | with_reducible refine Eq.mpr wps_par ?_ | with_reducible refine Eq.mpr wps_for ?_ | with_reducible refine Eq.mpr wps_wh ?_ | with_reducible refine Eq.mpr wps_fld ?_ | with_reducible refine Eq.mpr wps_try ?_ | with_reducible refine Eq.mpr wps_tryAs ?_ | simp only [wp_tup0, wp_tup1, wp_tup2, wp_tup3, wp_tup4, wp_tup5, wp_tup6, wp_tup7, wp_lst0, wp_lst1, wp_lst2, wp_lst3, wp_lst4, wp_lst5, wp_lst6, wp_lst7, wp_lst8, wp_lst9, wp_lst10, wp_lst11, wp_lst12, wp_bd, wp_lc, ql_nx, ql_ct, ql_bk, ql_rt, iSeq, iEnu, Mir.iRev, chkR, chkT, chkO, lstO, wp_some, wp_ite, wp_none, bd_some, eVar, eC, eOp, eUn, eFn, eMt, aNil, aCons,  eAnd, eOr, eNot, eIf, eIsi, eChain, bTest, bTruth, bAnd, bOr, bNot, bYes, eSl, pNo, pAt, eRinA, eRinB, eDnew, eDin, eDget, eDget2, tgM_name, tgM_tup, tgMs_nil, tgMs_name, tgMs_tup, List.getElem?_cons_succ, List.getElem?_cons_zero, List.set_cons_succ, List.set_cons_zero, List.map_cons, List.map_nil, List.length_cons, List.length_nil, List.replicate, List.nil_append, List.cons_append, if_true, if_false, Bool.false_eq_true, Bool.true_eq_false, Nat.reduceAdd, Nat.reduceSub, Nat.reduceLeDiff, Nat.zero_add, Bool.not_true, Bool.not_false, nc0, nc1, nc2, nc3, not_true_eq_false, not_false_eq_true, ii, addI, subI, negI, int1, eqI, neI, eqS, neS, ix0, ix1, ix2, ix3, decide_eq_true_eq, Bool.not_eq_true', decide_eq_false_iff_not, truB, truN, keyI, keyS, lenT, wipeM, wp_fld, wp_meth, wp_make, wpx_eL, wpx_sL, wpx_cons, kx_nx, kx_rt, kx_xc, wpx_if, wpx_raise, wpx_set, wpx_do, wpx_ret, vx_l, vx_r, wpx_op, gx_l, gx_r, wpx_put, px_l, px_r, wpx_meth, wpx_fn, exk_rt, exk_nx, exk_xc, wp_dn, tx_nx, tx_rt, tx_xc, txa_nx, txa_rt, txa_xc, w6.h2.fW]
      obtain ⟨s7, es7⟩ : ∃ s7, s7 = s' ++ [O.lst []] := ⟨_, rfl⟩
      rw [← es7]
      have w7 : Wd s7 ns c M B := by rw [es7]; exact w6.app
      have n7 : s7[s'.length]? = some (.lst (wi [])) := by rw [es7]; exact gnew
      repeat first | with_reducible refine Eq.mpr wps_cons ?_ | with_reducible refine Eq.mpr wps_pass ?_ | with_reducible refine Eq.mpr wps_nil ?_ | with_reducible refine Eq.mpr wps_set ?_ | with_reducible refine Eq.mpr wps_do ?_ | with_reducible refine Eq.mpr wps_ret ?_ | with_reducible refine Eq.mpr wps_retN ?_ | with_reducible refine Eq.mpr wps_brk ?_ | with_reducible refine Eq.mpr wps_cnt ?_ | with_reducible refine Eq.mpr wps_if ?_ | with_reducible refine Eq.mpr wps_asg ?_ | with_reducible refine wps_asgL ?_ | with_reducible refine Eq.mpr wps_put ?_ | with_reducible refine Eq.mpr wps_dput ?_ | with_reducible refine Eq.mpr wps_aug ?_ | with_reducible refine Eq.mpr wps_par ?_ | with_reducible refine Eq.mpr wps_for ?_ | with_reducible refine Eq.mpr wps_wh ?_ | with_reducible refine Eq.mpr wps_fld ?_ | with_reducible refine Eq.mpr wps_try ?_ | with_reducible refine Eq.mpr wps_tryAs ?_ | simp only [wp_tup0, wp_tup1, wp_tup2, wp_tup3, wp_tup4, wp_tup5, wp_tup6, wp_tup7, wp_lst0, wp_lst1, wp_lst2, wp_lst3, wp_lst4, wp_lst5, wp_lst6, wp_lst7, wp_lst8, wp_lst9, wp_lst10, wp_lst11, wp_lst12, wp_bd, wp_lc, ql_nx, ql_ct, ql_bk, ql_rt, iSeq, iEnu, Mir.iRev, chkR, chkT, chkO, lstO, wp_some, wp_ite, wp_none, bd_some, eVar, eC, eOp, eUn, eFn, eMt, aNil, aCons,  eAnd, eOr, eNot, eIf, eIsi, eChain, bTest, bTruth, bAnd, bOr, bNot, bYes, eSl, pNo, pAt, eRinA, eRinB, eDnew, eDin, eDget, eDget2, tgM_name, tgM_tup, tgMs_nil, tgMs_name, tgMs_tup, List.getElem?_cons_succ, List.getElem?_cons_zero, List.set_cons_succ, List.set_cons_zero, List.map_cons, List.map_nil, List.length_cons, List.length_nil, List.replicate, List.nil_append, List.cons_append, if_true, if_false, Bool.false_eq_true, Bool.true_eq_false, Nat.reduceAdd, Nat.reduceSub, Nat.reduceLeDiff, Nat.zero_add, Bool.not_true, Bool.not_false, nc0, nc1, nc2, nc3, not_true_eq_false, not_false_eq_true, ii, addI, subI, negI, int1, eqI, neI, eqS, neS, ix0, ix1, ix2, ix3, decide_eq_true_eq, Bool.not_eq_true', decide_eq_false_iff_not, truB, truN, keyI, keyS, lenT, wipeM, wp_fld, wp_meth, wp_make, wpx_eL, wpx_sL, wpx_cons, kx_nx, kx_rt, kx_xc, wpx_if, wpx_raise, wpx_set, wpx_do, wpx_ret, vx_l, vx_r, wpx_op, gx_l, gx_r, wpx_put, px_l, px_r, wpx_meth, wpx_fn, exk_rt, exk_nx, exk_xc, wp_dn, tx_nx, tx_rt, tx_xc, txa_nx, txa_rt, txa_xc, eq_ints w7.h2.wds n7, w7.h2.fC, eqI, truB, decide_true]
  obtain ⟨w, s, e, rfl⟩ := key
  exact ⟨s, e⟩
end
end K72

set_option Elab.async false
set_option linter.all false
set_option maxRecDepth 100000
namespace K72
open PySem PySem.Spec PyProof.Rows L2 Mir
set_option maxHeartbeats 0 in
theorem all_mk {l : PySem.W.OpenLaw} {w : World} {K : PySem.W.Frag} {h : Heap} {mg : Str → Option Value} {fa f1 f2 f3 f4 f5 f6 f7 f8 f9 f10 f11 f12 f13 f14 f15 f16 f17 f18 f19 : Addr} (X : K.In h) (G : h.Ns mainGlobals mg) (hfa : mg "law" = some (.ref fa))
    {od1 an1 od2 an2 od3 an3 od4 an4 od5 an5 od6 an6 od7 an7 od8 an8 od9 an9 od10 an10 od11 an11 od12 an12 od13 an13 od14 an14 od15 an15 od16 an16 od17 an17 od18 an18 od19 an19 : Option Addr} {sl1 sl2 sl3 sl4 sl5 sl6 sl7 sl8 sl9 sl10 sl11 sl12 sl13 sl14 sl15 sl16 sl17 sl18 sl19 : Array (Option Value)} {oc1 kV1 dc1 pm1 cd1 ct1 oc2 kV2 dc2 pm2 cd2 ct2 oc3 kV3 dc3 pm3 cd3 ct3 oc4 kV4 dc4 pm4 cd4 ct4 oc5 kV5 dc5 pm5 cd5 ct5 oc6 kV6 dc6 pm6 cd6 ct6 oc7 kV7 dc7 pm7 cd7 ct7 oc8 kV8 dc8 pm8 cd8 ct8 oc9 kV9 dc9 pm9 cd9 ct9 oc10 kV10 dc10 pm10 cd10 ct10 oc11 kV11 dc11 pm11 cd11 ct11 oc12 kV12 dc12 pm12 cd12 ct12 oc13 kV13 dc13 pm13 cd13 ct13 oc14 kV14 dc14 pm14 cd14 ct14 oc15 kV15 dc15 pm15 cd15 ct15 oc16 kV16 dc16 pm16 cd16 ct16 oc17 kV17 dc17 pm17 cd17 ct17 oc18 kV18 dc18 pm18 cd18 ct18 oc19 kV19 dc19 pm19 cd19 ct19 : Value}
    {CC_Heap : Addr} (q_Heap : PySem.W.nsIn K mainGlobals "Heap" = some (some (.ref CC_Heap)))
    {CC_NoBlock : Addr} (q_NoBlock : PySem.W.nsIn K mainGlobals "NoBlock" = some (some (.ref CC_NoBlock)))
    {CC_OutOfRoom : Addr} (q_OutOfRoom : PySem.W.nsIn K mainGlobals "OutOfRoom" = some (some (.ref CC_OutOfRoom)))
    {CC_ShapewrightError : Addr} (q_ShapewrightError : PySem.W.nsIn K mainGlobals "ShapewrightError" = some (some (.ref CC_ShapewrightError)))
    (pg_Heap : PySem.W.plainGet K CC_Heap Str.empty = true) (hd_Heap : PySem.W.hasDictIn K CC_Heap = true) (po_Heap : PySem.W.plainOver K CC_Heap = true) (sa_Heap : PySem.W.findIn K (.ref CC_Heap) "__setattr__" = some (some (.builtin "object.__setattr__"))) (mk_Heap : PySem.W.makesIn K CC_Heap = true) (kc_Heap : PySem.W.keepIn K (.ref CC_Heap) = true)
    (n_Heap_beginnings : PySem.W.findIn K (.ref CC_Heap) "beginnings" = some none)
    (n_Heap_cells : PySem.W.findIn K (.ref CC_Heap) "cells" = some none)
    (n_Heap_words : PySem.W.findIn K (.ref CC_Heap) "words" = some none)
    (xP_NoBlock : PySem.W.excIn K CC_NoBlock [.type "ValueError", .type "Exception", .type "BaseException", .type "object"] "ValueError.__new__" = true) (kP_NoBlock : PySem.W.keepIn K (.ref CC_NoBlock) = true) (bP_NoBlock : PySem.W.subIn K (.ref CC_NoBlock) (.type "BaseException") = some true) (tP_NoBlock : PySem.W.typeIn K (.ref CC_NoBlock) = some (.type "type")) (dP_NoBlock : PySem.W.hasDictIn K CC_NoBlock = true)
    (s_NoBlock_NoBlock : PySem.W.subIn K (.ref CC_NoBlock) (.ref CC_NoBlock) = some true)
    (s_NoBlock_OutOfRoom : PySem.W.subIn K (.ref CC_NoBlock) (.ref CC_OutOfRoom) = some false)
    (s_NoBlock_ShapewrightError : PySem.W.subIn K (.ref CC_NoBlock) (.ref CC_ShapewrightError) = some true)
    (xP_OutOfRoom : PySem.W.excIn K CC_OutOfRoom [.type "ValueError", .type "Exception", .type "BaseException", .type "object"] "ValueError.__new__" = true) (kP_OutOfRoom : PySem.W.keepIn K (.ref CC_OutOfRoom) = true) (bP_OutOfRoom : PySem.W.subIn K (.ref CC_OutOfRoom) (.type "BaseException") = some true) (tP_OutOfRoom : PySem.W.typeIn K (.ref CC_OutOfRoom) = some (.type "type")) (dP_OutOfRoom : PySem.W.hasDictIn K CC_OutOfRoom = true)
    (s_OutOfRoom_NoBlock : PySem.W.subIn K (.ref CC_OutOfRoom) (.ref CC_NoBlock) = some false)
    (s_OutOfRoom_OutOfRoom : PySem.W.subIn K (.ref CC_OutOfRoom) (.ref CC_OutOfRoom) = some true)
    (s_OutOfRoom_ShapewrightError : PySem.W.subIn K (.ref CC_OutOfRoom) (.ref CC_ShapewrightError) = some true)
    (xP_ShapewrightError : PySem.W.excIn K CC_ShapewrightError [.type "ValueError", .type "Exception", .type "BaseException", .type "object"] "ValueError.__new__" = true) (kP_ShapewrightError : PySem.W.keepIn K (.ref CC_ShapewrightError) = true) (bP_ShapewrightError : PySem.W.subIn K (.ref CC_ShapewrightError) (.type "BaseException") = some true) (tP_ShapewrightError : PySem.W.typeIn K (.ref CC_ShapewrightError) = some (.type "type")) (dP_ShapewrightError : PySem.W.hasDictIn K CC_ShapewrightError = true)
    (s_ShapewrightError_ShapewrightError : PySem.W.subIn K (.ref CC_ShapewrightError) (.ref CC_ShapewrightError) = some true)
    (en : PySem.W.specialIn K (.builtin "object.__class__") "__get__" = some (some (.builtin "getset_descriptor.__get__"))) (et : PySem.W.takesIn K (.builtin "object.__class__") = some true)
    (eg_NoBlock : PySem.W.findIn K (.ref CC_NoBlock) "__getattribute__" = some (some (.builtin "BaseException.__getattribute__"))) (ek_NoBlock : PySem.W.findIn K (.ref CC_NoBlock) "__getattr__" = some none) (ea_NoBlock : PySem.W.findIn K (.ref CC_NoBlock) "__class__" = some (some (.builtin "object.__class__"))) (em_NoBlock : PySem.W.mroIn K CC_NoBlock (.type "object") = some true)
    (eg_OutOfRoom : PySem.W.findIn K (.ref CC_OutOfRoom) "__getattribute__" = some (some (.builtin "BaseException.__getattribute__"))) (ek_OutOfRoom : PySem.W.findIn K (.ref CC_OutOfRoom) "__getattr__" = some none) (ea_OutOfRoom : PySem.W.findIn K (.ref CC_OutOfRoom) "__class__" = some (some (.builtin "object.__class__"))) (em_OutOfRoom : PySem.W.mroIn K CC_OutOfRoom (.type "object") = some true)
    (a1 : PySem.W.nsIn K mainGlobals "word_of_block" = some (some (.ref f1))) (l1 : K.lookup f1 = some ⟨oc1, od1, .func (PySem.W.fnOf "word_of_block" "word_of_block" (defArgs sWordOfBlock) (defBody sWordOfBlock) (defScope sWordOfBlock) .none kV1 dc1 pm1 an1 cd1 ct1), sl1⟩) (c1 : PySem.W.codeIn K cd1 "word_of_block" = true) (k1 : PySem.W.keepIn K (.ref f1) = true)
    (a2 : PySem.W.nsIn K mainGlobals "names_block" = some (some (.ref f2))) (l2 : K.lookup f2 = some ⟨oc2, od2, .func (PySem.W.fnOf "names_block" "names_block" (defArgs sNamesBlock) (defBody sNamesBlock) (defScope sNamesBlock) .none kV2 dc2 pm2 an2 cd2 ct2), sl2⟩) (c2 : PySem.W.codeIn K cd2 "names_block" = true) (k2 : PySem.W.keepIn K (.ref f2) = true)
    (a3 : PySem.W.nsIn K mainGlobals "address_of" = some (some (.ref f3))) (l3 : K.lookup f3 = some ⟨oc3, od3, .func (PySem.W.fnOf "address_of" "address_of" (defArgs sAddressOf) (defBody sAddressOf) (defScope sAddressOf) .none kV3 dc3 pm3 an3 cd3 ct3), sl3⟩) (c3 : PySem.W.codeIn K cd3 "address_of" = true) (k3 : PySem.W.keepIn K (.ref f3) = true)
    (a4 : PySem.W.nsIn K mainGlobals "_law_mix" = some (some (.ref f4))) (l4 : K.lookup f4 = some ⟨oc4, od4, .func (PySem.W.fnOf "_law_mix" "_law_mix" (defArgs sLawMix) (defBody sLawMix) (defScope sLawMix) .none kV4 dc4 pm4 an4 cd4 ct4), sl4⟩) (c4 : PySem.W.codeIn K cd4 "_law_mix" = true) (k4 : PySem.W.keepIn K (.ref f4) = true)
    (a5 : PySem.W.nsIn K mainGlobals "_law_tape" = some (some (.ref f5))) (l5 : K.lookup f5 = some ⟨oc5, od5, .func (PySem.W.fnOf "_law_tape" "_law_tape" (defArgs sLawTape) (defBody sLawTape) (defScope sLawTape) .none kV5 dc5 pm5 an5 cd5 ct5), sl5⟩) (c5 : PySem.W.codeIn K cd5 "_law_tape" = true) (k5 : PySem.W.keepIn K (.ref f5) = true)
    (a6 : PySem.W.nsIn K mainGlobals "_law_take" = some (some (.ref f6))) (l6 : K.lookup f6 = some ⟨oc6, od6, .func (PySem.W.fnOf "_law_take" "_law_take" (defArgs sLawTake) (defBody sLawTake) (defScope sLawTake) .none kV6 dc6 pm6 an6 cd6 ct6), sl6⟩) (c6 : PySem.W.codeIn K cd6 "_law_take" = true) (k6 : PySem.W.keepIn K (.ref f6) = true)
    (a7 : PySem.W.nsIn K mainGlobals "_law_word" = some (some (.ref f7))) (l7 : K.lookup f7 = some ⟨oc7, od7, .func (PySem.W.fnOf "_law_word" "_law_word" (defArgs sLawWord) (defBody sLawWord) (defScope sLawWord) .none kV7 dc7 pm7 an7 cd7 ct7), sl7⟩) (c7 : PySem.W.codeIn K cd7 "_law_word" = true) (k7 : PySem.W.keepIn K (.ref f7) = true)
    (a8 : PySem.W.nsIn K mainGlobals "_law_make" = some (some (.ref f8))) (l8 : K.lookup f8 = some ⟨oc8, od8, .func (PySem.W.fnOf "_law_make" "_law_make" (defArgs sLawMake) (defBody sLawMake) (defScope sLawMake) .none kV8 dc8 pm8 an8 cd8 ct8), sl8⟩) (c8 : PySem.W.codeIn K cd8 "_law_make" = true) (k8 : PySem.W.keepIn K (.ref f8) = true)
    (a9 : PySem.W.nsIn K mainGlobals "_law_refused" = some (some (.ref f9))) (l9 : K.lookup f9 = some ⟨oc9, od9, .func (PySem.W.fnOf "_law_refused" "_law_refused" (defArgs sLawRefused) (defBody sLawRefused) (defScope sLawRefused) .none kV9 dc9 pm9 an9 cd9 ct9), sl9⟩) (c9 : PySem.W.codeIn K cd9 "_law_refused" = true) (k9 : PySem.W.keepIn K (.ref f9) = true)
    (a10 : PySem.W.nsIn K mainGlobals "_law_look" = some (some (.ref f10))) (l10 : K.lookup f10 = some ⟨oc10, od10, .func (PySem.W.fnOf "_law_look" "_law_look" (defArgs sLawLook) (defBody sLawLook) (defScope sLawLook) .none kV10 dc10 pm10 an10 cd10 ct10), sl10⟩) (c10 : PySem.W.codeIn K cd10 "_law_look" = true) (k10 : PySem.W.keepIn K (.ref f10) = true)
    (a11 : PySem.W.nsIn K mainGlobals "law" = some (some (.ref f11))) (l11 : K.lookup f11 = some ⟨oc11, od11, .func (PySem.W.fnOf "law" "law" (defArgs sLaw) (defBody sLaw) (defScope sLaw) .none kV11 dc11 pm11 an11 cd11 ct11), sl11⟩) (c11 : PySem.W.codeIn K cd11 "law" = true) (k11 : PySem.W.keepIn K (.ref f11) = true)
    (a12 : PySem.W.findIn K (.ref CC_Heap) "__init__" = some (some (.ref f12))) (i12 : PySem.W.isFn K (.ref f12) = true) (l12 : K.lookup f12 = some ⟨oc12, od12, .func (PySem.W.fnOf "__init__" "Heap.__init__" (defArgs sHeapInit) (defBody sHeapInit) (defScope sHeapInit) .none kV12 dc12 pm12 an12 cd12 ct12), sl12⟩) (c12 : PySem.W.codeIn K cd12 "Heap.__init__" = true) (k12 : PySem.W.keepIn K (.ref f12) = true)
    (a13 : PySem.W.findIn K (.ref CC_Heap) "fits" = some (some (.ref f13))) (i13 : PySem.W.isFn K (.ref f13) = true) (l13 : K.lookup f13 = some ⟨oc13, od13, .func (PySem.W.fnOf "fits" "Heap.fits" (defArgs sHeapFits) (defBody sHeapFits) (defScope sHeapFits) .none kV13 dc13 pm13 an13 cd13 ct13), sl13⟩) (c13 : PySem.W.codeIn K cd13 "Heap.fits" = true) (k13 : PySem.W.keepIn K (.ref f13) = true)
    (a14 : PySem.W.findIn K (.ref CC_Heap) "make" = some (some (.ref f14))) (i14 : PySem.W.isFn K (.ref f14) = true) (l14 : K.lookup f14 = some ⟨oc14, od14, .func (PySem.W.fnOf "make" "Heap.make" (defArgs sHeapMake) (defBody sHeapMake) (defScope sHeapMake) .none kV14 dc14 pm14 an14 cd14 ct14), sl14⟩) (c14 : PySem.W.codeIn K cd14 "Heap.make" = true) (k14 : PySem.W.keepIn K (.ref f14) = true)
    (a15 : PySem.W.findIn K (.ref CC_Heap) "header" = some (some (.ref f15))) (i15 : PySem.W.isFn K (.ref f15) = true) (l15 : K.lookup f15 = some ⟨oc15, od15, .func (PySem.W.fnOf "header" "Heap.header" (defArgs sHeapHeader) (defBody sHeapHeader) (defScope sHeapHeader) .none kV15 dc15 pm15 an15 cd15 ct15), sl15⟩) (c15 : PySem.W.codeIn K cd15 "Heap.header" = true) (k15 : PySem.W.keepIn K (.ref f15) = true)
    (a16 : PySem.W.findIn K (.ref CC_Heap) "field" = some (some (.ref f16))) (i16 : PySem.W.isFn K (.ref f16) = true) (l16 : K.lookup f16 = some ⟨oc16, od16, .func (PySem.W.fnOf "field" "Heap.field" (defArgs sHeapField) (defBody sHeapField) (defScope sHeapField) .none kV16 dc16 pm16 an16 cd16 ct16), sl16⟩) (c16 : PySem.W.codeIn K cd16 "Heap.field" = true) (k16 : PySem.W.keepIn K (.ref f16) = true)
    (a17 : PySem.W.findIn K (.ref CC_Heap) "store_field" = some (some (.ref f17))) (i17 : PySem.W.isFn K (.ref f17) = true) (l17 : K.lookup f17 = some ⟨oc17, od17, .func (PySem.W.fnOf "store_field" "Heap.store_field" (defArgs sHeapStoreField) (defBody sHeapStoreField) (defScope sHeapStoreField) .none kV17 dc17 pm17 an17 cd17 ct17), sl17⟩) (c17 : PySem.W.codeIn K cd17 "Heap.store_field" = true) (k17 : PySem.W.keepIn K (.ref f17) = true)
    (a18 : PySem.W.findIn K (.ref CC_Heap) "block_address" = some (some (.ref f18))) (i18 : PySem.W.isFn K (.ref f18) = true) (l18 : K.lookup f18 = some ⟨oc18, od18, .func (PySem.W.fnOf "block_address" "Heap.block_address" (defArgs sHeapBlockAddress) (defBody sHeapBlockAddress) (defScope sHeapBlockAddress) .none kV18 dc18 pm18 an18 cd18 ct18), sl18⟩) (c18 : PySem.W.codeIn K cd18 "Heap.block_address" = true) (k18 : PySem.W.keepIn K (.ref f18) = true)
    (a19 : PySem.W.findIn K (.ref CC_Heap) "field_address" = some (some (.ref f19))) (i19 : PySem.W.isFn K (.ref f19) = true) (l19 : K.lookup f19 = some ⟨oc19, od19, .func (PySem.W.fnOf "field_address" "Heap.field_address" (defArgs sHeapFieldAddress) (defBody sHeapFieldAddress) (defScope sHeapFieldAddress) .none kV19 dc19 pm19 an19 cd19 ct19), sl19⟩) (c19 : PySem.W.codeIn K cd19 "Heap.field_address" = true) (k19 : PySem.W.keepIn K (.ref f19) = true)
    (z1 : PySem.W.nsIn K mainGlobals "bool" = some none)
    (z2 : PySem.W.nsIn K mainGlobals "int" = some none)
    (z3 : PySem.W.nsIn K mainGlobals "isinstance" = some none)
    (z4 : PySem.W.nsIn K mainGlobals "len" = some none)
    (z5 : PySem.W.nsIn K mainGlobals "list" = some none)
    (z6 : PySem.W.nsIn K mainGlobals "range" = some none)
    (z7 : PySem.W.nsIn K mainGlobals "tuple" = some none)
    {t0 : Tok} (x0 : PySem.W.nsIn K mainGlobals "HEADER" = some (some (.int 4 t0)))
    : ∃ fd : FuncData, (∀ (s : Shared) (v : Value), BindsTo s fd ⟨[v], []⟩ [("script", v)]) ∧ ∀ base : Heap, K.In base → base.Ns mainGlobals mg → FnOk l.prog w K mg base CX0 7 fa fd ["script"] (spF K 1 FLaw) := by
  have e := hfa.symm.trans (PySem.W.mg_of X G a11)
  cases e
  have F1 := fun_mk (st := sWordOfBlock) l1 c1 k1
  have b1 := F1.binds (ps := ["address"]) fun _ _ _ _ _ _ us hl => match us, hl with | [_], _ => rfl
  have g1 := PySem.W.mg_of X G a1
  have F2 := fun_mk (st := sNamesBlock) l2 c2 k2
  have b2 := F2.binds (ps := ["word"]) fun _ _ _ _ _ _ us hl => match us, hl with | [_], _ => rfl
  have g2 := PySem.W.mg_of X G a2
  have F3 := fun_mk (st := sAddressOf) l3 c3 k3
  have b3 := F3.binds (ps := ["word"]) fun _ _ _ _ _ _ us hl => match us, hl with | [_], _ => rfl
  have g3 := PySem.W.mg_of X G a3
  have F4 := fun_mk (st := sLawMix) l4 c4 k4
  have b4 := F4.binds (ps := ["number"]) fun _ _ _ _ _ _ us hl => match us, hl with | [_], _ => rfl
  have g4 := PySem.W.mg_of X G a4
  have F5 := fun_mk (st := sLawTape) l5 c5 k5
  have b5 := F5.binds (ps := ["script", "budget"]) fun _ _ _ _ _ _ us hl => match us, hl with | [_, _], _ => rfl
  have g5 := PySem.W.mg_of X G a5
  have F6 := fun_mk (st := sLawTake) l6 c6 k6
  have b6 := F6.binds (ps := ["tape", "many"]) fun _ _ _ _ _ _ us hl => match us, hl with | [_, _], _ => rfl
  have g6 := PySem.W.mg_of X G a6
  have F7 := fun_mk (st := sLawWord) l7 c7 k7
  have b7 := F7.binds (ps := ["tape", "blocks"]) fun _ _ _ _ _ _ us hl => match us, hl with | [_, _], _ => rfl
  have g7 := PySem.W.mg_of X G a7
  have F8 := fun_mk (st := sLawMake) l8 c8 k8
  have b8 := F8.binds (ps := ["tape", "heap", "model", "blocks", "cells"]) fun _ _ _ _ _ _ us hl => match us, hl with | [_, _, _, _, _], _ => rfl
  have g8 := PySem.W.mg_of X G a8
  have F9 := fun_mk (st := sLawRefused) l9 c9 k9
  have b9 := F9.binds (ps := ["heap", "word", "i"]) fun _ _ _ _ _ _ us hl => match us, hl with | [_, _, _], _ => rfl
  have g9 := PySem.W.mg_of X G a9
  have F10 := fun_mk (st := sLawLook) l10 c10 k10
  have b10 := F10.binds (ps := ["tape", "heap", "model", "blocks"]) fun _ _ _ _ _ _ us hl => match us, hl with | [_, _, _, _], _ => rfl
  have g10 := PySem.W.mg_of X G a10
  have F11 := fun_mk (st := sLaw) l11 c11 k11
  have b11 := F11.binds (ps := ["script"]) fun _ _ _ _ _ _ us hl => match us, hl with | [_], _ => rfl
  have g11 := PySem.W.mg_of X G a11
  have F12 := fun_mk (st := sHeapInit) l12 c12 k12
  have b12 := F12.binds (ps := ["self", "cells"]) fun _ _ _ _ _ _ us hl => match us, hl with | [_, _], _ => rfl
  have F13 := fun_mk (st := sHeapFits) l13 c13 k13
  have b13 := F13.binds (ps := ["self", "n"]) fun _ _ _ _ _ _ us hl => match us, hl with | [_, _], _ => rfl
  have F14 := fun_mk (st := sHeapMake) l14 c14 k14
  have b14 := F14.binds (ps := ["self", "kind", "a", "b", "fields"]) fun _ _ _ _ _ _ us hl => match us, hl with | [_, _, _, _, _], _ => rfl
  have F15 := fun_mk (st := sHeapHeader) l15 c15 k15
  have b15 := F15.binds (ps := ["self", "word"]) fun _ _ _ _ _ _ us hl => match us, hl with | [_, _], _ => rfl
  have F16 := fun_mk (st := sHeapField) l16 c16 k16
  have b16 := F16.binds (ps := ["self", "word", "i"]) fun _ _ _ _ _ _ us hl => match us, hl with | [_, _, _], _ => rfl
  have F17 := fun_mk (st := sHeapStoreField) l17 c17 k17
  have b17 := F17.binds (ps := ["self", "word", "i", "value"]) fun _ _ _ _ _ _ us hl => match us, hl with | [_, _, _, _], _ => rfl
  have F18 := fun_mk (st := sHeapBlockAddress) l18 c18 k18
  have b18 := F18.binds (ps := ["self", "word"]) fun _ _ _ _ _ _ us hl => match us, hl with | [_, _], _ => rfl
  have F19 := fun_mk (st := sHeapFieldAddress) l19 c19 k19
  have b19 := F19.binds (ps := ["self", "word", "i"]) fun _ _ _ _ _ _ us hl => match us, hl with | [_, _, _], _ => rfl
  have nb_bool := PySem.W.mg_none_of X G z1
  have nb_int := PySem.W.mg_none_of X G z2
  have nb_isinstance := PySem.W.mg_none_of X G z3
  have nb_len := PySem.W.mg_none_of X G z4
  have nb_list := PySem.W.mg_none_of X G z5
  have nb_range := PySem.W.mg_none_of X G z6
  have nb_tuple := PySem.W.mg_none_of X G z7
  have c_HEADER : Cst K mg "HEADER" (.int 4) := cst_int (PySem.W.mg_of X G x0)
  have CL_Heap : Cls K CC_Heap := ⟨pg_Heap, hd_Heap, po_Heap, sa_Heap⟩
  have g_Heap := PySem.W.mg_of X G q_Heap
  have g_NoBlock := PySem.W.mg_of X G q_NoBlock
  have g_OutOfRoom := PySem.W.mg_of X G q_OutOfRoom
  have g_ShapewrightError := PySem.W.mg_of X G q_ShapewrightError
  have cl_Heap : ClT K "Heap" ["beginnings", "cells", "words"] := ⟨CC_Heap, q_Heap, CL_Heap, fun f hf => by
    simp only [List.mem_cons, List.not_mem_nil, or_false] at hf
    rcases hf with rfl | rfl | rfl
    · exact n_Heap_beginnings
    · exact n_Heap_cells
    · exact n_Heap_words⟩
  have exc_NoBlock : ExcA K HT_NoBlock := ⟨fun c D hb hc => by
    have hm := hit_mem hb
    simp only [HT_NoBlock, List.mem_cons, List.not_mem_nil, or_false, Prod.mk.injEq] at hm
    rcases hm with ⟨rfl, h2⟩ | ⟨rfl, h2⟩
    · have e := hc.one q_NoBlock; subst e; exact ⟨eg_NoBlock, ek_NoBlock, bP_NoBlock, dP_NoBlock, ea_NoBlock, en, et, em_NoBlock⟩
    · have e := hc.one q_OutOfRoom; subst e; exact ⟨eg_OutOfRoom, ek_OutOfRoom, bP_OutOfRoom, dP_OutOfRoom, ea_OutOfRoom, en, et, em_OutOfRoom⟩⟩
  have exc_OutOfRoom : ExcA K HT_OutOfRoom := ⟨fun c D hb hc => by
    have hm := hit_mem hb
    simp only [HT_OutOfRoom, List.mem_cons, List.not_mem_nil, or_false, Prod.mk.injEq] at hm
    rcases hm with ⟨rfl, h2⟩ | ⟨rfl, h2⟩
    · have e := hc.one q_NoBlock; subst e; exact ⟨eg_NoBlock, ek_NoBlock, bP_NoBlock, dP_NoBlock, ea_NoBlock, en, et, em_NoBlock⟩
    · have e := hc.one q_OutOfRoom; subst e; exact ⟨eg_OutOfRoom, ek_OutOfRoom, bP_OutOfRoom, dP_OutOfRoom, ea_OutOfRoom, en, et, em_OutOfRoom⟩⟩
  have hit_NoBlock : HitT K mg "NoBlock" HT_NoBlock CC_NoBlock := ⟨g_NoBlock, fun c b hb C hc => by
    have hm := hit_mem hb
    simp only [HT_NoBlock, List.mem_cons, List.not_mem_nil, or_false, Prod.mk.injEq] at hm
    rcases hm with ⟨rfl, rfl⟩ | ⟨rfl, rfl⟩
    · have e := hc.one q_NoBlock; subst e; exact PySem.W.exm_ref bP_NoBlock dP_NoBlock tP_NoBlock s_NoBlock_NoBlock
    · have e := hc.one q_OutOfRoom; subst e; exact PySem.W.exm_ref bP_NoBlock dP_NoBlock tP_NoBlock s_OutOfRoom_NoBlock⟩
  have hit_OutOfRoom : HitT K mg "OutOfRoom" HT_OutOfRoom CC_OutOfRoom := ⟨g_OutOfRoom, fun c b hb C hc => by
    have hm := hit_mem hb
    simp only [HT_OutOfRoom, List.mem_cons, List.not_mem_nil, or_false, Prod.mk.injEq] at hm
    rcases hm with ⟨rfl, rfl⟩ | ⟨rfl, rfl⟩
    · have e := hc.one q_NoBlock; subst e; exact PySem.W.exm_ref bP_OutOfRoom dP_OutOfRoom tP_OutOfRoom s_NoBlock_OutOfRoom
    · have e := hc.one q_OutOfRoom; subst e; exact PySem.W.exm_ref bP_OutOfRoom dP_OutOfRoom tP_OutOfRoom s_OutOfRoom_OutOfRoom⟩
  have kit_NoBlock_OutOfRoom : KitA K mg HT_NoBlock "OutOfRoom" HT_OutOfRoom := ⟨fun c hb => ⟨fun C hc => by
    have hm := hit_mem hb
    simp only [HT_NoBlock, List.mem_cons, List.not_mem_nil, or_false, Prod.mk.injEq] at hm
    rcases hm with ⟨rfl, h2⟩ | ⟨rfl, h2⟩
    · have e := hc.one q_NoBlock; subst e; exact ⟨_, g_OutOfRoom, kit_ref (b := (hit HT_OutOfRoom "NoBlock").getD false) dP_OutOfRoom tP_OutOfRoom (by rw [show (hit HT_OutOfRoom "NoBlock").getD false = false by decide +kernel]; exact s_NoBlock_OutOfRoom) s_OutOfRoom_OutOfRoom⟩
    · have e := hc.one q_OutOfRoom; subst e; exact ⟨_, g_OutOfRoom, kit_ref (b := (hit HT_OutOfRoom "OutOfRoom").getD false) dP_OutOfRoom tP_OutOfRoom (by rw [show (hit HT_OutOfRoom "OutOfRoom").getD false = true by decide +kernel]; exact s_OutOfRoom_OutOfRoom) s_OutOfRoom_OutOfRoom⟩⟩⟩
  have kit_NoBlock_ShapewrightError : KitA K mg HT_NoBlock "ShapewrightError" HT_ShapewrightError := ⟨fun c hb => ⟨fun C hc => by
    have hm := hit_mem hb
    simp only [HT_NoBlock, List.mem_cons, List.not_mem_nil, or_false, Prod.mk.injEq] at hm
    rcases hm with ⟨rfl, h2⟩ | ⟨rfl, h2⟩
    · have e := hc.one q_NoBlock; subst e; exact ⟨_, g_ShapewrightError, kit_ref (b := (hit HT_ShapewrightError "NoBlock").getD false) dP_ShapewrightError tP_ShapewrightError (by rw [show (hit HT_ShapewrightError "NoBlock").getD false = true by decide +kernel]; exact s_NoBlock_ShapewrightError) s_ShapewrightError_ShapewrightError⟩
    · have e := hc.one q_OutOfRoom; subst e; exact ⟨_, g_ShapewrightError, kit_ref (b := (hit HT_ShapewrightError "OutOfRoom").getD false) dP_ShapewrightError tP_ShapewrightError (by rw [show (hit HT_ShapewrightError "OutOfRoom").getD false = true by decide +kernel]; exact s_OutOfRoom_ShapewrightError) s_ShapewrightError_ShapewrightError⟩⟩⟩
  have kit_OutOfRoom_NoBlock : KitA K mg HT_OutOfRoom "NoBlock" HT_NoBlock := ⟨fun c hb => ⟨fun C hc => by
    have hm := hit_mem hb
    simp only [HT_OutOfRoom, List.mem_cons, List.not_mem_nil, or_false, Prod.mk.injEq] at hm
    rcases hm with ⟨rfl, h2⟩ | ⟨rfl, h2⟩
    · have e := hc.one q_NoBlock; subst e; exact ⟨_, g_NoBlock, kit_ref (b := (hit HT_NoBlock "NoBlock").getD false) dP_NoBlock tP_NoBlock (by rw [show (hit HT_NoBlock "NoBlock").getD false = true by decide +kernel]; exact s_NoBlock_NoBlock) s_NoBlock_NoBlock⟩
    · have e := hc.one q_OutOfRoom; subst e; exact ⟨_, g_NoBlock, kit_ref (b := (hit HT_NoBlock "OutOfRoom").getD false) dP_NoBlock tP_NoBlock (by rw [show (hit HT_NoBlock "OutOfRoom").getD false = false by decide +kernel]; exact s_OutOfRoom_NoBlock) s_NoBlock_NoBlock⟩⟩⟩
  have kit_OutOfRoom_ShapewrightError : KitA K mg HT_OutOfRoom "ShapewrightError" HT_ShapewrightError := ⟨fun c hb => ⟨fun C hc => by
    have hm := hit_mem hb
    simp only [HT_OutOfRoom, List.mem_cons, List.not_mem_nil, or_false, Prod.mk.injEq] at hm
    rcases hm with ⟨rfl, h2⟩ | ⟨rfl, h2⟩
    · have e := hc.one q_NoBlock; subst e; exact ⟨_, g_ShapewrightError, kit_ref (b := (hit HT_ShapewrightError "NoBlock").getD false) dP_ShapewrightError tP_ShapewrightError (by rw [show (hit HT_ShapewrightError "NoBlock").getD false = true by decide +kernel]; exact s_NoBlock_ShapewrightError) s_ShapewrightError_ShapewrightError⟩
    · have e := hc.one q_OutOfRoom; subst e; exact ⟨_, g_ShapewrightError, kit_ref (b := (hit HT_ShapewrightError "OutOfRoom").getD false) dP_ShapewrightError tP_ShapewrightError (by rw [show (hit HT_ShapewrightError "OutOfRoom").getD false = true by decide +kernel]; exact s_OutOfRoom_ShapewrightError) s_ShapewrightError_ShapewrightError⟩⟩⟩
  have rai_NoBlock : RaiT K mg "NoBlock" CC_NoBlock := ⟨q_NoBlock, g_NoBlock, xP_NoBlock, kP_NoBlock, bP_NoBlock, tP_NoBlock⟩
  have rai_OutOfRoom : RaiT K mg "OutOfRoom" CC_OutOfRoom := ⟨q_OutOfRoom, g_OutOfRoom, xP_OutOfRoom, kP_OutOfRoom, bP_OutOfRoom, tP_OutOfRoom⟩
  refine ⟨PySem.W.fnOf "law" "law" (defArgs sLaw) (defBody sLaw) (defScope sLaw) .none kV11 dc11 pm11 an11 cd11 ct11, fun s v => .of_eq rfl, fun base _ _ => ?_⟩
  have OWordOfBlock := okWordOfBlock (P := l.prog) (w := w) (base := base) (k := 0) F1 b1 g1 
  have ONamesBlock := okNamesBlock (P := l.prog) (w := w) (base := base) (k := 0) F2 b2 g2 
  have OAddressOf := okAddressOf (P := l.prog) (w := w) (base := base) (k := 0) F3 b3 g3 
  have OLawMix := okLawMix (P := l.prog) (w := w) (base := base) (k := 0) F4 b4 g4 nb_int
  have OLawTape := okLawTape (P := l.prog) (w := w) (base := base) (k := 0) F5 b5 g5 nb_list
  have OLawTake := okLawTake (P := l.prog) (w := w) (base := base) (k := 1) F6 b6 g6 (OLawMix.mono (by decide)) nb_int nb_len
  have OLawWord := okLawWord (P := l.prog) (w := w) (base := base) (k := 2) F7 b7 g7 (OLawTake.mono (by decide)) nb_len
  have OHeapFits := okHeapFits (P := l.prog) (w := w) (base := base) (k := 0) F13 b13 q_Heap CL_Heap ⟨a13, i13, k13⟩ cl_Heap nb_len c_HEADER
  have OHeapMake := okHeapMake (P := l.prog) (w := w) (base := base) (k := 1) F14 b14 q_Heap CL_Heap ⟨a14, i14, k14⟩ (OWordOfBlock.mono (by decide)) (OHeapFits.mono (by decide)) cl_Heap rai_OutOfRoom nb_len
  have OHeapBlockAddress := okHeapBlockAddress (P := l.prog) (w := w) (base := base) (k := 1) F18 b18 q_Heap CL_Heap ⟨a18, i18, k18⟩ (OAddressOf.mono (by decide)) (ONamesBlock.mono (by decide)) cl_Heap rai_NoBlock
  have OHeapFieldAddress := okHeapFieldAddress (P := l.prog) (w := w) (base := base) (k := 2) F19 b19 q_Heap CL_Heap ⟨a19, i19, k19⟩ (OHeapBlockAddress.mono (by decide)) cl_Heap rai_NoBlock c_HEADER
  have OHeapField := okHeapField (P := l.prog) (w := w) (base := base) (k := 3) F16 b16 q_Heap CL_Heap ⟨a16, i16, k16⟩ (OHeapFieldAddress.mono (by decide)) cl_Heap
  have OLawMake := okLawMake (P := l.prog) (w := w) (base := base) (k := 4) F8 b8 g8 (OHeapField.mono (by decide)) (OHeapMake.mono (by decide)) (OLawTake.mono (by decide)) (OHeapFits.mono (by decide)) (OLawWord.mono (by decide)) hit_OutOfRoom exc_OutOfRoom kit_OutOfRoom_NoBlock kit_OutOfRoom_ShapewrightError nb_bool nb_isinstance nb_len nb_list nb_range
  have OHeapHeader := okHeapHeader (P := l.prog) (w := w) (base := base) (k := 2) F15 b15 q_Heap CL_Heap ⟨a15, i15, k15⟩ (OHeapBlockAddress.mono (by decide)) cl_Heap nb_tuple c_HEADER
  have OHeapStoreField := okHeapStoreField (P := l.prog) (w := w) (base := base) (k := 3) F17 b17 q_Heap CL_Heap ⟨a17, i17, k17⟩ (OHeapFieldAddress.mono (by decide)) cl_Heap
  have OLawRefused := okLawRefused (P := l.prog) (w := w) (base := base) (k := 4) F9 b9 g9 (OHeapStoreField.mono (by decide)) (OHeapField.mono (by decide)) (OHeapHeader.mono (by decide)) hit_NoBlock exc_NoBlock kit_NoBlock_OutOfRoom kit_NoBlock_ShapewrightError nb_isinstance
  have OLawLook := okLawLook (P := l.prog) (w := w) (base := base) (k := 5) F10 b10 g10 (OLawRefused.mono (by decide)) (OLawTake.mono (by decide)) (OHeapField.mono (by decide)) (OHeapStoreField.mono (by decide)) (OLawWord.mono (by decide)) (OHeapHeader.mono (by decide)) nb_len nb_range nb_tuple
  have OHeapInit := okHeapInit (P := l.prog) (w := w) (base := base) (k := 0) F12 b12 q_Heap g_Heap ⟨mk_Heap, a12, i12, kc_Heap⟩ cl_Heap
  exact okLaw (P := l.prog) (w := w) (base := base) (k := 6) F11 (OLawTake.mono (by decide)) (OLawMake.mono (by decide)) (OLawLook.mono (by decide)) (OHeapInit.mono (by decide)) (OLawTape.mono (by decide)) cl_Heap nb_range
end K72
open PySem PySem.W PyProof.Rows
set_option maxHeartbeats 0 in
theorem PySem.Challenge.cw_shapewright_k72_blocks_of_the_heap_holds : PySem.Challenge.rw_shapewright_k72_blocks_of_the_heap.Holds := by
  w_on; o_law; k_head; (case hw => w_witness2)
  k_fill
  refine L2.walk_of (l := PySem.Challenge.rw_shapewright_k72_blocks_of_the_heap) (n := 63) (k := 7) (x := "script") (CX := fun _ => L2.CX0) (sp := fun w => Mir.spF _ 1 K72.FLaw) rfl (by decide) rfl ⟨rfl, by decide, by decide⟩ (fun w h Y => PySem.W.kIn_of Y) ?F (fun _ _ a ns hl hO hS => Mir.law_sp hO hS (K72.pure_law ns hl)) (fun _ _ _ _ _ h => h)
  case F =>
    intro w mg fa h KX G hmg
    refine' K72.all_mk KX G hmg ?q_Heap ?q_NoBlock ?q_OutOfRoom ?q_ShapewrightError ?pg_Heap ?hd_Heap ?po_Heap ?sa_Heap ?mk_Heap ?kc_Heap ?n_Heap_beginnings ?n_Heap_cells ?n_Heap_words ?xP_NoBlock ?kP_NoBlock ?bP_NoBlock ?tP_NoBlock ?dP_NoBlock ?s_NoBlock_NoBlock ?s_NoBlock_OutOfRoom ?s_NoBlock_ShapewrightError ?xP_OutOfRoom ?kP_OutOfRoom ?bP_OutOfRoom ?tP_OutOfRoom ?dP_OutOfRoom ?s_OutOfRoom_NoBlock ?s_OutOfRoom_OutOfRoom ?s_OutOfRoom_ShapewrightError ?xP_ShapewrightError ?kP_ShapewrightError ?bP_ShapewrightError ?tP_ShapewrightError ?dP_ShapewrightError ?s_ShapewrightError_ShapewrightError ?en ?et ?eg_NoBlock ?ek_NoBlock ?ea_NoBlock ?em_NoBlock ?eg_OutOfRoom ?ek_OutOfRoom ?ea_OutOfRoom ?em_OutOfRoom ?a1 ?l1 ?c1 ?k1 ?a2 ?l2 ?c2 ?k2 ?a3 ?l3 ?c3 ?k3 ?a4 ?l4 ?c4 ?k4 ?a5 ?l5 ?c5 ?k5 ?a6 ?l6 ?c6 ?k6 ?a7 ?l7 ?c7 ?k7 ?a8 ?l8 ?c8 ?k8 ?a9 ?l9 ?c9 ?k9 ?a10 ?l10 ?c10 ?k10 ?a11 ?l11 ?c11 ?k11 ?a12 ?i12 ?l12 ?c12 ?k12 ?a13 ?i13 ?l13 ?c13 ?k13 ?a14 ?i14 ?l14 ?c14 ?k14 ?a15 ?i15 ?l15 ?c15 ?k15 ?a16 ?i16 ?l16 ?c16 ?k16 ?a17 ?i17 ?l17 ?c17 ?k17 ?a18 ?i18 ?l18 ?c18 ?k18 ?a19 ?i19 ?l19 ?c19 ?k19 ?z1 ?z2 ?z3 ?z4 ?z5 ?z6 ?z7 ?x0
    (case q_Heap => k_is)
    (case q_NoBlock => k_is)
    (case q_OutOfRoom => k_is)
    (case q_ShapewrightError => k_is)
    (case pg_Heap => k_is)
    (case hd_Heap => k_is)
    (case po_Heap => k_is)
    (case sa_Heap => k_is)
    (case mk_Heap => k_is)
    (case kc_Heap => k_is)
    (case n_Heap_beginnings => k_is)
    (case n_Heap_cells => k_is)
    (case n_Heap_words => k_is)
    (case xP_NoBlock => first | k_exc | k_is)
    (case kP_NoBlock => k_is)
    (case bP_NoBlock => k_is)
    (case tP_NoBlock => k_is)
    (case dP_NoBlock => k_is)
    (case s_NoBlock_NoBlock => k_is)
    (case s_NoBlock_OutOfRoom => k_is)
    (case s_NoBlock_ShapewrightError => k_is)
    (case xP_OutOfRoom => first | k_exc | k_is)
    (case kP_OutOfRoom => k_is)
    (case bP_OutOfRoom => k_is)
    (case tP_OutOfRoom => k_is)
    (case dP_OutOfRoom => k_is)
    (case s_OutOfRoom_NoBlock => k_is)
    (case s_OutOfRoom_OutOfRoom => k_is)
    (case s_OutOfRoom_ShapewrightError => k_is)
    (case xP_ShapewrightError => first | k_exc | k_is)
    (case kP_ShapewrightError => k_is)
    (case bP_ShapewrightError => k_is)
    (case tP_ShapewrightError => k_is)
    (case dP_ShapewrightError => k_is)
    (case s_ShapewrightError_ShapewrightError => k_is)
    (case en => k_is)
    (case et => k_is)
    (case eg_NoBlock => k_is)
    (case ek_NoBlock => k_is)
    (case ea_NoBlock => k_is)
    (case em_NoBlock => k_is)
    (case eg_OutOfRoom => k_is)
    (case ek_OutOfRoom => k_is)
    (case ea_OutOfRoom => k_is)
    (case em_OutOfRoom => k_is)
    (case a1 => k_is)
    (case l1 => k_is)
    (case c1 => k_is)
    (case k1 => k_is)
    (case a2 => k_is)
    (case l2 => k_is)
    (case c2 => k_is)
    (case k2 => k_is)
    (case a3 => k_is)
    (case l3 => k_is)
    (case c3 => k_is)
    (case k3 => k_is)
    (case a4 => k_is)
    (case l4 => k_is)
    (case c4 => k_is)
    (case k4 => k_is)
    (case a5 => k_is)
    (case l5 => k_is)
    (case c5 => k_is)
    (case k5 => k_is)
    (case a6 => k_is)
    (case l6 => k_is)
    (case c6 => k_is)
    (case k6 => k_is)
    (case a7 => k_is)
    (case l7 => k_is)
    (case c7 => k_is)
    (case k7 => k_is)
    (case a8 => k_is)
    (case l8 => k_is)
    (case c8 => k_is)
    (case k8 => k_is)
    (case a9 => k_is)
    (case l9 => k_is)
    (case c9 => k_is)
    (case k9 => k_is)
    (case a10 => k_is)
    (case l10 => k_is)
    (case c10 => k_is)
    (case k10 => k_is)
    (case a11 => k_is)
    (case l11 => k_is)
    (case c11 => k_is)
    (case k11 => k_is)
    (case a12 => k_is)
    (case i12 => k_is)
    (case l12 => k_is)
    (case c12 => k_is)
    (case k12 => k_is)
    (case a13 => k_is)
    (case i13 => k_is)
    (case l13 => k_is)
    (case c13 => k_is)
    (case k13 => k_is)
    (case a14 => k_is)
    (case i14 => k_is)
    (case l14 => k_is)
    (case c14 => k_is)
    (case k14 => k_is)
    (case a15 => k_is)
    (case i15 => k_is)
    (case l15 => k_is)
    (case c15 => k_is)
    (case k15 => k_is)
    (case a16 => k_is)
    (case i16 => k_is)
    (case l16 => k_is)
    (case c16 => k_is)
    (case k16 => k_is)
    (case a17 => k_is)
    (case i17 => k_is)
    (case l17 => k_is)
    (case c17 => k_is)
    (case k17 => k_is)
    (case a18 => k_is)
    (case i18 => k_is)
    (case l18 => k_is)
    (case c18 => k_is)
    (case k18 => k_is)
    (case a19 => k_is)
    (case i19 => k_is)
    (case l19 => k_is)
    (case c19 => k_is)
    (case k19 => k_is)
    (case z1 => k_is)
    (case z2 => k_is)
    (case z3 => k_is)
    (case z4 => k_is)
    (case z5 => k_is)
    (case z6 => k_is)
    (case z7 => k_is)
    (case x0 => k_is)

