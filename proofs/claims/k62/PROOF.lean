import PyProof.Rows.All
import Wide.All
import OpenK.AllK
import Wide.FinOn
import HandS.ForMost
import HandS.ForExc
import HandS.Rev
import HandS.TupAny
import HandS.More
import HandS.Star
import HandS.Codes
import HandS.DictComp
import HandS.SetKeys
import HandS.Zip
import HandS.IsInst
import HandS.Wide
import HandS.Flow
import HandS.FStr
import HandS.Deep
import HandS.Nested
import HandS.Style
import HandS.TupMul
import KE.KDictList
import KE.GoesMore
import HandS.SortInts
import HandS.Zip0
import HandS.Sort
import HandS.TryOnly
import KE.GoesSet
import KE.KNestM
import HandS.EndTab
import HandS.CallLocal
import PySem.Challenge.RW_shapewright_k62_instructions
set_option Elab.async false
set_option linter.all false
set_option maxRecDepth 100000
namespace Mir
open PySem PySem.Spec PyProof.Rows L2

/-! ### plain values and stores -/
inductive W where
  | non
  | bl (b : Bool)
  | int (i : Int)
  | str (x : Str)
  | tup (ws : List W)
  | lro (ws : List W)
  | ref (n : Nat)
  | fn (x : Str)
/-- a lambda, as it is written: its code's name, its parameters, what it captures -/
structure LamA where
  qual : Str
  params : Arguments
  body : Expr
  scope : Scope
  ps : List Str
  fr : List Str
inductive O where
  | lst (ws : List W)
  | dct (kvs : List (Key × W))
  | lam (A : LamA) (caps : List W)
  | tab (P : Addr) (q : Str)
  | dead
abbrev Sto := List O
abbrev EnvM := List (Option W)

/-! ### how they lie in the heap -/
/-- a tuple: made in the run, or written at the top -/
def TuA (K : PySem.W.Frag) (H : Hp) (a : Addr) (xs : List V) : Prop :=
  H a = some (.tup xs) ∨ ∃ (o : Obj) (its : Array Value) (n : Nat), K.lookup a = some o ∧ o.cls = .type "tuple" ∧ o.data = .seq its n ∧ its.size ≤ sizeLine ∧ Vals xs its.toList
/-- a list that is never written -/
def LiA (K : PySem.W.Frag) (H : Hp) (a : Addr) (xs : List V) : Prop :=
  (∃ o, H a = some (.frz o (.lst xs))) ∨ ∃ (o : Obj) (its : Array Value) (n : Nat), K.lookup a = some o ∧ o.cls = .type "list" ∧ o.dict = none ∧ o.data = .seq its n ∧ its.size ≤ sizeLine ∧ Vals xs its.toList
theorem TuA.of {K : PySem.W.Frag} {H : Hp} {a : Addr} {xs : List V} (h : H a = some (.tup xs)) : TuA K H a xs := .inl h
theorem TuA.sq {K : PySem.W.Frag} {H : Hp} {a : Addr} {xs : List V} (h : TuA K H a xs) : SqT K H a xs := by
  rcases h with h | h
  · exact .inl (.inl h)
  · exact .inr h
theorem LiA.sq {K : PySem.W.Frag} {H : Hp} {a : Addr} {xs : List V} (h : LiA K H a xs) : SqL K H a xs := by
  rcases h with h | h
  · exact .inl (.inr h)
  · exact .inr h
mutual
inductive R (K : PySem.W.Frag) (m : List Addr) (H : Hp) : W → V → Prop
  | non : R K m H .non .non
  | bl (b : Bool) : R K m H (.bl b) (.bl b)
  | int (i : Int) : R K m H (.int i) (.int i)
  | str (x : Str) : R K m H (.str x) (.str x)
  | tup {p : Addr} {vs : List V} {ws : List W} : TuA K H p vs → RL K m H ws vs → R K m H (.tup ws) (.ref p)
  | lro {p : Addr} {vs : List V} {ws : List W} : LiA K H p vs → RL K m H ws vs → R K m H (.lro ws) (.ref p)
  | ref {n : Nat} {a : Addr} : m[n]? = some a → R K m H (.ref n) (.ref a)
  | fn {x : Str} {a : Addr} : PySem.W.nsIn K mainGlobals x = some (some (.ref a)) → R K m H (.fn x) (.ref a)
inductive RL (K : PySem.W.Frag) (m : List Addr) (H : Hp) : List W → List V → Prop
  | nil : RL K m H [] []
  | cons {w : W} {v : V} {ws : List W} {vs : List V} : R K m H w v → RL K m H ws vs → RL K m H (w :: ws) (v :: vs)
end
inductive RK (K : PySem.W.Frag) (m : List Addr) (H : Hp) : List (Key × W) → List (Key × V) → Prop
  | nil : RK K m H [] []
  | cons {k : Key} {w : W} {v : V} {ws : List (Key × W)} {vs : List (Key × V)} : R K m H w v → RK K m H ws vs → RK K m H ((k, w) :: ws) ((k, v) :: vs)
/-- H' goes on from H: what is not at m stays -/
structure Adv (m : List Addr) (H : Hp) (m' : List Addr) (H' : Hp) : Prop where
  pre : ∃ t, m' = m ++ t
  same : ∀ a o, H a = some o → a ∉ m → H' a = some o
  new : ∀ a, a ∈ m' → a ∈ m ∨ H a = none
  tup : ∀ a xs, H a = some (.tup xs) → H' a = some (.tup xs)
  frz : ∀ a o u, H a = some (.frz o u) → H' a = some (.frz o u)
theorem Adv.refl (m : List Addr) (H : Hp) : Adv m H m H := ⟨⟨[], by simp⟩, fun _ _ h _ => h, fun _ h => .inl h, fun _ _ h => h, fun _ _ _ h => h⟩
theorem Adv.trans {m m1 m2 : List Addr} {H H1 H2 : Hp} (a : Adv m H m1 H1) (b : Adv m1 H1 m2 H2) : Adv m H m2 H2 := by
  refine ⟨?_, fun x o h n => ?_, fun x h => ?_, fun x xs h => b.tup x xs (a.tup x xs h), fun x o u h => b.frz x o u (a.frz x o u h)⟩
  · obtain ⟨t, rfl⟩ := a.pre
    obtain ⟨t', rfl⟩ := b.pre
    exact ⟨t ++ t', by rw [List.append_assoc]⟩
  · refine b.same x o (a.same x o h n) fun q => ?_
    rcases a.new x q with q | q
    · exact n q
    · rw [h] at q; cases q
  · rcases b.new x h with q | q
    · exact a.new x q
    · by_cases hm : x ∈ m
      · exact .inl hm
      · cases e : H x with
        | none => exact .inr rfl
        | some o =>
          rw [a.same x o e hm] at q
          cases q
/-- what descriptions lean on -/
structure Ext (m : List Addr) (H : Hp) (m' : List Addr) (H' : Hp) : Prop where
  pre : ∃ t, m' = m ++ t
  tup : ∀ a xs, H a = some (.tup xs) → H' a = some (.tup xs)
  frz : ∀ a o u, H a = some (.frz o u) → H' a = some (.frz o u)
theorem Adv.ext {m m' : List Addr} {H H' : Hp} (a : Adv m H m' H') : Ext m H m' H' := ⟨a.pre, a.tup, a.frz⟩
theorem Ext.get {m m' : List Addr} {H H' : Hp} (a : Ext m H m' H') {n : Nat} {x : Addr} (h : m[n]? = some x) : m'[n]? = some x := by
  obtain ⟨t, rfl⟩ := a.pre
  rw [List.getElem?_append_left (List.getElem?_eq_some_iff.mp h).1]
  exact h
theorem Adv.get {m m' : List Addr} {H H' : Hp} (a : Adv m H m' H') {n : Nat} {x : Addr} (h : m[n]? = some x) : m'[n]? = some x := by
  obtain ⟨t, rfl⟩ := a.pre
  rw [List.getElem?_append_left (List.getElem?_eq_some_iff.mp h).1]
  exact h
section
variable {K : PySem.W.Frag} {m m' : List Addr} {H H' : Hp}
theorem TuA.ext {a : Addr} {xs : List V} (A : Ext m H m' H') (h : TuA K H a xs) : TuA K H' a xs := by
  rcases h with h | h
  · exact .inl (A.tup _ _ h)
  · exact .inr h
theorem LiA.ext {a : Addr} {xs : List V} (A : Ext m H m' H') (h : LiA K H a xs) : LiA K H' a xs := by
  rcases h with ⟨o, h⟩ | h
  · exact .inl ⟨o, A.frz _ _ _ h⟩
  · exact .inr h
mutual
theorem R.ext (A : Ext m H m' H') : ∀ {w : W} {v : V}, R K m H w v → R K m' H' w v
  | .non, _, h => by cases h; exact .non
  | .bl _, _, h => by cases h; exact .bl _
  | .int _, _, h => by cases h; exact .int _
  | .str _, _, h => by cases h; exact .str _
  | .tup ws, _, h => by
    cases h with
    | tup h1 h2 => exact .tup (h1.ext A) (RL.ext A h2)
  | .lro ws, _, h => by
    cases h with
    | lro h1 h2 => exact .lro (h1.ext A) (RL.ext A h2)
  | .ref _, _, h => by
    cases h with
    | ref h1 => exact .ref (A.get h1)
  | .fn _, _, h => by
    cases h with
    | fn h1 => exact .fn h1
theorem RL.ext (A : Ext m H m' H') : ∀ {ws : List W} {vs : List V}, RL K m H ws vs → RL K m' H' ws vs
  | [], _, h => by cases h; exact .nil
  | w :: ws, _, h => by
    cases h with
    | cons h1 h2 => exact .cons (R.ext A h1) (RL.ext A h2)
end
theorem RK.ext (A : Ext m H m' H') : ∀ {ws : List (Key × W)} {vs : List (Key × V)}, RK K m H ws vs → RK K m' H' ws vs
  | [], _, h => by cases h; exact .nil
  | w :: ws, _, h => by
    cases h with
    | cons h1 h2 => exact .cons (h1.ext A) (RK.ext A h2)
theorem R.adv (A : Adv m H m' H') {w : W} {v : V} (h : R K m H w v) : R K m' H' w v := R.ext A.ext h
theorem RL.adv (A : Adv m H m' H') {w : List W} {v : List V} (h : RL K m H w v) : RL K m' H' w v := RL.ext A.ext h
theorem RK.adv (A : Adv m H m' H') {w : List (Key × W)} {v : List (Key × V)} (h : RK K m H w v) : RK K m' H' w v := RK.ext A.ext h
theorem RL.len : ∀ {ws : List W} {vs : List V}, RL K m H ws vs → vs.length = ws.length
  | [], _, h => by cases h; rfl
  | w :: ws, _, h => by
    cases h with
    | cons h1 h2 => rw [List.length_cons, List.length_cons, RL.len h2]
theorem RL.get : ∀ {ws : List W} {vs : List V} {i : Nat} {v : V}, RL K m H ws vs → vs[i]? = some v → ∃ w, ws[i]? = some w ∧ R K m H w v
  | [], _, i, x, h, e => by cases h; cases e
  | d :: r, _, 0, x, h, e => by
    cases h with
    | cons h1 h2 => cases e; exact ⟨_, rfl, h1⟩
  | d :: r, _, i + 1, x, h, e => by
    cases h with
    | cons h1 h2 => exact RL.get (i := i) h2 e
theorem RL.at : ∀ {ws : List W} {vs : List V} {i : Nat} {w : W}, RL K m H ws vs → ws[i]? = some w → ∃ v, vs[i]? = some v ∧ R K m H w v
  | [], _, i, x, h, e => by cases e
  | d :: r, _, 0, x, h, e => by
    cases h with
    | cons h1 h2 => cases e; exact ⟨_, rfl, h1⟩
  | d :: r, _, i + 1, x, h, e => by
    cases h with
    | cons h1 h2 => exact RL.at (i := i) h2 e
theorem RL.app : ∀ {ws ws' : List W} {vs vs' : List V}, RL K m H ws vs → RL K m H ws' vs' → RL K m H (ws ++ ws') (vs ++ vs')
  | [], _, _, _, h, g => by cases h; exact g
  | d :: r, _, _, _, h, g => by
    cases h with
    | cons h1 h2 => exact .cons h1 (RL.app h2 g)
theorem RL.take : ∀ {ws : List W} {vs : List V} (n : Nat), RL K m H ws vs → RL K m H (ws.take n) (vs.take n)
  | [], _, n, h => by cases h; rw [List.take_nil, List.take_nil]; exact .nil
  | d :: r, _, 0, h => by rw [List.take_zero, List.take_zero]; exact .nil
  | d :: r, _, n + 1, h => by
    cases h with
    | cons h1 h2 => exact .cons h1 (RL.take n h2)
theorem RL.drop : ∀ {ws : List W} {vs : List V} (n : Nat), RL K m H ws vs → RL K m H (ws.drop n) (vs.drop n)
  | [], _, n, h => by cases h; rw [List.drop_nil, List.drop_nil]; exact .nil
  | d :: r, _, 0, h => h
  | d :: r, _, n + 1, h => by
    cases h with
    | cons h1 h2 => exact RL.drop n h2
theorem RL.set : ∀ {ws : List W} {vs : List V} (n : Nat) {w : W} {v : V}, RL K m H ws vs → R K m H w v → RL K m H (ws.set n w) (vs.set n v)
  | [], _, n, _, _, h, g => by cases h; exact .nil
  | d :: r, _, 0, _, _, h, g => by
    cases h with
    | cons h1 h2 => exact .cons g h2
  | d :: r, _, n + 1, _, _, h, g => by
    cases h with
    | cons h1 h2 => exact .cons h1 (RL.set n h2 g)
theorem RL.rev {ws : List W} {vs : List V} (h : RL K m H ws vs) : RL K m H ws.reverse vs.reverse := by
  have key : ∀ {ws : List W} {vs : List V} {as : List W} {bs : List V}, RL K m H ws vs → RL K m H as bs → RL K m H (ws.reverseAux as) (vs.reverseAux bs) := by
    intro ws
    induction ws with
    | nil => intro vs as bs h g; cases h; exact g
    | cons x r ih =>
      intro vs as bs h g
      cases h with
      | @cons _ v _ vs h1 h2 => exact @ih vs (x :: as) (v :: bs) h2 (.cons h1 g)
  exact key h .nil
theorem RL.dropLast {ws : List W} {vs : List V} (h : RL K m H ws vs) : RL K m H ws.dropLast vs.dropLast := by
  rw [List.dropLast_eq_take, List.dropLast_eq_take, h.len]
  exact h.take _
theorem RL.erase : ∀ {ws : List W} {vs : List V} (n : Nat), RL K m H ws vs → RL K m H (ws.eraseIdx n) (vs.eraseIdx n)
  | [], _, n, h => by cases h; exact .nil
  | d :: r, _, 0, h => by
    cases h with
    | cons h1 h2 => exact h2
  | d :: r, _, n + 1, h => by
    cases h with
    | cons h1 h2 => exact .cons h1 (RL.erase n h2)
theorem RL.one {w : W} {v : V} (h : R K m H w v) : RL K m H [w] [v] := .cons h .nil
theorem RL.at_of {ws : List W} {vs : List V} {i : Int} {w : W} (h : RL K m H ws vs) (e : atI ws i = some w) : ∃ v, atI vs i = some v ∧ R K m H w v := by
  unfold atI at e ⊢
  rw [h.len]
  cases q : ixN ws.length i with
  | none => rw [q] at e; cases e
  | some j =>
    rw [q] at e
    exact h.at e
theorem RL.cut {ws : List W} {vs : List V} (h : RL K m H ws vs) (lo hi : Option Int) :
    RL K m H ((ws.drop (HT.sIx ws.length 0 lo)).take (HT.sIx ws.length ws.length hi - HT.sIx ws.length 0 lo)) (cutV vs lo hi) := by
  unfold cutV
  rw [h.len]
  exact (h.drop _).take _

/-! ### lambdas and the tables of their code objects -/
/-- a code object that bears the name q -/
def CodeP (H : Hp) (c : Addr) (q : Str) : Prop := ∃ (oc : Obj) (u : HO) (vs : Array Value) (t : Tok), H c = some (.frz oc u) ∧ oc.data = .fields vs ∧ vs[1]? = some (.str q t)
/-- the captured cells hold the values cvs -/
structure ClO (H : Hp) (cl : List (Str × Addr)) (fr : List Str) (cvs : List V) : Prop where
  len : cvs.length = fr.length
  dom : ∀ y k, cl.lookup y = some k → y ∈ fr
  inj : ∀ x y k, cl.lookup x = some k → cl.lookup y = some k → x = y
  at_ : ∀ (i : Nat) (y : Str), fr[i]? = some y → ∃ (k : Addr) (ok : Obj) (uv : Value) (v : V), cvs[i]? = some v ∧ cl.lookup y = some k ∧ H k = some (.frz ok (.own 0)) ∧ ok.data = .cell (some uv) ∧ RelV v uv
/-- the object at a is the lambda A, what it captured is caps -/
def LamP (K : PySem.W.Frag) (m : List Addr) (H : Hp) (a : Addr) (A : LamA) (caps : List W) : Prop :=
  ∃ (cl : List (Str × Addr)) (c : Addr) (pm ctv : Value) (cvs : List V), H a = some (.frz (PySem.W.kla_obj "<lambda>" A.qual A.params A.body A.scope cl pm c ctv) (.own 0)) ∧ CodeP H c A.qual ∧ ClO H cl A.fr cvs ∧ RL K m H caps cvs
/-- the table at P: every code object that it tells bears the name q -/
def TabP (H : Hp) (P : Addr) (q : Str) : Prop := ∃ ps : Array Value, H P = some (.tbl ps) ∧ TriplesOk ps.toList ∧ ∀ (pos : Pos) (cv : Value), codeAmong pos ps.toList = some cv → ∃ c, cv = .ref c ∧ CodeP H c q
theorem CodeP.ext (A : Ext m H m' H') {c : Addr} {q : Str} (h : CodeP H c q) : CodeP H' c q := by
  obtain ⟨oc, u, vs, t, h1, h2, h3⟩ := h
  exact ⟨oc, u, vs, t, A.frz _ _ _ h1, h2, h3⟩
theorem ClO.ext (A : Ext m H m' H') {cl : List (Str × Addr)} {fr : List Str} {cvs : List V} (h : ClO H cl fr cvs) : ClO H' cl fr cvs :=
  ⟨h.len, h.dom, h.inj, fun i y e => by
    obtain ⟨k, ok, uv, v, h1, h2, h3, h4⟩ := h.at_ i y e
    exact ⟨k, ok, uv, v, h1, h2, A.frz _ _ _ h3, h4⟩⟩
theorem LamP.ext (A : Ext m H m' H') {a : Addr} {L : LamA} {caps : List W} (h : LamP K m H a L caps) : LamP K m' H' a L caps := by
  obtain ⟨cl, c, pm, ctv, cvs, h1, h2, h3, h4⟩ := h
  exact ⟨cl, c, pm, ctv, cvs, A.frz _ _ _ h1, h2.ext A, h3.ext A, h4.ext A⟩
theorem TabP.ext (A : Ext m H m' H') {P : Addr} {q : Str} (h : TabP H P q) (e : H' P = H P) : TabP H' P q := by
  obtain ⟨ps, h1, h2, h3⟩ := h
  refine ⟨ps, by rw [e]; exact h1, h2, fun pos cv hc => ?_⟩
  obtain ⟨c, e1, e2⟩ := h3 pos cv hc
  exact ⟨c, e1, e2.ext A⟩
/-! ### the store -/
def OR (K : PySem.W.Frag) (m : List Addr) (H : Hp) (a : Addr) : O → Prop
  | .lst ws => ∃ vs, H a = some (.lst vs) ∧ RL K m H ws vs
  | .dct kvs => ∃ vs, H a = some (.dK vs) ∧ RK K m H kvs vs
  | .lam A caps => LamP K m H a A caps
  | .tab P q => a = P ∧ TabP H P q
  | .dead => ∃ o, H a = some (.frz o (.own 0)) ∧ ∀ v, o.data ≠ .cell v
structure SR (K : PySem.W.Frag) (m : List Addr) (H : Hp) (st : Sto) : Prop where
  len : m.length = st.length
  nd : m.Nodup
  ok : ∀ (n : Nat) (a : Addr) (o : O), m[n]? = some a → st[n]? = some o → OR K m H a o
def hoOk : O → HO → Prop
  | .lst _, .lst _ => True
  | .dct _, .dK _ => True
  | _, _ => False
theorem SR.at {st : Sto} (S : SR K m H st) {n : Nat} {o : O} (h : st[n]? = some o) : ∃ a, m[n]? = some a ∧ OR K m H a o := by
  have hl : n < m.length := by rw [S.len]; exact (List.getElem?_eq_some_iff.mp h).1
  exact ⟨m[n], List.getElem?_eq_getElem hl, S.ok n _ o (List.getElem?_eq_getElem hl) h⟩
theorem SR.there {st : Sto} (S : SR K m H st) {a : Addr} (h : a ∈ m) : ∃ u, H a = some u ∧ ((∃ vs, u = .lst vs) ∨ (∃ vs, u = .dK vs) ∨ (∃ o, u = .frz o (.own 0)) ∨ ∃ ps, u = .tbl ps) := by
  obtain ⟨n, hn, rfl⟩ := List.mem_iff_getElem.mp h
  have hl : n < st.length := by rw [← S.len]; exact hn
  have q := S.ok n m[n] st[n] (List.getElem?_eq_getElem hn) (List.getElem?_eq_getElem hl)
  cases e : st[n] with
  | lst ws => rw [e] at q; obtain ⟨vs, q, _⟩ := q; exact ⟨_, q, .inl ⟨_, rfl⟩⟩
  | dct ws => rw [e] at q; obtain ⟨vs, q, _⟩ := q; exact ⟨_, q, .inr (.inl ⟨_, rfl⟩)⟩
  | lam A caps => rw [e] at q; obtain ⟨cl, c, pm, ctv, cvs, q, _⟩ := q; exact ⟨_, q, .inr (.inr (.inl ⟨_, rfl⟩))⟩
  | tab P qn => rw [e] at q; obtain ⟨e1, ps, q, _⟩ := q; rw [e1]; exact ⟨_, q, .inr (.inr (.inr ⟨_, rfl⟩))⟩
  | dead => rw [e] at q; obtain ⟨o, q, _⟩ := q; exact ⟨_, q, .inr (.inr (.inl ⟨_, rfl⟩))⟩
theorem OR.ext (A : Ext m H m' H') {a : Addr} {o : O} (h : OR K m H a o) (e : H' a = H a) : OR K m' H' a o := by
  cases o with
  | lst ws => obtain ⟨vs, q, r⟩ := h; exact ⟨vs, by rw [e]; exact q, r.ext A⟩
  | dct ws => obtain ⟨vs, q, r⟩ := h; exact ⟨vs, by rw [e]; exact q, r.ext A⟩
  | lam L caps => exact LamP.ext A h
  | tab P q => obtain ⟨e1, t⟩ := h; subst e1; exact ⟨rfl, t.ext A e⟩
  | dead => obtain ⟨o, q, n⟩ := h; exact ⟨o, by rw [e]; exact q, n⟩
theorem OR.adv (A : Adv m H m' H') {a : Addr} {o : O} (h : OR K m H a o) (e : H' a = H a) : OR K m' H' a o := h.ext A.ext e
/-- a list that was made beside the store joins it -/
theorem Ext.join (D : Addr) : Ext m H (m ++ [D]) H := ⟨⟨[D], rfl⟩, fun _ _ h => h, fun _ _ _ h => h⟩
theorem SR.join {st : Sto} (S : SR K m H st) {p : Addr} {u : O} (hpm : p ∉ m) (h : OR K m H p u) : SR K (m ++ [p]) H (st ++ [u]) := by
  refine ⟨by rw [List.length_append, List.length_append, S.len]; rfl, List.nodup_append.mpr ⟨S.nd, by simp, fun a ha b hb => ?_⟩, fun n a o' h1 h2 => ?_⟩
  · rw [List.mem_singleton.mp hb]
    rintro rfl
    exact hpm ha
  · by_cases hn : n < m.length
    · rw [List.getElem?_append_left hn] at h1
      rw [List.getElem?_append_left (by rw [← S.len]; exact hn)] at h2
      exact (S.ok n a o' h1 h2).ext (Ext.join p) rfl
    · have e : n = m.length := by
        have := (List.getElem?_eq_some_iff.mp h1).1
        rw [List.length_append, List.length_singleton] at this
        omega
      subst e
      rw [List.getElem?_append_right (Nat.le_refl _), Nat.sub_self] at h1
      rw [S.len, List.getElem?_append_right (Nat.le_refl _), Nat.sub_self] at h2
      cases h1
      cases h2
      exact h.ext (Ext.join p) rfl
/-- a list that stands beside the store changes -/
theorem Ext.off {D : Addr} {xs : List V} {o : HO} (h : H D = some (.lst xs)) : Ext m H m (upd H D o) :=
  ⟨⟨[], by simp⟩, fun a ys e => by rw [upd_ne (ne_of e h (fun z => by cases z))]; exact e, fun a u y e => by rw [upd_ne (ne_of e h (fun z => by cases z))]; exact e⟩
theorem SR.off {st : Sto} (S : SR K m H st) {D : Addr} {xs : List V} {o : HO} (hD : D ∉ m) (h : H D = some (.lst xs)) : SR K m (upd H D o) st :=
  ⟨S.len, S.nd, fun n a u h1 h2 => (S.ok n a u h1 h2).ext (Ext.off h) (upd_ne fun z => hD (by rw [← z]; exact List.mem_of_getElem? h1))⟩
/-- a new tuple (or another thing that is not in the store) -/
theorem Adv.fresh {p : Addr} {o : HO} (hp : H p = none) : Adv m H m (upd H p o) :=
  ⟨⟨[], by simp⟩, fun a u h _ => by rw [upd_ne (ne_of_none h hp)]; exact h, fun _ h => .inl h, fun a xs h => by rw [upd_ne (ne_of_none h hp)]; exact h, fun a o u h => by rw [upd_ne (ne_of_none h hp)]; exact h⟩
theorem SR.fresh {st : Sto} (S : SR K m H st) {p : Addr} {o : HO} (hp : H p = none) : SR K m (upd H p o) st :=
  ⟨S.len, S.nd, fun n a u h1 h2 => by
    refine (S.ok n a u h1 h2).adv (Adv.fresh hp) ?_
    obtain ⟨u', h, _⟩ := S.there (List.mem_of_getElem? h1)
    rw [upd_ne (ne_of_none h hp)]⟩
/-- a new object of the store -/
theorem Adv.alloc {p : Addr} {o : HO} (hp : H p = none) : Adv m H (m ++ [p]) (upd H p o) :=
  ⟨⟨[p], rfl⟩, fun a u h _ => by rw [upd_ne (ne_of_none h hp)]; exact h, fun a h => by
    rcases List.mem_append.mp h with h | h
    · exact .inl h
    · rw [List.mem_singleton.mp h]; exact .inr hp, fun a xs h => by rw [upd_ne (ne_of_none h hp)]; exact h, fun a o u h => by rw [upd_ne (ne_of_none h hp)]; exact h⟩
theorem SR.alloc {st : Sto} (S : SR K m H st) {p : Addr} {o : HO} {u : O} (hp : H p = none) (h : OR K (m ++ [p]) (upd H p o) p u) : SR K (m ++ [p]) (upd H p o) (st ++ [u]) := by
  have hpm : p ∉ m := fun q => by
    obtain ⟨u, e, _⟩ := S.there q
    rw [hp] at e; cases e
  refine ⟨by rw [List.length_append, List.length_append, S.len]; rfl, List.nodup_append.mpr ⟨S.nd, by simp, fun a ha b hb => ?_⟩, fun n a o' h1 h2 => ?_⟩
  · rw [List.mem_singleton.mp hb]
    rintro rfl
    exact hpm ha
  · by_cases hn : n < m.length
    · rw [List.getElem?_append_left hn] at h1
      rw [List.getElem?_append_left (by rw [← S.len]; exact hn)] at h2
      refine (S.ok n a o' h1 h2).adv (Adv.alloc hp) ?_
      obtain ⟨u', h, _⟩ := S.there (List.mem_of_getElem? h1)
      rw [upd_ne (ne_of_none h hp)]
    · have e : n = m.length := by
        have := (List.getElem?_eq_some_iff.mp h1).1
        rw [List.length_append, List.length_singleton] at this
        omega
      subst e
      rw [List.getElem?_append_right (Nat.le_refl _), Nat.sub_self] at h1
      rw [S.len, List.getElem?_append_right (Nat.le_refl _), Nat.sub_self] at h2
      cases h1
      cases h2
      exact h
theorem alloc_at {st : Sto} (S : SR K m H st) {p : Addr} {H' : Hp} : R K (m ++ [p]) H' (.ref st.length) (.ref p) := by
  refine .ref ?_
  rw [← S.len, List.getElem?_append_right (Nat.le_refl _), Nat.sub_self]
  rfl
/-- an object of the store is written -/
def WrK (H : Hp) (a : Addr) : Prop := ∃ u, H a = some u ∧ ((∃ vs, u = .lst vs) ∨ ∃ vs, u = .dK vs)
theorem Adv.write {st : Sto} (S : SR K m H st) {n : Nat} {a : Addr} {o : HO} (h : m[n]? = some a) (wk : WrK H a) : Adv m H m (upd H a o) := by
  have ha := List.mem_of_getElem? h
  obtain ⟨u, e, k⟩ := wk
  refine ⟨⟨[], by simp⟩, fun b u h n => ?_, fun _ h => .inl h, fun b xs h => ?_, fun b o u h => ?_⟩
  · rw [upd_ne (fun z => n (by rw [z]; exact ha))]; exact h
  · rw [upd_ne (fun z => ?_)]
    · exact h
    · rw [z, e] at h
      rcases k with ⟨_, rfl⟩ | ⟨_, rfl⟩ <;> cases h
  · rw [upd_ne (fun z => ?_)]
    · exact h
    · rw [z, e] at h
      rcases k with ⟨_, rfl⟩ | ⟨_, rfl⟩ <;> cases h
theorem SR.write {st : Sto} (S : SR K m H st) {n : Nat} {a : Addr} {o : HO} {u : O} (h : m[n]? = some a) (wk : WrK H a) (hu : OR K m (upd H a o) a u) : SR K m (upd H a o) (st.set n u) := by
  refine ⟨by rw [List.length_set]; exact S.len, S.nd, fun j b o' h1 h2 => ?_⟩
  by_cases e : n = j
  · subst e
    rw [h] at h1
    cases h1
    have hl : n < st.length := by rw [← S.len]; exact (List.getElem?_eq_some_iff.mp h).1
    rw [List.getElem?_set_self hl] at h2
    cases h2
    exact hu
  · rw [List.getElem?_set_ne e] at h2
    have hne : b ≠ a := fun z => by
      subst z
      obtain ⟨l1, e1⟩ := List.getElem?_eq_some_iff.mp h
      obtain ⟨l2, e2⟩ := List.getElem?_eq_some_iff.mp h1
      exact e ((List.getElem_inj S.nd).mp (e1.trans e2.symm))
    exact (S.ok j b o' h1 h2).adv (Adv.write S h wk) (upd_ne hne)
/-- the frame's slots -/
def EQ (K : PySem.W.Frag) (m : List Addr) (H : Hp) : Option W → Option V → Prop
  | some w, some v => R K m H w v
  | none, _ => True
  | some _, none => False
inductive ER (K : PySem.W.Frag) (m : List Addr) (H : Hp) : EnvM → List (Option V) → Prop
  | nil : ER K m H [] []
  | cons {x : Option W} {y : Option V} {ρ : EnvM} {σ : List (Option V)} : EQ K m H x y → ER K m H ρ σ → ER K m H (x :: ρ) (y :: σ)
theorem EQ.adv (A : Adv m H m' H') : ∀ {x : Option W} {y : Option V}, EQ K m H x y → EQ K m' H' x y
  | some _, some _, h => R.adv A h
  | none, _, _ => trivial
  | some _, none, h => h
theorem ER.adv (A : Adv m H m' H') : ∀ {ρ : EnvM} {σ : List (Option V)}, ER K m H ρ σ → ER K m' H' ρ σ
  | _, _, .nil => .nil
  | _, _, .cons h t => .cons (h.adv A) (t.adv A)
theorem ER.get : ∀ {ρ : EnvM} {σ : List (Option V)} {i : Nat} {w : W}, ER K m H ρ σ → ρ[i]? = some (some w) → ∃ v, σ[i]? = some (some v) ∧ R K m H w v
  | _, _, _, _, .nil, e => by cases e
  | _, _, 0, w, .cons (x := x) (y := y) h t, e => by
    cases e
    cases y with
    | none => exact False.elim h
    | some v => exact ⟨v, rfl, h⟩
  | _, _, i + 1, w, .cons h t, e => ER.get (i := i) t e
theorem ER.set : ∀ {ρ : EnvM} {σ : List (Option V)} (i : Nat) {w : W} {v : V}, ER K m H ρ σ → R K m H w v → ER K m H (ρ.set i (some w)) (σ.set i (some v))
  | _, _, _, _, _, .nil, r => .nil
  | _, _, 0, w, _, .cons h t, r => .cons r t
  | _, _, i + 1, w, _, .cons h t, r => .cons h (ER.set i t r)
theorem ER.forget : ∀ {ρ : EnvM} {σ : List (Option V)} (i : Nat), ER K m H ρ σ → ER K m H (ρ.set i none) (σ.set i none)
  | _, _, _, .nil => .nil
  | _, _, 0, .cons h t => .cons trivial t
  | _, _, i + 1, .cons h t => .cons h (ER.forget i t)
theorem ER.len : ∀ {ρ : EnvM} {σ : List (Option V)}, ER K m H ρ σ → ρ.length = σ.length
  | _, _, .nil => rfl
  | _, _, .cons h t => by rw [List.length_cons, List.length_cons, ER.len t]
theorem ER.nones (n : Nat) : ER K m H (List.replicate n none) (List.replicate n none) := by
  induction n with
  | zero => exact .nil
  | succ n ih => exact .cons trivial ih
theorem ER.app : ∀ {ρ ρ' : EnvM} {σ σ' : List (Option V)}, ER K m H ρ σ → ER K m H ρ' σ' → ER K m H (ρ ++ ρ') (σ ++ σ')
  | _, _, _, _, .nil, g => g
  | _, _, _, _, .cons h t, g => .cons h (ER.app t g)
theorem RL.env : ∀ {ws : List W} {vs : List V}, RL K m H ws vs → ER K m H (ws.map some) (vs.map some)
  | [], _, h => by cases h; exact .nil
  | w :: ws, _, h => by
    cases h with
    | cons h1 h2 => exact .cons h1 (RL.env h2)
end
end Mir

set_option Elab.async false
set_option linter.all false
set_option maxRecDepth 100000
namespace Mir
open PySem PySem.Spec PyProof.Rows L2

/-! ### results -/
abbrev Rz (α : Type) := Option (α × Sto)
def bd {α β : Type} (x : Rz α) (f : α → Sto → Rz β) : Rz β := match x with
  | some (a, s) => f a s
  | none => none
theorem bd_some {α β : Type} {a : α} {s : Sto} {f : α → Sto → Rz β} : bd (some (a, s)) f = f a s := rfl
theorem bd_none {α β : Type} {f : α → Sto → Rz β} : bd (none : Rz α) f = none := rfl
theorem bd_inv {α β : Type} {x : Rz α} {f : α → Sto → Rz β} {r : β × Sto} (h : bd x f = some r) : ∃ a s, x = some (a, s) ∧ f a s = some r := by
  cases x with
  | none => cases h
  | some p => exact ⟨p.1, p.2, rfl, h⟩
theorem bd_assoc {α β γ : Type} {x : Rz α} {f : α → Sto → Rz β} {g : β → Sto → Rz γ} : bd (bd x f) g = bd x fun a s => bd (f a s) g := by
  cases x <;> rfl
abbrev FE := EnvM → Sto → Rz W
abbrev FT := EnvM → Sto → Rz Bool
abbrev FA := EnvM → Sto → Rz (List W)
abbrev FP := EnvM → Sto → Rz (Option Int)
inductive Out where
  | nx (ρ : EnvM)
  | rt (w : W)
  | bk (ρ : EnvM)
  | ct (ρ : EnvM)
abbrev FS := EnvM → Sto → Rz Out

/-! ### what is wished behind a result -/
def wE (K : PySem.W.Frag) (m : List Addr) (H : Hp) (r : Rz W) (Q : VK) : Prop := ∃ w s, r = some (w, s) ∧ ∀ m' H' v, Adv m H m' H' → SR K m' H' s → R K m' H' w v → Q v H'
def wT (K : PySem.W.Frag) (m : List Addr) (H : Hp) (r : Rz Bool) (Q : Bool → Hp → Prop) : Prop := ∃ b s, r = some (b, s) ∧ ∀ m' H', Adv m H m' H' → SR K m' H' s → Q b H'
def wA (K : PySem.W.Frag) (m : List Addr) (H : Hp) (r : Rz (List W)) (Q : List V → Hp → Prop) : Prop := ∃ ws s, r = some (ws, s) ∧ ∀ m' H' vs, Adv m H m' H' → SR K m' H' s → RL K m' H' ws vs → Q vs H'
def wP (K : PySem.W.Frag) (m : List Addr) (H : Hp) (r : Rz (Option Int)) (Q : Option Int → Hp → Prop) : Prop := ∃ i s, r = some (i, s) ∧ ∀ m' H', Adv m H m' H' → SR K m' H' s → Q i H'
def outE (K : PySem.W.Frag) (m : List Addr) (H : Hp) (s : Sto) (D : Ends) : Out → Prop
  | .nx ρ => ∀ m' H' σ', Adv m H m' H' → SR K m' H' s → ER K m' H' ρ σ' → D.nx σ' H'
  | .bk ρ => ∀ m' H' σ', Adv m H m' H' → SR K m' H' s → ER K m' H' ρ σ' → D.bk σ' H'
  | .ct ρ => ∀ m' H' σ', Adv m H m' H' → SR K m' H' s → ER K m' H' ρ σ' → D.ct σ' H'
  | .rt w => ∀ m' H' v, Adv m H m' H' → SR K m' H' s → R K m' H' w v → D.rt v H'
def wS (K : PySem.W.Frag) (m : List Addr) (H : Hp) (r : Rz Out) (D : Ends) : Prop := ∃ o s, r = some (o, s) ∧ outE K m H s D o
/-! ### the readings -/
def tF (K : PySem.W.Frag) (f : FE) : TE := fun σ H Q => ∃ m ρ s, ER K m H ρ σ ∧ SR K m H s ∧ wE K m H (f ρ s) Q
def tT (K : PySem.W.Frag) (f : FT) : TT := fun σ H Q => ∃ m ρ s, ER K m H ρ σ ∧ SR K m H s ∧ wT K m H (f ρ s) Q
def tA (K : PySem.W.Frag) (f : FA) : TA := fun σ H Q => ∃ m ρ s, ER K m H ρ σ ∧ SR K m H s ∧ wA K m H (f ρ s) Q
def tP (K : PySem.W.Frag) (f : FP) : TO := fun σ H Q => ∃ m ρ s, ER K m H ρ σ ∧ SR K m H s ∧ wP K m H (f ρ s) Q
def tS (K : PySem.W.Frag) (f : FS) : TS := fun D σ H => ∃ m ρ s, ER K m H ρ σ ∧ SR K m H s ∧ wS K m H (f ρ s) D
def OpF (K : PySem.W.Frag) (r : R2) (g : W → W → Sto → Rz W) : Prop := ∀ m H s x y v u Q, SR K m H s → R K m H x v → R K m H y u → wE K m H (g x y s) Q → r v u H Q
def UnF (K : PySem.W.Frag) (r : V → Hp → VK → Prop) (g : W → Sto → Rz W) : Prop := ∀ m H s x v Q, SR K m H s → R K m H x v → wE K m H (g x s) Q → r v H Q
def CallF (K : PySem.W.Frag) (r : List V → Hp → VK → Prop) (g : List W → Sto → Rz W) : Prop := ∀ m H s ws vs Q, SR K m H s → RL K m H ws vs → wE K m H (g ws s) Q → r vs H Q
def MtF (K : PySem.W.Frag) (r : V → List V → Hp → VK → Prop) (g : W → List W → Sto → Rz W) : Prop := ∀ m H s x v ws vs Q, SR K m H s → R K m H x v → RL K m H ws vs → wE K m H (g x ws s) Q → r v vs H Q
def SlF (K : PySem.W.Frag) (r : V → Option Int → Option Int → Hp → VK → Prop) (g : W → Option Int → Option Int → Sto → Rz W) : Prop := ∀ m H s x v lo hi Q, SR K m H s → R K m H x v → wE K m H (g x lo hi s) Q → r v lo hi H Q

section
variable {X : Cx}
theorem _root_.L2.PE.imp {e : Expr} {t t' : TE} (h : PE X e t) (q : ∀ σ H Q, t' σ H Q → t σ H Q) : PE X e t' := ⟨fun pins s σ H Q I r => h.run pins s σ H Q I (q _ _ _ r)⟩
theorem _root_.L2.PT.imp {e : Expr} {t t' : TT} (h : PT X e t) (q : ∀ σ H Q, t' σ H Q → t σ H Q) : PT X e t' := ⟨fun pins s σ H Q I r => h.run pins s σ H Q I (q _ _ _ r)⟩
theorem _root_.L2.PW.imp {e : Expr} {t t' : TT} (h : PW X e t) (q : ∀ σ H Q, t' σ H Q → t σ H Q) : PW X e t' := ⟨fun whole pins s σ H Q I r => h.run whole pins s σ H Q I (q _ _ _ r)⟩
theorem _root_.L2.PA.imp {e : List Expr} {t t' : TA} (h : PA X e t) (q : ∀ σ H Q, t' σ H Q → t σ H Q) : PA X e t' := ⟨fun pos pins s σ H Q I r => h.run pos pins s σ H Q I (q _ _ _ r)⟩
theorem _root_.L2.PS.imp {st : Stmt} {t t' : TS} (h : PS X st t) (q : ∀ D σ H, t' D σ H → t D σ H) : PS X st t' := ⟨fun pins s σ H D I r => h.run pins s σ H D I (q _ _ _ r)⟩
theorem _root_.L2.PSs.imp {st : List Stmt} {t t' : TS} (h : PSs X st t) (q : ∀ D σ H, t' D σ H → t D σ H) : PSs X st t' := ⟨fun pins s σ H D I r => h.run pins s σ H D I (q _ _ _ r)⟩
theorem _root_.L2.PO.imp {e : Option Expr} {t t' : TO} (h : PO X e t) (q : ∀ σ H Q, t' σ H Q → t σ H Q) : PO X e t' := by
  cases h with
  | mk run => exact ⟨fun pins s σ H Q I r => run pins s σ H Q I (q _ _ _ r)⟩
theorem wE.adv {K : PySem.W.Frag} {m m1 : List Addr} {H H1 : Hp} {r : Rz W} {Q : VK} (h : wE K m H r Q) (A : Adv m H m1 H1) : wE K m1 H1 r Q := by
  obtain ⟨w, s, e, q⟩ := h
  exact ⟨w, s, e, fun m' H' v A' => q m' H' v (A.trans A')⟩
theorem wT.adv {K : PySem.W.Frag} {m m1 : List Addr} {H H1 : Hp} {r : Rz Bool} {Q : Bool → Hp → Prop} (h : wT K m H r Q) (A : Adv m H m1 H1) : wT K m1 H1 r Q := by
  obtain ⟨w, s, e, q⟩ := h
  exact ⟨w, s, e, fun m' H' A' => q m' H' (A.trans A')⟩
theorem wA.adv {K : PySem.W.Frag} {m m1 : List Addr} {H H1 : Hp} {r : Rz (List W)} {Q : List V → Hp → Prop} (h : wA K m H r Q) (A : Adv m H m1 H1) : wA K m1 H1 r Q := by
  obtain ⟨w, s, e, q⟩ := h
  exact ⟨w, s, e, fun m' H' v A' => q m' H' v (A.trans A')⟩
theorem outE.adv {K : PySem.W.Frag} {m m1 : List Addr} {H H1 : Hp} {s : Sto} {D : Ends} {o : Out} (h : outE K m H s D o) (A : Adv m H m1 H1) : outE K m1 H1 s D o := by
  cases o with
  | nx ρ => exact fun m' H' σ' A' => h m' H' σ' (A.trans A')
  | bk ρ => exact fun m' H' σ' A' => h m' H' σ' (A.trans A')
  | ct ρ => exact fun m' H' σ' A' => h m' H' σ' (A.trans A')
  | rt w => exact fun m' H' σ' A' => h m' H' σ' (A.trans A')
theorem wS.adv {K : PySem.W.Frag} {m m1 : List Addr} {H H1 : Hp} {r : Rz Out} {D : Ends} (h : wS K m H r D) (A : Adv m H m1 H1) : wS K m1 H1 r D := by
  obtain ⟨o, s, e, q⟩ := h
  exact ⟨o, s, e, q.adv A⟩
/-- the chain: first x, then its follower, in the place where x has come -/
theorem wE.bdE {K : PySem.W.Frag} {m : List Addr} {H : Hp} {x : Rz W} {f : W → Sto → Rz W} {Q : VK} (h : wE K m H (bd x f) Q) : wE K m H x fun v H' => ∃ m' w s, Adv m H m' H' ∧ SR K m' H' s ∧ R K m' H' w v ∧ x = some (w, s) ∧ wE K m' H' (f w s) Q := by
  obtain ⟨w, s, e, q⟩ := h
  obtain ⟨a, s1, e1, e2⟩ := bd_inv e
  exact ⟨a, s1, e1, fun m' H' v A S r => ⟨m', a, s1, A, S, r, e1, w, s, e2, fun m2 H2 v2 A2 => q m2 H2 v2 (A.trans A2)⟩⟩

/-! ### names, constants -/
def eVar (i : Nat) : FE := fun ρ s => match ρ[i]? with
  | some (some w) => some (w, s)
  | _ => none
theorem eVar_at {i : Nat} {ρ : EnvM} {s : Sto} {w : W} (h : ρ[i]? = some (some w)) : eVar i ρ s = some (w, s) := by unfold eVar; rw [h]
def eC (w : W) : FE := fun _ s => some (w, s)
theorem eVar_inv {i : Nat} {ρ : EnvM} {s : Sto} {r : W × Sto} (h : eVar i ρ s = some r) : ρ[i]? = some (some r.1) ∧ s = r.2 := by
  unfold eVar at h
  cases e : ρ[i]? with
  | none => rw [e] at h; cases h
  | some o =>
    cases o with
    | none => rw [e] at h; cases h
    | some w => rw [e] at h; cases h; exact ⟨rfl, rfl⟩
variable {e a b : Expr} {es : List Expr} {pos : Pos}
theorem m_var (i : Nat) {x : Str} (hN : X.N[i]? = some x := by rfl) (hv : Vis X.env.scope x := by first | exact Or.inl rfl | exact Or.inr (Or.inl rfl) | exact Or.inr (Or.inr rfl)) (hd : (x == ("__debug__" : Str)) = false := by decide)
    (hcd : (x == ("__classdict__" : Str)) = false := by decide) : PE X (.Name x pos) (tF X.K (eVar i)) := (pe_var hN hv hd hcd).imp fun σ H Q ⟨m, ρ, s, er, sr, w, s', h, q⟩ => by
  obtain ⟨h1, h2⟩ := eVar_inv h
  obtain ⟨v, hv, r⟩ := er.get h1
  have h2 : s = s' := h2
  subst h2
  exact ⟨v, hv, q m H v (Adv.refl m H) sr r⟩
theorem m_c {v : V} {w : W} (h : PE X e (tC v)) (r : ∀ m H, R X.K m H w v) : PE X e (tF X.K (eC w)) := h.imp fun σ H Q ⟨m, ρ, s, er, sr, w', s', e', q⟩ => by
  cases e'
  exact q m H v (Adv.refl m H) sr (r m H)
theorem m_int {i j} : PE X (.Constant (.int i) j pos) (tF X.K (eC (.int i))) := m_c pe_int fun _ _ => .int _
theorem m_bl {i j} : PE X (.Constant (.bool i) j pos) (tF X.K (eC (.bl i))) := m_c pe_bl fun _ _ => .bl _
theorem m_non {j} : PE X (.Constant .none j pos) (tF X.K (eC .non)) := m_c pe_non fun _ _ => .non
theorem m_str {x j} : PE X (.Constant (.str x) j pos) (tF X.K (eC (.str x))) := m_c pe_str fun _ _ => .str _

/-! ### operators, calls, methods by values -/
def eOp (g : W → W → Sto → Rz W) (a b : FE) : FE := fun ρ s => bd (a ρ s) fun x s1 => bd (b ρ s1) fun y s2 => g x y s2
def eUn (g : W → Sto → Rz W) (a : FE) : FE := fun ρ s => bd (a ρ s) fun x s1 => g x s1
def aNil : FA := fun _ s => some ([], s)
def aCons (a : FE) (r : FA) : FA := fun ρ s => bd (a ρ s) fun x s1 => bd (r ρ s1) fun xs s2 => some (x :: xs, s2)
def eFn (g : List W → Sto → Rz W) (a : FA) : FE := fun ρ s => bd (a ρ s) fun xs s1 => g xs s1
def eMt (c : W → Sto → Bool) (g : W → List W → Sto → Rz W) (o : FE) (a : FA) : FE := fun ρ s => bd (o ρ s) fun x s1 => if c x s1 = true then bd (a ρ s1) fun xs s2 => g x xs s2 else none
theorem tF_op {K : PySem.W.Frag} {r : R2} {g : W → W → Sto → Rz W} {fa fb : FE} (hg : OpF K r g) : ∀ σ H Q, tF K (eOp g fa fb) σ H Q → tOp r (tF K fa) (tF K fb) σ H Q := by
  rintro σ H Q ⟨m, ρ, s, er, sr, w, s', e, q⟩
  obtain ⟨x, s1, e1, e⟩ := bd_inv e
  obtain ⟨y, s2, e2, e⟩ := bd_inv e
  exact ⟨m, ρ, s, er, sr, x, s1, e1, fun m1 H1 v A1 S1 r1 => ⟨m1, ρ, s1, er.adv A1, S1, y, s2, e2, fun m2 H2 u A2 S2 r2 =>
    hg m2 H2 s2 x y v u Q S2 (r1.adv A2) r2 ⟨w, s', e, fun m3 H3 z A3 => q m3 H3 z ((A1.trans A2).trans A3)⟩⟩⟩
theorem tF_un {K : PySem.W.Frag} {r : V → Hp → VK → Prop} {g : W → Sto → Rz W} {fa : FE} (hg : UnF K r g) : ∀ σ H Q, tF K (eUn g fa) σ H Q → tUn r (tF K fa) σ H Q := by
  rintro σ H Q ⟨m, ρ, s, er, sr, w, s', e, q⟩
  obtain ⟨x, s1, e1, e⟩ := bd_inv e
  exact ⟨m, ρ, s, er, sr, x, s1, e1, fun m1 H1 v A1 S1 r1 => hg m1 H1 s1 x v Q S1 r1 ⟨w, s', e, fun m3 H3 z A3 => q m3 H3 z (A1.trans A3)⟩⟩
theorem tF_fn {K : PySem.W.Frag} {r : List V → Hp → VK → Prop} {g : List W → Sto → Rz W} {fa : FA} (hg : CallF K r g) : ∀ σ H Q, tF K (eFn g fa) σ H Q → (fun σ H Q => tA K fa σ H fun vs H1 => r vs H1 Q : TE) σ H Q := by
  rintro σ H Q ⟨m, ρ, s, er, sr, w, s', e, q⟩
  obtain ⟨x, s1, e1, e⟩ := bd_inv e
  exact ⟨m, ρ, s, er, sr, x, s1, e1, fun m1 H1 v A1 S1 r1 => hg m1 H1 s1 x v Q S1 r1 ⟨w, s', e, fun m3 H3 z A3 => q m3 H3 z (A1.trans A3)⟩⟩
theorem m_op {op : Operator} {r : R2} {g : W → W → Sto → Rz W} {fa fb : FE} (ho : OpR X (binaryOp op) r) (hg : OpF X.K r g) (ha : PE X a (tF X.K fa)) (hb : PE X b (tF X.K fb)) : PE X (.BinOp a op b pos) (tF X.K (eOp g fa fb)) := (pe_op ho ha hb).imp (tF_op hg)
theorem m_un {op : UnaryOp} {r : V → Hp → VK → Prop} {g : W → Sto → Rz W} {fa : FE} (ho : UnR X (unaryOp op) r) (hg : UnF X.K r g) (ha : PE X a (tF X.K fa)) : PE X (.UnaryOp op a pos) (tF X.K (eUn g fa)) := (pe_un ho ha).imp (tF_un hg)
theorem m_ix {r : R2} {g : W → W → Sto → Rz W} {fa fb : FE} (hr : IxR X r) (hg : OpF X.K r g) (ha : PE X a (tF X.K fa)) (hb : PE X b (tF X.K fb)) (hs : PlainIx b) : PE X (.Subscript a b pos) (tF X.K (eOp g fa fb)) := (pe_ix hr ha hb hs).imp (tF_op hg)
theorem m_cmp {op : CmpOp} {r : R2} {g : W → W → Sto → Rz W} {fa fb : FE} (ho : OpR X (compareOp op) r) (hg : OpF X.K r g) (ha : PE X a (tF X.K fa)) (hb : PE X b (tF X.K fb)) (hm : behindInMarks op b = false) : PE X (.Compare a [op] [b] pos) (tF X.K (eOp g fa fb)) :=
  (pe_cmpR ho ha hb hm).imp (tF_op hg)
theorem ma_nil : PA X [] (tA X.K aNil) := pa_nil.imp fun σ H Q ⟨m, ρ, s, er, sr, ws, s', e, q⟩ => by
  cases e
  exact q m H [] (Adv.refl m H) sr .nil
theorem ma_cons {fa : FE} {fr : FA} (ha : PE X e (tF X.K fa)) (hr : PA X es (tA X.K fr)) (hs : starEach (e :: es) X.env = (false, eval e X.env) :: starEach es X.env := by rfl) : PA X (e :: es) (tA X.K (aCons fa fr)) :=
  (pa_cons ha hr hs).imp fun σ H Q ⟨m, ρ, s, er, sr, ws, s', e, q⟩ => by
    obtain ⟨x, s1, e1, e⟩ := bd_inv e
    obtain ⟨y, s2, e2, e⟩ := bd_inv e
    cases e
    exact ⟨m, ρ, s, er, sr, x, s1, e1, fun m1 H1 v A1 S1 r1 => ⟨m1, ρ, s1, er.adv A1, S1, y, _, e2, fun m2 H2 u A2 S2 r2 => q m2 H2 (v :: u) (A1.trans A2) S2 (.cons (r1.adv A2) r2)⟩⟩
/-- a star of a tuple or a list -/
def seqOf (x : W) (s : Sto) : Option (List W) := match x with
  | .tup ws => some ws
  | .lro ws => some ws
  | .ref n => match s[n]? with
    | some (.lst ws) => some ws
    | _ => none
  | _ => none
theorem seq_of {K : PySem.W.Frag} {m : List Addr} {H : Hp} {s : Sto} {x : W} {v : V} {ws : List W} (S : SR K m H s) (r : R K m H x v) (h : seqOf x s = some ws) : ∃ p vs, v = .ref p ∧ (SqT K H p vs ∨ SqL K H p vs) ∧ RL K m H ws vs := by
  cases r with
  | non => cases h
  | bl => cases h
  | int => cases h
  | str => cases h
  | fn => cases h
  | tup h1 h2 => cases h; exact ⟨_, _, rfl, .inl h1.sq, h2⟩
  | lro h1 h2 => cases h; exact ⟨_, _, rfl, .inr h1.sq, h2⟩
  | @ref n a h1 =>
    cases e : s[n]? with
    | none => simp only [seqOf, e] at h; cases h
    | some o =>
      cases o with
      | dct _ => simp only [seqOf, e] at h; cases h
      | lam _ _ => simp only [seqOf, e] at h; cases h
      | tab _ _ => simp only [seqOf, e] at h; cases h
      | dead => simp only [seqOf, e] at h; cases h
      | lst ws' =>
        simp only [seqOf, e] at h
        cases h
        obtain ⟨a', h2, vs, h3, h4⟩ := S.at e
        rw [h1] at h2
        cases h2
        exact ⟨_, _, rfl, .inr (SqL.of h3), h4⟩
def aStar (a : FE) (r : FA) : FA := fun ρ s => bd (a ρ s) fun x s1 => match seqOf x s1 with
  | some ws => bd (r ρ s1) fun xs s2 => some (ws ++ xs, s2)
  | none => none
theorem ma_star {p : Pos} {fa : FE} {fr : FA} (ha : PE X e (tF X.K fa)) (hr : PA X es (tA X.K fr)) (hs : starEach (.Starred e p :: es) X.env = (true, eval e X.env) :: starEach es X.env := by rfl) : PA X (.Starred e p :: es) (tA X.K (aStar fa fr)) :=
  (StX.pa_star ha hr hs).imp fun σ H Q ⟨m, ρ, s, er, sr, ws, s', e, q⟩ => by
    obtain ⟨x, s1, e1, e⟩ := bd_inv e
    cases es : seqOf x s1 with
    | none => rw [es] at e; cases e
    | some zs =>
      rw [es] at e
      obtain ⟨y, s2, e2, e⟩ := bd_inv e
      cases e
      refine ⟨m, ρ, s, er, sr, x, s1, e1, fun m1 H1 v A1 S1 r1 => ?_⟩
      obtain ⟨p, vs, e3, h3, r3⟩ := seq_of S1 r1 es
      exact ⟨p, vs, e3, h3, m1, ρ, s1, er.adv A1, S1, y, _, e2, fun m2 H2 u A2 S2 r2 => q m2 H2 (vs ++ u) (A1.trans A2) S2 ((r3.adv A2).app r2)⟩
/-- built-ins by name -/
theorem m_callB {id : String} {x : Str} {p : Pos} {r : List V → Hp → VK → Prop} {g : List W → Sto → Rz W} {fa : FA} (hc : CallR X (.builtin id) r) (hg' : CallF X.K r g) (hg : Gl X x) (hm : X.mg x = none) (hv : bootBuiltins x = some (.builtin id)) (ha : PA X (e :: es) (tA X.K fa)) (hn : x ≠ "__name__" := by decide) (hdb : (x == ("__debug__" : Str)) = false := by decide)
    (he : starEach (e :: es) X.env = (false, eval e X.env) :: starEach es X.env := by rfl) (hpl : (backTo pos (starEach es X.env)).any (·.1) = false := by rfl) : PE X (.Call (.Name x p) (e :: es) [] pos) (tF X.K (eFn g fa)) := (pe_callB hc hg hm hv ha hn hdb he hpl).imp (tF_fn hg')
theorem m_callTy {T : String} {x : Str} {p : Pos} {r : List V → Hp → VK → Prop} {g : List W → Sto → Rz W} {fa : FA} (hc : CallR X (.type T) r) (hg' : CallF X.K r g) (hg : Gl X x) (hm : X.mg x = none) (hv : bootBuiltins x = some (.type T)) (ha : PA X (e :: es) (tA X.K fa)) (hn : x ≠ "__name__" := by decide) (hdb : (x == ("__debug__" : Str)) = false := by decide)
    (he : starEach (e :: es) X.env = (false, eval e X.env) :: starEach es X.env := by rfl) (hpl : (backTo pos (starEach es X.env)).any (·.1) = false := by rfl) : PE X (.Call (.Name x p) (e :: es) [] pos) (tF X.K (eFn g fa)) := (pe_callTy hc hg hm hv ha hn hdb he hpl).imp (tF_fn hg')
end
end Mir

set_option Elab.async false
set_option linter.all false
set_option maxRecDepth 100000
namespace Mir
open PySem PySem.Spec PyProof.Rows L2
section
variable {X : Cx} {e a b c : Expr} {es : List Expr} {pos : Pos}
/-! ### tests, truth -/
def bTest (f : FE) : FT := fun ρ s => bd (f ρ s) fun x s1 => match x with
  | .bl k => some (k, s1)
  | _ => none
theorem tT_test {K : PySem.W.Frag} {f : FE} : ∀ σ H Q, tT K (bTest f) σ H Q → (tF K f) σ H fun x H' => ∃ k, x = .bl k ∧ Q k H' := by
  rintro σ H Q ⟨m, ρ, s, er, sr, k, s', e, q⟩
  obtain ⟨x, s1, e1, e⟩ := bd_inv e
  cases x with
  | bl k' =>
    cases e
    exact ⟨m, ρ, s, er, sr, _, _, e1, fun m1 H1 v A1 S1 r1 => by cases r1; exact ⟨k, rfl, q m1 H1 A1 S1⟩⟩
  | _ => cases e
theorem mt_cmp {op : CmpOp} {r : R2} {g : W → W → Sto → Rz W} {fa fb : FE} (ho : OpR X (compareOp op) r) (hg : OpF X.K r g) (ha : PE X a (tF X.K fa)) (hb : PE X b (tF X.K fb)) (hm : behindInMarks op b = false) : PT X (.Compare a [op] [b] pos) (tT X.K (bTest (eOp g fa fb))) :=
  (pt_cmpR ho ha hb hm).imp fun σ H Q h => tF_op hg σ H _ (tT_test σ H Q h)
theorem mt_val {f : FE} (h : PE X e (tF X.K f)) (he : ∀ whole, isTrue e X.env whole = (do let v ← whole; standAt e.pos; holding [v] (truthy v)) := by intro _; rfl) : PT X e (tT X.K (bTest f)) := (pt_val h he).imp fun σ H Q q => tT_test σ H Q q
/-- truth of any value -/
def truW (x : W) (s : Sto) : Option Bool := match x with
  | .non => some false
  | .bl b => some b
  | .int i => some (i != 0)
  | .str y => if y.length ≤ sizeLine then some ((y.length : Int) != 0) else none
  | .tup ws => some (!ws.isEmpty)
  | .lro ws => some (!ws.isEmpty)
  | .ref n => match s[n]? with
    | some (.lst ws) => some (!ws.isEmpty)
    | some (.dct kvs) => some (!kvs.isEmpty)
    | _ => none
  | .fn _ => none
theorem RL.emp {K : PySem.W.Frag} {m : List Addr} {H : Hp} {ws : List W} {vs : List V} (h : RL K m H ws vs) : vs.isEmpty = ws.isEmpty := by cases h <;> rfl
theorem RK.emp {K : PySem.W.Frag} {m : List Addr} {H : Hp} {ws : List (Key × W)} {vs : List (Key × V)} (h : RK K m H ws vs) : vs.isEmpty = ws.isEmpty := by cases h <;> rfl
theorem tru_of {K : PySem.W.Frag} {m : List Addr} {H : Hp} {s : Sto} {x : W} {v : V} {k : Bool} (S : SR K m H s) (r : R K m H x v) (h : truW x s = some k) : TruV K v H k := by
  cases r with
  | non => cases h; rfl
  | bl b => cases h; rfl
  | fn => cases h
  | int i => cases h; rfl
  | str y =>
    simp only [truW] at h
    split at h
    · rename_i hl
      cases h
      exact ⟨hl, rfl⟩
    · cases h
  | tup h1 h2 => cases h; exact .inr (.inl ⟨_, h1.sq, by rw [h2.emp]⟩)
  | lro h1 h2 => cases h; exact .inl ⟨_, h1.sq, by rw [h2.emp]⟩
  | @ref n a h1 =>
    cases e : s[n]? with
    | none => simp only [truW, e] at h; cases h
    | some o =>
      obtain ⟨a', h2, h3⟩ := S.at e
      rw [h1] at h2
      cases h2
      cases o with
      | lst ws =>
        simp only [truW, e] at h
        cases h
        obtain ⟨vs, h3, h4⟩ := h3
        exact .inl ⟨_, SqL.of h3, by rw [h4.emp]⟩
      | dct ws =>
        simp only [truW, e] at h
        cases h
        obtain ⟨vs, h3, h4⟩ := h3
        exact .inr (.inr ⟨_, h3, by rw [h4.emp]⟩)
      | _ => simp only [truW, e] at h; cases h
def bTruth (f : FE) : FT := fun ρ s => bd (f ρ s) fun x s1 => match truW x s1 with
  | some k => some (k, s1)
  | none => none
theorem mt_truth {f : FE} (h : PE X e (tF X.K f)) (he : ∀ whole, isTrue e X.env whole = (do let v ← whole; standAt e.pos; holding [v] (truthy v)) := by intro _; rfl) : PT X e (tT X.K (bTruth f)) :=
  (pt_truth h he).imp fun σ H Q ⟨m, ρ, s, er, sr, k, s', e, q⟩ => by
    obtain ⟨x, s1, e1, e⟩ := bd_inv e
    cases et : truW x s1 with
    | none => simp only [et] at e; cases e
    | some k' =>
      simp only [et] at e
      cases e
      exact ⟨m, ρ, s, er, sr, x, _, e1, fun m1 H1 v A1 S1 r1 => ⟨_, tru_of S1 r1 et, q m1 H1 A1 S1⟩⟩
def bAnd (t u : FT) : FT := fun ρ s => bd (t ρ s) fun k s1 => if k = true then u ρ s1 else some (false, s1)
def bOr (t u : FT) : FT := fun ρ s => bd (t ρ s) fun k s1 => if k = true then some (true, s1) else u ρ s1
def bNot (t : FT) : FT := fun ρ s => bd (t ρ s) fun k s1 => some (!k, s1)

theorem mw_and1 {t : FT} (h : PT X a (tT X.K t)) : PW X (.BoolOp .And [a] pos) (tT X.K t) := pw_and1 h
theorem mw_or1 {t : FT} (h : PT X a (tT X.K t)) : PW X (.BoolOp .Or [a] pos) (tT X.K t) := pw_or1 h
theorem mw_and {t u : FT} {rest : List Expr} (ha : PT X a (tT X.K t)) (hb : PW X (.BoolOp .And (b :: rest) pos) (tT X.K u)) : PW X (.BoolOp .And (a :: b :: rest) pos) (tT X.K (bAnd t u)) :=
  (pw_and ha hb).imp fun σ H Q ⟨m, ρ, s, er, sr, k, s', e, q⟩ => by
    obtain ⟨c, s1, e1, e⟩ := bd_inv e
    refine ⟨m, ρ, s, er, sr, c, s1, e1, fun m1 H1 A1 S1 => ?_⟩
    cases c with
    | true =>
      rw [if_pos rfl] at e ⊢
      exact ⟨m1, ρ, s1, er.adv A1, S1, k, s', e, fun m2 H2 A2 => q m2 H2 (A1.trans A2)⟩
    | false =>
      rw [if_neg Bool.false_ne_true] at e ⊢
      cases e
      exact q m1 H1 A1 S1
theorem mw_or {t u : FT} {rest : List Expr} (ha : PT X a (tT X.K t)) (hb : PW X (.BoolOp .Or (b :: rest) pos) (tT X.K u)) : PW X (.BoolOp .Or (a :: b :: rest) pos) (tT X.K (bOr t u)) :=
  (pw_or ha hb).imp fun σ H Q ⟨m, ρ, s, er, sr, k, s', e, q⟩ => by
    obtain ⟨c, s1, e1, e⟩ := bd_inv e
    refine ⟨m, ρ, s, er, sr, c, s1, e1, fun m1 H1 A1 S1 => ?_⟩
    cases c with
    | false =>
      rw [if_neg Bool.false_ne_true] at e ⊢
      exact ⟨m1, ρ, s1, er.adv A1, S1, k, s', e, fun m2 H2 A2 => q m2 H2 (A1.trans A2)⟩
    | true =>
      rw [if_pos rfl] at e ⊢
      cases e
      exact q m1 H1 A1 S1
theorem mt_not {t : FT} (ha : PT X a (tT X.K t)) : PT X (.UnaryOp .Not a pos) (tT X.K (bNot t)) :=
  (pt_not ha).imp fun σ H Q ⟨m, ρ, s, er, sr, k, s', e, q⟩ => by
    obtain ⟨c, s1, e1, e⟩ := bd_inv e
    cases e
    exact ⟨m, ρ, s, er, sr, c, _, e1, fun m1 H1 A1 S1 => q m1 H1 A1 S1⟩
/-! ### and, or, not, if as values -/
def eAnd (f g : FE) : FE := fun ρ s => bd (f ρ s) fun x s1 => match truW x s1 with
  | some k => if k = true then g ρ s1 else some (x, s1)
  | none => none
def eOr (f g : FE) : FE := fun ρ s => bd (f ρ s) fun x s1 => match truW x s1 with
  | some k => if k = true then some (x, s1) else g ρ s1
  | none => none
def eNot (f : FE) : FE := fun ρ s => bd (f ρ s) fun x s1 => match truW x s1 with
  | some k => some (.bl (!k), s1)
  | none => none
def eIf (t : FT) (f g : FE) : FE := fun ρ s => bd (t ρ s) fun k s1 => if k = true then f ρ s1 else g ρ s1
theorem m_one {op} {f : FE} (h : PE X a (tF X.K f)) : PE X (.BoolOp op [a] pos) (tF X.K f) := pe_one h
theorem m_and {f g : FE} {rest : List Expr} (ha : PE X a (tF X.K f)) (hb : PE X (.BoolOp .And (b :: rest) pos) (tF X.K g)) : PE X (.BoolOp .And (a :: b :: rest) pos) (tF X.K (eAnd f g)) :=
  (pe_andT ha hb).imp fun σ H Q ⟨m, ρ, s, er, sr, w, s', e, q⟩ => by
    obtain ⟨x, s1, e1, e⟩ := bd_inv e
    refine ⟨m, ρ, s, er, sr, x, s1, e1, fun m1 H1 v A1 S1 r1 => ?_⟩
    cases et : truW x s1 with
    | none => simp only [et] at e; cases e
    | some k =>
      refine ⟨k, tru_of S1 r1 et, ?_⟩
      cases k with
      | true =>
        simp only [et, if_true] at e
        rw [if_pos rfl]
        exact ⟨m1, ρ, s1, er.adv A1, S1, w, s', e, fun m2 H2 v A2 => q m2 H2 v (A1.trans A2)⟩
      | false =>
        simp only [et, Bool.false_eq_true, if_false] at e
        rw [if_neg Bool.false_ne_true]
        cases e
        exact q m1 H1 v A1 S1 r1
theorem m_or {f g : FE} {rest : List Expr} (ha : PE X a (tF X.K f)) (hb : PE X (.BoolOp .Or (b :: rest) pos) (tF X.K g)) : PE X (.BoolOp .Or (a :: b :: rest) pos) (tF X.K (eOr f g)) :=
  (pe_orT ha hb).imp fun σ H Q ⟨m, ρ, s, er, sr, w, s', e, q⟩ => by
    obtain ⟨x, s1, e1, e⟩ := bd_inv e
    refine ⟨m, ρ, s, er, sr, x, s1, e1, fun m1 H1 v A1 S1 r1 => ?_⟩
    cases et : truW x s1 with
    | none => simp only [et] at e; cases e
    | some k =>
      refine ⟨k, tru_of S1 r1 et, ?_⟩
      cases k with
      | false =>
        simp only [et, Bool.false_eq_true, if_false] at e
        rw [if_neg Bool.false_ne_true]
        exact ⟨m1, ρ, s1, er.adv A1, S1, w, s', e, fun m2 H2 v A2 => q m2 H2 v (A1.trans A2)⟩
      | true =>
        simp only [et, if_true] at e
        rw [if_pos rfl]
        cases e
        exact q m1 H1 v A1 S1 r1
theorem m_not {f : FE} (ha : PE X a (tF X.K f)) : PE X (.UnaryOp .Not a pos) (tF X.K (eNot f)) :=
  (pe_notT ha).imp fun σ H Q ⟨m, ρ, s, er, sr, w, s', e, q⟩ => by
    obtain ⟨x, s1, e1, e⟩ := bd_inv e
    refine ⟨m, ρ, s, er, sr, x, s1, e1, fun m1 H1 v A1 S1 r1 => ?_⟩
    cases et : truW x s1 with
    | none => simp only [et] at e; cases e
    | some k =>
      simp only [et] at e
      cases e
      exact ⟨k, tru_of S1 r1 et, q m1 H1 _ A1 S1 (.bl _)⟩
theorem m_if {t : FT} {f g : FE} (hc : PT X c (tT X.K t)) (ha : PE X a (tF X.K f)) (hb : PE X b (tF X.K g)) : PE X (.IfExp c a b pos) (tF X.K (eIf t f g)) :=
  (pe_ifExp hc ha hb).imp fun σ H Q ⟨m, ρ, s, er, sr, w, s', e, q⟩ => by
    obtain ⟨k, s1, e1, e⟩ := bd_inv e
    refine ⟨m, ρ, s, er, sr, k, s1, e1, fun m1 H1 A1 S1 => ?_⟩
    cases k with
    | true =>
      rw [if_pos rfl] at e ⊢
      exact ⟨m1, ρ, s1, er.adv A1, S1, w, s', e, fun m2 H2 v A2 => q m2 H2 v (A1.trans A2)⟩
    | false =>
      rw [if_neg Bool.false_ne_true] at e ⊢
      exact ⟨m1, ρ, s1, er.adv A1, S1, w, s', e, fun m2 H2 v A2 => q m2 H2 v (A1.trans A2)⟩
/-! ### displays -/
def eTup (f : FA) : FE := fun ρ s => bd (f ρ s) fun ws s1 => if ws.length ≤ 100000 then some (.tup ws, s1) else none
def eLst (f : FA) : FE := fun ρ s => bd (f ρ s) fun ws s1 => if ws.length ≤ 100000 then some (.ref s1.length, s1 ++ [.lst ws]) else none
theorem szl {n : Nat} (h : n ≤ 100000) : n ≤ sizeLine := Nat.le_trans h (by decide)
theorem szt {n : Nat} (h : n ≤ 100000) : n < sizeLine := Nat.lt_of_le_of_lt h (by decide)
/-- a new tuple has come -/
theorem new_tup {K : PySem.W.Frag} {m : List Addr} {H : Hp} {s : Sto} {ws : List W} {vs : List V} {p : Addr} {Q : VK} (S : SR K m H s) (r : RL K m H ws vs) (hp : H p = none) (q : ∀ m' H' v, Adv m H m' H' → SR K m' H' s → R K m' H' (.tup ws) v → Q v H') : Q (.ref p) (upd H p (.tup vs)) :=
  q m _ _ (Adv.fresh hp) (S.fresh hp) (.tup (.inl upd_same) (r.adv (Adv.fresh hp)))
/-- a new list has come -/
theorem new_lst {K : PySem.W.Frag} {m : List Addr} {H : Hp} {s : Sto} {ws : List W} {vs : List V} {p : Addr} {Q : VK} (S : SR K m H s) (r : RL K m H ws vs) (hp : H p = none) (q : ∀ m' H' v, Adv m H m' H' → SR K m' H' (s ++ [.lst ws]) → R K m' H' (.ref s.length) v → Q v H') : Q (.ref p) (upd H p (.lst vs)) :=
  q (m ++ [p]) _ _ (Adv.alloc hp) (S.alloc hp ⟨vs, upd_same, r.adv (Adv.alloc hp)⟩) (alloc_at S)
theorem m_tup {f : FA} {x1} (h : PA X es (tA X.K f)) : PE X (.Tuple es x1 pos) (tF X.K (eTup f)) :=
  (pe_tup h).imp fun σ H Q ⟨m, ρ, s, er, sr, w, s', e, q⟩ => by
    obtain ⟨ws, s1, e1, e⟩ := bd_inv e
    refine ⟨m, ρ, s, er, sr, ws, s1, e1, fun m1 H1 vs A1 S1 r1 => ?_⟩
    split at e
    · rename_i hl
      cases e
      exact ⟨szl (by rw [r1.len]; exact hl), fun p hp => new_tup S1 r1 hp fun m2 H2 v A2 => q m2 H2 v (A1.trans A2)⟩
    · cases e
theorem m_lst {f : FA} (h : PA X es (tA X.K f)) : PE X (.List es pos) (tF X.K (eLst f)) :=
  (pe_lst h).imp fun σ H Q ⟨m, ρ, s, er, sr, w, s', e, q⟩ => by
    obtain ⟨ws, s1, e1, e⟩ := bd_inv e
    refine ⟨m, ρ, s, er, sr, ws, s1, e1, fun m1 H1 vs A1 S1 r1 => ?_⟩
    split at e
    · rename_i hl
      cases e
      exact ⟨szl (by rw [r1.len]; exact hl), fun p hp => new_lst S1 r1 hp fun m2 H2 v A2 => q m2 H2 v (A1.trans A2)⟩
    · cases e
def eDnew : FE := fun _ s => some (.ref s.length, s ++ [.dct []])
theorem m_dnew : PE X (.Dict [] [] pos) (tF X.K eDnew) :=
  pe_dnewK.imp fun σ H Q ⟨m, ρ, s, er, sr, w, s', e, q⟩ => by
    cases e
    exact fun p hp => q (m ++ [p]) _ _ (Adv.alloc hp) (sr.alloc hp ⟨[], upd_same, .nil⟩) (alloc_at sr)
/-! ### slices -/
def pNo : FP := fun _ s => some (none, s)
def pAt (f : FE) : FP := fun ρ s => bd (f ρ s) fun x s1 => match x with
  | .int i => some (some i, s1)
  | _ => none
theorem mp_none : PO X none (tP X.K pNo) := po_none.imp fun σ H Q ⟨m, ρ, s, er, sr, w, s', e, q⟩ => by
  cases e
  exact q m H (Adv.refl m H) sr
theorem mp_some {f : FE} (h : PE X e (tF X.K f)) : PO X (some e) (tP X.K (pAt f)) := (po_some h).imp fun σ H Q ⟨m, ρ, s, er, sr, w, s', e, q⟩ => by
  obtain ⟨x, s1, e1, e⟩ := bd_inv e
  refine ⟨m, ρ, s, er, sr, x, s1, e1, fun m1 H1 v A1 S1 r1 => ?_⟩
  cases r1 with
  | int i => cases e; exact ⟨i, rfl, q m1 H1 A1 S1⟩
  | _ => cases e
def eSl (g : W → Option Int → Option Int → Sto → Rz W) (f : FE) (lo hi : FP) : FE := fun ρ s => bd (f ρ s) fun x s1 => bd (lo ρ s1) fun l s2 => bd (hi ρ s2) fun u s3 => g x l u s3
theorem m_slice {r : V → Option Int → Option Int → Hp → VK → Prop} {g : W → Option Int → Option Int → Sto → Rz W} {f : FE} {l u : FP} {lo hi : Option Expr} {p2 : Pos} (hr : SlR X r) (hg : SlF X.K r g) (he : PE X e (tF X.K f)) (hl : PO X lo (tP X.K l)) (hu : PO X hi (tP X.K u)) : PE X (.Subscript e (.Slice lo hi none p2) pos) (tF X.K (eSl g f l u)) :=
  (pe_slice hr he hl hu).imp fun σ H Q ⟨m, ρ, s, er, sr, w, s', e, q⟩ => by
    obtain ⟨x, s1, e1, e⟩ := bd_inv e
    obtain ⟨y, s2, e2, e⟩ := bd_inv e
    obtain ⟨z, s3, e3, e⟩ := bd_inv e
    exact ⟨m, ρ, s, er, sr, x, s1, e1, fun m1 H1 v A1 S1 r1 => ⟨m1, ρ, s1, er.adv A1, S1, y, s2, e2, fun m2 H2 A2 S2 => ⟨m2, ρ, s2, (er.adv A1).adv A2, S2, z, s3, e3, fun m3 H3 A3 S3 =>
      hg m3 H3 s3 x v y z Q S3 ((r1.adv A2).adv A3) ⟨w, s', e, fun m4 H4 v4 A4 => q m4 H4 v4 (((A1.trans A2).trans A3).trans A4)⟩⟩⟩⟩
end
end Mir

set_option Elab.async false
set_option linter.all false
set_option maxRecDepth 100000
namespace Mir
open PySem PySem.Spec PyProof.Rows L2
/-! ### targets: names, tuples of such -/
inductive Tg where
  | name (i : Nat)
  | tup (ts : List Tg)
mutual
def tgT (K : PySem.W.Frag) : Tg → TG
  | .name i => gName i
  | .tup ts => gTup K ts.length (tgTs K ts)
def tgTs (K : PySem.W.Frag) : List Tg → TGs
  | [] => gNil
  | t :: ts => gCons (tgT K t) (tgTs K ts)
end
mutual
def tgM : Tg → W → EnvM → Option EnvM
  | .name i, w, ρ => some (ρ.set i (some w))
  | .tup ts, .tup ws, ρ => tgMs ts ws ρ
  | .tup _, _, _ => none
def tgMs : List Tg → List W → EnvM → Option EnvM
  | [], [], ρ => some ρ
  | t :: ts, w :: ws, ρ => match tgM t w ρ with
    | some ρ' => tgMs ts ws ρ'
    | none => none
  | _, _, _ => none
end
mutual
def Tg.names : Tg → List Nat
  | .name i => [i]
  | .tup ts => Tg.namesL ts
def Tg.namesL : List Tg → List Nat
  | [] => []
  | t :: ts => t.names ++ Tg.namesL ts
end
/-- a slot that is wiped anyway -/
theorem wipe_set {σ : L2.St} {i : Nat} {x : Option V} : ∀ {vs : List Nat}, i ∈ vs → wipe (σ.set i x) vs = wipe σ vs := by
  intro vs
  induction vs with
  | nil => intro h; cases h
  | cons v vs ih =>
    intro h
    have comm : ∀ (vs : List Nat) (τ : L2.St), i ∉ vs → wipe (τ.set i x) vs = (wipe τ vs).set i x := by
      intro vs
      induction vs with
      | nil => intros; rfl
      | cons w ws ih2 =>
        intro τ h
        rw [List.mem_cons, not_or] at h
        show (wipe (τ.set i x) ws).set w none = ((wipe τ ws).set w none).set i x
        rw [ih2 τ h.2, List.set_comm _ _ h.1]
    show (wipe (σ.set i x) vs).set v none = (wipe σ vs).set v none
    by_cases hi : i ∈ vs
    · rw [ih hi]
    · rw [comm vs σ hi]
      have e : i = v := (List.mem_cons.mp h).resolve_right hi
      subst e
      rw [List.set_set]
section
variable {K : PySem.W.Frag} {m : List Addr} {H : Hp}
mutual
theorem tg_ok : ∀ (t : Tg) {w : W} {v : V} {ρ ρ' : EnvM} {σ : L2.St} {Q : L2.St → Hp → Prop}, ER K m H ρ σ → R K m H w v → tgM t w ρ = some ρ' →
    (∀ σ', ER K m H ρ' σ' → (∀ vs, (∀ i ∈ t.names, i ∈ vs) → wipe σ' vs = wipe σ vs) → Q σ' H) → tgT K t v σ H Q
  | .name i, w, v, ρ, ρ', σ, Q, er, r, e, q => by
    rw [tgM] at e
    cases e
    rw [tgT]
    exact q _ (er.set i r) fun vs h => wipe_set (h i (by rw [Tg.names]; exact List.mem_cons_self))
  | .tup ts, w, v, ρ, ρ', σ, Q, er, r, e, q => by
    rw [tgT]
    cases r with
    | tup h1 h2 =>
      rw [tgM] at e
      refine ⟨_, _, rfl, h1.sq, ?_, ?_⟩
      · exact (h2.len).trans (tgMs_len ts e).symm
      · exact tgs_ok ts er h2 e fun σ' er' h => q σ' er' fun vs hv => h vs (by rw [Tg.names] at hv; exact hv)
    | _ => simp only [tgM] at e <;> cases e
theorem tgs_ok : ∀ (ts : List Tg) {ws : List W} {vs : List V} {ρ ρ' : EnvM} {σ : L2.St} {Q : L2.St → Hp → Prop}, ER K m H ρ σ → RL K m H ws vs → tgMs ts ws ρ = some ρ' →
    (∀ σ', ER K m H ρ' σ' → (∀ vs, (∀ i ∈ Tg.namesL ts, i ∈ vs) → wipe σ' vs = wipe σ vs) → Q σ' H) → tgTs K ts vs σ H Q
  | [], ws, vs, ρ, ρ', σ, Q, er, r, e, q => by
    cases r with
    | nil =>
      rw [tgMs] at e
      cases e
      rw [tgTs]
      exact ⟨rfl, q _ er fun _ _ => rfl⟩
    | cons _ _ => simp only [tgMs] at e; cases e
  | t :: ts, ws, vs, ρ, ρ', σ, Q, er, r, e, q => by
    cases r with
    | nil => simp only [tgMs] at e; cases e
    | cons r1 r2 =>
      rw [tgMs] at e
      cases h1 : tgM t _ ρ with
      | none => rw [h1] at e; cases e
      | some ρ1 =>
        rw [h1] at e
        rw [tgTs]
        refine ⟨_, _, rfl, tg_ok t er r1 h1 fun σ1 er1 w1 => tgs_ok ts er1 r2 e fun σ2 er2 w2 => q σ2 er2 fun vs hv => ?_⟩
        rw [Tg.namesL] at hv
        rw [w2 vs fun i hi => hv i (List.mem_append_right _ hi), w1 vs fun i hi => hv i (List.mem_append_left _ hi)]
theorem tgMs_len : ∀ (ts : List Tg) {ws : List W} {ρ ρ' : EnvM}, tgMs ts ws ρ = some ρ' → ts.length = ws.length
  | [], [], _, _, _ => rfl
  | [], _ :: _, _, _, e => by simp only [tgMs] at e; cases e
  | _ :: _, [], _, _, e => by simp only [tgMs] at e; cases e
  | t :: ts, w :: ws, ρ, ρ', e => by
    rw [tgMs] at e
    cases h1 : tgM t w ρ with
    | none => rw [h1] at e; cases e
    | some ρ1 =>
      rw [h1] at e
      rw [List.length_cons, List.length_cons, tgMs_len ts e]
end
end
section
variable {X : Cx} {e a b c : Expr} {es : List Expr} {pos : Pos} {st : Stmt} {rest : List Stmt}
/-! ### statements -/
def sNil : FS := fun ρ s => some (.nx ρ, s)
def sCons (f g : FS) : FS := fun ρ s => bd (f ρ s) fun o s1 => match o with
  | .nx ρ1 => g ρ1 s1
  | o => some (o, s1)
def sSet (i : Nat) (f : FE) : FS := fun ρ s => bd (f ρ s) fun w s1 => some (.nx (ρ.set i (some w)), s1)
def sAsg (t : Tg) (f : FE) : FS := fun ρ s => bd (f ρ s) fun w s1 => match tgM t w ρ with
  | some ρ1 => some (.nx ρ1, s1)
  | none => none
def sDo (f : FE) : FS := fun ρ s => bd (f ρ s) fun _ s1 => some (.nx ρ, s1)
def sRet (f : FE) : FS := fun ρ s => bd (f ρ s) fun w s1 => some (.rt w, s1)
def sRetN : FS := fun _ s => some (.rt .non, s)
def sIf (t : FT) (f g : FS) : FS := fun ρ s => bd (t ρ s) fun k s1 => if k = true then f ρ s1 else g ρ s1
def sBrk : FS := fun ρ s => some (.bk ρ, s)
def sCnt : FS := fun ρ s => some (.ct ρ, s)
theorem ms_pass : PS X (.Pass pos) (tS X.K sNil) := ps_pass.imp fun D σ H ⟨m, ρ, s, er, sr, o, s', e, q⟩ => by cases e; exact q m H σ (Adv.refl m H) sr er
theorem ms_brk : PS X (.Break pos) (tS X.K sBrk) := ps_break.imp fun D σ H ⟨m, ρ, s, er, sr, o, s', e, q⟩ => by cases e; exact q m H σ (Adv.refl m H) sr er
theorem ms_cnt : PS X (.Continue pos) (tS X.K sCnt) := ps_continue.imp fun D σ H ⟨m, ρ, s, er, sr, o, s', e, q⟩ => by cases e; exact q m H σ (Adv.refl m H) sr er
theorem mss_nil : PSs X [] (tS X.K sNil) := pss_nil.imp fun D σ H ⟨m, ρ, s, er, sr, o, s', e, q⟩ => by cases e; exact q m H σ (Adv.refl m H) sr er
theorem mss_one {f : FS} (h : PS X st (tS X.K f)) : PSs X [st] (tS X.K f) := pss_one h
theorem mss_cons {f g : FS} (h1 : PS X st (tS X.K f)) (h2 : PSs X rest (tS X.K g)) : PSs X (st :: rest) (tS X.K (sCons f g)) :=
  (pss_cons h1 h2).imp fun D σ H ⟨m, ρ, s, er, sr, o, s', e, q⟩ => by
    obtain ⟨o1, s1, e1, e⟩ := bd_inv e
    refine ⟨m, ρ, s, er, sr, o1, s1, e1, ?_⟩
    cases o1 with
    | nx ρ1 => exact fun m1 H1 σ1 A1 S1 er1 => ⟨m1, ρ1, s1, er1, S1, o, s', e, q.adv A1⟩
    | rt w => cases e; exact q
    | bk ρ1 => cases e; exact q
    | ct ρ1 => cases e; exact q
theorem ms_set {i : Nat} {x : Str} {pos' : Pos} {f : FE} (hN : X.N.Nodup) (hi : X.N[i]? = some x) (hx : Loc X.env.scope x) (he : PE X e (tF X.K f)) (hs : swapsWith e (some (.Name x pos')) pos.line X.env = pure false := by rfl) (hf : X.fn x = true ∨ X.env.scope.names.lookup x = some .local := by first | exact .inl rfl | exact .inr rfl | assumption) :
    PS X (.Assign [.Name x pos'] e pos) (tS X.K (sSet i f)) :=
  (ps_set hN hi hx he hs hf).imp fun D σ H ⟨m, ρ, s, er, sr, o, s', e, q⟩ => by
    obtain ⟨w, s1, e1, e⟩ := bd_inv e
    cases e
    exact ⟨m, ρ, s, er, sr, w, _, e1, fun m1 H1 v A1 S1 r1 => q m1 H1 _ A1 S1 ((er.adv A1).set i r1)⟩
theorem ms_asg {tg : Expr} {t : Tg} {f : FE} (he : PE X e (tF X.K f)) (hg : PG X tg (tgT X.K t)) (hs : swapsWithSole [tg] e pos.line X.env = pure false := by rfl) (hw : swappedStores [tg] e X.env = pure none := by rfl)
    (h1 : (assignEach [tg] X.env).map (·.2) = [assign tg X.env] := by rfl) : PS X (.Assign [tg] e pos) (tS X.K (sAsg t f)) :=
  (ps_asg he hg hs hw h1).imp fun D σ H ⟨m, ρ, s, er, sr, o, s', e, q⟩ => by
    obtain ⟨w, s1, e1, e⟩ := bd_inv e
    cases et : tgM t w ρ with
    | none => simp only [et] at e; cases e
    | some ρ1 =>
      simp only [et] at e
      cases e
      exact ⟨m, ρ, s, er, sr, w, _, e1, fun m1 H1 v A1 S1 r1 => tg_ok t (er.adv A1) r1 et fun σ' er' _ => q m1 H1 σ' A1 S1 er'⟩
theorem ms_expr {f : FE} (he : PE X e (tF X.K f)) (hs : swapsWith e none pos.line X.env = pure false := by rfl) : PS X (.Expr e pos) (tS X.K (sDo f)) :=
  (ps_expr he hs).imp fun D σ H ⟨m, ρ, s, er, sr, o, s', e, q⟩ => by
    obtain ⟨w, s1, e1, e⟩ := bd_inv e
    cases e
    exact ⟨m, ρ, s, er, sr, w, _, e1, fun m1 H1 v A1 S1 r1 => q m1 H1 _ A1 S1 (er.adv A1)⟩
theorem ms_ret {f : FE} (he : PE X e (tF X.K f)) : PS X (.Return (some e) pos) (tS X.K (sRet f)) :=
  (ps_ret he).imp fun D σ H ⟨m, ρ, s, er, sr, o, s', e, q⟩ => by
    obtain ⟨w, s1, e1, e⟩ := bd_inv e
    cases e
    exact ⟨m, ρ, s, er, sr, w, _, e1, fun m1 H1 v A1 S1 r1 => q m1 H1 _ A1 S1 r1⟩
theorem ms_retN : PS X (.Return none pos) (tS X.K sRetN) := ps_retN.imp fun D σ H ⟨m, ρ, s, er, sr, o, s', e, q⟩ => by cases e; exact q m H _ (Adv.refl m H) sr .non
theorem ms_if {t : FT} {f g : FS} {as bs : List Stmt} (hc : PT X c (tT X.K t)) (ha : PSs X as (tS X.K f)) (hb : PSs X bs (tS X.K g)) : PS X (.If c as bs pos) (tS X.K (sIf t f g)) :=
  (ps_if hc ha hb).imp fun D σ H ⟨m, ρ, s, er, sr, o, s', e, q⟩ => by
    obtain ⟨k, s1, e1, e⟩ := bd_inv e
    refine ⟨m, ρ, s, er, sr, k, s1, e1, fun m1 H1 A1 S1 => ?_⟩
    cases k with
    | true =>
      rw [if_pos rfl] at e ⊢
      exact ⟨m1, ρ, s1, er.adv A1, S1, o, s', e, q.adv A1⟩
    | false =>
      rw [if_neg Bool.false_ne_true] at e ⊢
      exact ⟨m1, ρ, s1, er.adv A1, S1, o, s', e, q.adv A1⟩
/-- xs[i] = e -/
def setAt (o i w : W) (s : Sto) : Option Sto := match o, i with
  | .ref n, .int k => match s[n]? with
    | some (.lst ws) => match ixN ws.length k with
      | some j => some (s.set n (.lst (ws.set j w)))
      | none => none
    | _ => none
  | _, _ => none
def sPut (o i f : FE) : FS := fun ρ s => bd (f ρ s) fun w s1 => bd (o ρ s1) fun x s2 => bd (i ρ s2) fun y s3 => match setAt x y w s3 with
  | some s4 => some (.nx ρ, s4)
  | none => none
theorem ms_put {o i : Expr} {tpos : Pos} {fo fi f : FE} (he : PE X e (tF X.K f)) (ho : PE X o (tF X.K fo)) (hi : PE X i (tF X.K fi))
    (ha : ∀ v, assign (.Subscript o i tpos) X.env v = (do
      let ov ← holding [v] (eval o X.env)
      let iv ← holding [v, ov] (eval i X.env)
      standAt tpos
      holding [v, ov, iv] (setItem ov iv v)
      release [v, ov, iv] []) := by intro _; rfl)
    (hs : swapsWithSole [.Subscript o i tpos] e pos.line X.env = pure false := by rfl) (hw : swappedStores [.Subscript o i tpos] e X.env = pure none := by rfl)
    (h1 : (assignEach [.Subscript o i tpos] X.env).map (·.2) = [assign (.Subscript o i tpos) X.env] := by rfl) : PS X (.Assign [.Subscript o i tpos] e pos) (tS X.K (sPut fo fi f)) :=
  (ps_asg he (pg_sub ho hi set_list ha) hs hw h1).imp fun D σ H ⟨m, ρ, s, er, sr, oo, s', e, q⟩ => by
    obtain ⟨w, s1, e1, e⟩ := bd_inv e
    obtain ⟨x, s2, e2, e⟩ := bd_inv e
    obtain ⟨y, s3, e3, e⟩ := bd_inv e
    refine ⟨m, ρ, s, er, sr, w, s1, e1, fun m1 H1 v A1 S1 r1 => ⟨m1, ρ, s1, er.adv A1, S1, x, s2, e2, fun m2 H2 u A2 S2 r2 => ⟨m2, ρ, s2, (er.adv A1).adv A2, S2, y, s3, e3, fun m3 H3 z A3 S3 r3 => ?_⟩⟩⟩
    have r2' := r2.adv A3
    have r1' := (r1.adv A2).adv A3
    cases es : setAt x y w s3 with
    | none => simp only [es] at e; cases e
    | some s4 =>
      simp only [es] at e
      cases e
      cases r2' with
      | @ref n a hn =>
        cases r3 with
        | int k =>
          simp only [setAt] at es
          cases eo : s3[n]? with
          | none => simp only [eo] at es; cases es
          | some ob =>
            cases ob with
            | dct _ => simp only [eo] at es; cases es
            | lam _ _ => simp only [eo] at es; cases es
            | tab _ _ => simp only [eo] at es; cases es
            | dead => simp only [eo] at es; cases es
            | lst ws =>
              simp only [eo] at es
              cases ek : ixN ws.length k with
              | none => simp only [ek] at es; cases es
              | some j =>
                simp only [ek] at es
                cases es
                obtain ⟨a', h2, vs, h3, h4⟩ := S3.at eo
                rw [hn] at h2
                cases h2
                refine ⟨a, vs, k, j, rfl, rfl, h3, by rw [h4.len]; exact ek, ?_⟩
                have A4 : Adv m3 H3 m3 (upd H3 a (.lst (vs.set j v))) := Adv.write S3 hn ⟨_, h3, .inl ⟨_, rfl⟩⟩
                exact q m3 _ σ (((A1.trans A2).trans A3).trans A4) (S3.write hn ⟨_, h3, .inl ⟨_, rfl⟩⟩ ⟨_, upd_same, (h4.adv A4).set j (r1'.adv A4)⟩) ((((er.adv A1).adv A2).adv A3).adv A4)
        | _ => simp only [setAt] at es <;> cases es
      | _ => simp only [setAt] at es <;> cases es
/-- x op= e of a local -/
def sAug (i : Nat) (g : W → W → Sto → Rz W) (f : FE) : FS := fun ρ s => match ρ[i]? with
  | some (some x) => bd (f ρ s) fun y s1 => bd (g x y s1) fun z s2 => some (.nx (ρ.set i (some z)), s2)
  | _ => none
theorem ms_aug {i : Nat} {x : Str} {op : Operator} {ti : TIp} {pos' : Pos} {g : W → W → Sto → Rz W} {f : FE} (hN : X.N.Nodup) (hi : X.N[i]? = some x) (hx : Loc X.env.scope x) (he : PE X e (tF X.K f)) (ho : PIp X op ti) (hg : OpF X.K ti g) (hf : X.fn x = true ∨ X.env.scope.names.lookup x = some .local := by first | exact .inl rfl | exact .inr rfl | assumption) :
    PS X (.AugAssign (.Name x pos') op e pos) (tS X.K (sAug i g f)) :=
  (ps_aug hN hi hx he ho hf).imp fun D σ H ⟨m, ρ, s, er, sr, o, s', e, q⟩ => by
    cases hx : ρ[i]? with
    | none => simp only [sAug, hx] at e; cases e
    | some ox =>
      cases ox with
      | none => simp only [sAug, hx] at e; cases e
      | some x =>
        simp only [sAug, hx] at e
        obtain ⟨y, s1, e1, e⟩ := bd_inv e
        obtain ⟨z, s2, e2, e⟩ := bd_inv e
        cases e
        obtain ⟨v, hv, r⟩ := er.get hx
        exact ⟨v, hv, m, ρ, s, er, sr, y, s1, e1, fun m1 H1 u A1 S1 r1 => hg m1 H1 s1 x y v u _ S1 (r.adv A1) r1 ⟨z, _, e2, fun m2 H2 zv A2 S2 r2 => q m2 H2 _ (A1.trans A2) S2 (((er.adv A1).adv A2).set i r2)⟩⟩
/-! ### while -/
def wh (t : FT) (b : FS) : Nat → FS
  | 0, _, _ => none
  | n + 1, ρ, s => bd (t ρ s) fun k s1 => if k = true then bd (b ρ s1) fun o s2 => match o with
      | .nx ρ' => wh t b n ρ' s2
      | .ct ρ' => wh t b n ρ' s2
      | .bk ρ' => some (.nx ρ', s2)
      | .rt w => some (.rt w, s2)
    else some (.nx ρ, s1)
def sWh (n : EnvM → Sto → Nat) (t : FT) (b : FS) : FS := fun ρ s => wh t b (n ρ s) ρ s
theorem ms_while {n : EnvM → Sto → Nat} {t : FT} {b : FS} {body : List Stmt} (hp : PassesOwn (model X.prog X.w) X.A X.env X.xe) (hc : PT X c (tT X.K t)) (hb : PSs X body (tS X.K b)) : PS X (.While c body [] pos) (tS X.K (sWh n t b)) :=
  (ps_while hp hc hb).imp fun D σ H ⟨m, ρ, s, er, sr, o, s', e, q⟩ => by
    refine ⟨fun μ σ1 H1 => ∃ m1 ρ1 s1, Adv m H m1 H1 ∧ ER X.K m1 H1 ρ1 σ1 ∧ SR X.K m1 H1 s1 ∧ wh t b μ ρ1 s1 = some (o, s'), ⟨n ρ s, m, ρ, s, Adv.refl m H, er, sr, e⟩, ?_⟩
    rintro μ σ1 H1 ⟨m1, ρ1, s1, A1, er1, S1, e1⟩
    cases μ with
    | zero => cases e1
    | succ μ =>
      rw [wh] at e1
      obtain ⟨k, s2, e2, e1⟩ := bd_inv e1
      refine ⟨m1, ρ1, s1, er1, S1, k, s2, e2, fun m2 H2 A2 S2 => ?_⟩
      cases k with
      | false =>
        rw [if_neg Bool.false_ne_true] at e1 ⊢
        cases e1
        exact q m2 H2 σ1 (A1.trans A2) S2 (er1.adv A2)
      | true =>
        rw [if_pos rfl] at e1 ⊢
        obtain ⟨o3, s3, e3, e1⟩ := bd_inv e1
        refine ⟨fun σ' H' => ∃ m', m' < μ + 1 ∧ ∃ m1 ρ1 s1, Adv m H m1 H' ∧ ER X.K m1 H' ρ1 σ' ∧ SR X.K m1 H' s1 ∧ wh t b m' ρ1 s1 = some (o, s'), fun _ _ h => h, m2, ρ1, s2, er1.adv A2, S2, o3, s3, e3, ?_⟩
        cases o3 with
        | nx ρ3 => exact fun m3 H3 σ3 A3 S3 er3 => ⟨μ, Nat.lt_succ_self μ, m3, ρ3, s3, (A1.trans A2).trans A3, er3, S3, e1⟩
        | ct ρ3 => exact fun m3 H3 σ3 A3 S3 er3 => ⟨μ, Nat.lt_succ_self μ, m3, ρ3, s3, (A1.trans A2).trans A3, er3, S3, e1⟩
        | bk ρ3 => cases e1; exact fun m3 H3 σ3 A3 S3 er3 => q m3 H3 σ3 ((A1.trans A2).trans A3) S3 er3
        | rt w => cases e1; exact fun m3 H3 v A3 S3 r3 => q m3 H3 v ((A1.trans A2).trans A3) S3 r3
/-! ### what is walked -/
def okc (c : Option (Nat × List W)) (s : Sto) : Prop := match c with
  | none => True
  | some (n, ws) => s[n]? = some (.lst ws)
structure ItOk (K : PySem.W.Frag) (J : It) (m0 : List Addr) (H0 : Hp) (xs : List W) (c : Option (Nat × List W)) : Prop where
  go : ∀ m H s i x, Adv m0 H0 m H → SR K m H s → okc c s → xs[i]? = some x → J.go i H ∧ ∀ v H', J.yld i H v H' → ∃ m', Adv m H m' H' ∧ SR K m' H' s ∧ R K m' H' x v
  stop : ∀ m H s, Adv m0 H0 m H → SR K m H s → okc c s → J.stop xs.length H
abbrev FI := EnvM → Sto → Rz (List W × Option (Nat × List W))
def tI (K : PySem.W.Frag) (f : FI) : TI := fun σ H Q => ∃ m ρ s, ER K m H ρ σ ∧ SR K m H s ∧ ∃ xs c s', f ρ s = some ((xs, c), s') ∧ ∀ m' H' J, Adv m H m' H' → SR K m' H' s' → ItOk K J m' H' xs c → Q J H'
theorem _root_.L2.PI.imp {tg iter : Expr} {t t' : TI} (h : PI X tg iter t) (q : ∀ σ H Q, t' σ H Q → t σ H Q) : PI X tg iter t' := ⟨fun pins s σ H Q I r => h.run pins s σ H Q I (q _ _ _ r)⟩
open Classical in
noncomputable def fo (t : Tg) (b : FS) (c : Option (Nat × List W)) : List W → FS
  | [], ρ, s => if okc c s then some (.nx ρ, s) else none
  | x :: r, ρ, s => if okc c s then match tgM t x ρ with
      | some ρ1 => bd (b ρ1 s) fun o s2 => match o with
        | .nx ρ' => fo t b c r ρ' s2
        | .ct ρ' => fo t b c r ρ' s2
        | .bk ρ' => some (.nx ρ', s2)
        | .rt w => some (.rt w, s2)
      | none => none
    else none
noncomputable def sFor (it : FI) (t : Tg) (b : FS) : FS := fun ρ s => bd (it ρ s) fun x s1 => fo t b x.2 x.1 ρ s1
theorem ms_for {it : FI} {t : Tg} {b : FS} {tg iter : Expr} {body : List Stmt} (hp : PassesOwn (model X.prog X.w) X.A X.env X.xe) (hc : X.calm = true) (hi : PI X tg iter (tI X.K it)) (hg : PG X tg (tgT X.K t)) (hb : PSs X body (tS X.K b))
    (hs : ∀ x, foldedSetIterable iter X.env x = pure x := by intro _; rfl) : PS X (.For tg iter body [] pos) (tS X.K (sFor it t b)) :=
  (ps_for hp hc hi hg hb hs).imp fun D σ H ⟨m, ρ, s, er, sr, o, s', e, q⟩ => by
    obtain ⟨⟨xs, c⟩, s1, e1, e⟩ := bd_inv e
    refine ⟨m, ρ, s, er, sr, xs, c, s1, e1, fun m1 H1 J A1 S1 ok => ?_⟩
    refine ⟨fun i μ σ2 H2 => ∃ m2 ρ2 s2, Adv m1 H1 m2 H2 ∧ ER X.K m2 H2 ρ2 σ2 ∧ SR X.K m2 H2 s2 ∧ i + μ = xs.length ∧ fo t b c (xs.drop i) ρ2 s2 = some (o, s'), ⟨xs.length, m1, ρ, s1, Adv.refl m1 H1, er.adv A1, S1, Nat.zero_add _, e⟩, ?_⟩
    rintro i μ σ2 H2 ⟨m2, ρ2, s2, A2, er2, S2, hi, e2⟩
    cases μ with
    | zero =>
      have hl : i = xs.length := by omega
      subst hl
      rw [List.drop_length, fo] at e2
      by_cases ho : okc c s2
      · rw [if_pos ho] at e2
        cases e2
        exact .inl ⟨ok.stop m2 H2 _ A2 S2 ho, q m2 H2 σ2 (A1.trans A2) S2 er2⟩
      · rw [if_neg ho] at e2
        cases e2
    | succ μ =>
      have hl : i < xs.length := by omega
      rw [List.drop_eq_getElem_cons hl, fo] at e2
      by_cases ho : okc c s2
      · rw [if_pos ho] at e2
        obtain ⟨g1, g2⟩ := ok.go m2 H2 s2 i xs[i] A2 S2 ho (List.getElem?_eq_getElem hl)
        refine .inr ⟨g1, fun σ' H' => ∃ m', m' < μ + 1 ∧ ∃ m2 ρ2 s2, Adv m1 H1 m2 H' ∧ ER X.K m2 H' ρ2 σ' ∧ SR X.K m2 H' s2 ∧ (i + 1) + m' = xs.length ∧ fo t b c (xs.drop (i + 1)) ρ2 s2 = some (o, s'), fun _ _ h => h, fun v H3 y => ?_⟩
        obtain ⟨m3, A3, S3, r3⟩ := g2 v H3 y
        cases et : tgM t xs[i] ρ2 with
        | none => simp only [et] at e2; cases e2
        | some ρ4 =>
          simp only [et] at e2
          obtain ⟨o5, s5, e5, e2⟩ := bd_inv e2
          refine tg_ok t (er2.adv A3) r3 et fun σ4 er4 _ => ⟨m3, ρ4, s2, er4, S3, o5, s5, e5, ?_⟩
          cases o5 with
          | nx ρ5 => exact fun m6 H6 σ6 A6 S6 er6 => ⟨μ, Nat.lt_succ_self μ, m6, ρ5, s5, (A2.trans A3).trans A6, er6, S6, by omega, e2⟩
          | ct ρ5 => exact fun m6 H6 σ6 A6 S6 er6 => ⟨μ, Nat.lt_succ_self μ, m6, ρ5, s5, (A2.trans A3).trans A6, er6, S6, by omega, e2⟩
          | bk ρ5 => cases e2; exact fun m6 H6 σ6 A6 S6 er6 => q m6 H6 σ6 (A1.trans ((A2.trans A3).trans A6)) S6 er6
          | rt w => cases e2; exact fun m6 H6 v A6 S6 r6 => q m6 H6 v (A1.trans ((A2.trans A3).trans A6)) S6 r6
      · rw [if_neg ho] at e2
        cases e2
/-! ### list comprehensions -/
theorem wipe_wipe (σ : L2.St) : ∀ vs : List Nat, wipe (wipe σ vs) vs = wipe σ vs
  | [] => rfl
  | v :: vs => by
    show wipe ((wipe σ vs).set v none) (v :: vs) = _
    rw [wipe_set List.mem_cons_self]
    show (wipe (wipe σ vs) vs).set v none = _
    rw [wipe_wipe σ vs]
    rfl
def wipeM (ρ : EnvM) : List Nat → EnvM
  | [] => ρ
  | v :: vs => (wipeM ρ vs).set v none
theorem ER.wipe {K : PySem.W.Frag} {m : List Addr} {H : Hp} {ρ : EnvM} {σ : L2.St} (h : ER K m H ρ σ) : ∀ vs, ER K m H (wipeM ρ vs) (L2.wipe σ vs)
  | [] => h
  | v :: vs => ER.forget v (ER.wipe h vs)
open Classical in
noncomputable def lcf (t : Tg) (u : FT) (f : FE) (c : Option (Nat × List W)) (ρ : EnvM) : List W → Sto → Rz (List W)
  | [], s => if okc c s then some ([], s) else none
  | x :: r, s => if okc c s then match tgM t x ρ with
      | some ρ1 => bd (u ρ1 s) fun k s1 => if k = true then bd (f ρ1 s1) fun w s2 => bd (lcf t u f c ρ r s2) fun ws s3 => some (w :: ws, s3) else lcf t u f c ρ r s1
      | none => none
    else none
noncomputable def eLc (vs : List Nat) (it : FI) (t : Tg) (u : FT) (f : FE) : FE := fun ρ s => bd (it ρ s) fun x s1 => if x.1.length ≤ 100000 then bd (lcf t u f x.2 (wipeM ρ vs) x.1 s1) fun ws s2 => some (.ref s2.length, s2 ++ [.lst ws]) else none
theorem tLc_of {K : PySem.W.Frag} {vs : List Nat} {it : FI} {t : Tg} {u : FT} {f : FE} (hv : ∀ i ∈ t.names, i ∈ vs) : ∀ σ H Q, tF K (eLc vs it t u f) σ H Q → tLc (tI K it) (tgT K t) (tT K u) (tF K f) vs σ H Q := by
  rintro σ H Q ⟨m, ρ, s, er, sr, w, s', e, q⟩
  obtain ⟨⟨xs, c⟩, s1, e1, e⟩ := bd_inv e
  by_cases hz : xs.length ≤ 100000
  · rw [if_pos hz] at e
    obtain ⟨ws, s2, e2, e⟩ := bd_inv e
    cases e
    refine ⟨m, ρ, s, er, sr, xs, c, s1, e1, fun m1 H1 J A1 S1 ok D hD => ?_⟩
    have hDm : D ∉ m1 := fun z => by
      obtain ⟨o, h, _⟩ := S1.there z
      rw [hD] at h; cases h
    have A2 : Adv m1 H1 m1 (upd H1 D (.lst [])) := Adv.fresh hD
    have S2 : SR K m1 (upd H1 D (.lst [])) s1 := S1.fresh hD
    -- the walk: D holds what has been made
    refine ⟨fun i μ H2 => ∃ m2 s2' acc accW rw, Adv m1 H1 m2 H2 ∧ D ∉ m2 ∧ SR K m2 H2 s2' ∧ H2 D = some (.lst acc) ∧ RL K m2 H2 accW acc ∧ i + μ = xs.length ∧ acc.length ≤ i ∧ lcf t u f c (wipeM ρ vs) (xs.drop i) s2' = some (rw, s2) ∧ accW ++ rw = ws,
      ⟨xs.length, m1, s1, [], [], ws, A2, hDm, S2, upd_same, .nil, Nat.zero_add _, Nat.le_refl _, e2, rfl⟩, ?_⟩
    rintro i μ H2 ⟨m2, s3, acc, accW, rw_, A3, hD3, S3, h3, r3, hi, hl, e3, ea⟩
    cases μ with
    | zero =>
      have hl2 : i = xs.length := by omega
      subst hl2
      rw [List.drop_length, lcf] at e3
      by_cases ho : okc c s3
      · rw [if_pos ho] at e3
        cases e3
        refine .inl ⟨ok.stop m2 H2 _ A3 S3 ho, ?_⟩
        rw [List.append_nil] at ea
        subst ea
        have A4 : Adv m1 H1 (m2 ++ [D]) H2 := by
          refine ⟨?_, A3.same, fun a h => ?_, A3.tup, A3.frz⟩
          · obtain ⟨t, rfl⟩ := A3.pre
            exact ⟨t ++ [D], by rw [List.append_assoc]⟩
          · rcases List.mem_append.mp h with h | h
            · exact A3.new a h
            · rw [List.mem_singleton.mp h]; exact .inr hD
        refine q (m2 ++ [D]) H2 (.ref D) (A1.trans A4) (S3.join hD3 ⟨acc, h3, r3⟩) (.ref ?_)
        rw [← S3.len, List.getElem?_append_right (Nat.le_refl _), Nat.sub_self]
        rfl
      · rw [if_neg ho] at e3
        cases e3
    | succ μ =>
      have hl2 : i < xs.length := by omega
      rw [List.drop_eq_getElem_cons hl2, lcf] at e3
      by_cases ho : okc c s3
      · rw [if_pos ho] at e3
        obtain ⟨g1, g2⟩ := ok.go m2 H2 s3 i xs[i] A3 S3 ho (List.getElem?_eq_getElem hl2)
        refine .inr ⟨g1, _, fun _ h => h, fun v H3 y => ?_⟩
        obtain ⟨m3, A5, S5, r5⟩ := g2 v H3 y
        have keepD : ∀ {m' H'}, Adv m2 H2 m' H' → D ∉ m' ∧ H' D = some (.lst acc) := fun {m' H'} A => by
          refine ⟨fun z => ?_, A.same D _ h3 hD3⟩
          rcases A.new D z with z | z
          · exact hD3 z
          · rw [h3] at z; cases z
        cases et : tgM t xs[i] (wipeM ρ vs) with
        | none => simp only [et] at e3; cases e3
        | some ρ4 =>
          simp only [et] at e3
          obtain ⟨k, s5, e5, e3⟩ := bd_inv e3
          have erw := ((er.adv A1).adv (A3.trans A5)).wipe vs
          refine tg_ok t erw r5 et fun σ4 er4 w4 => ⟨by rw [w4 vs hv, wipe_wipe], m3, ρ4, s3, er4, S5, k, s5, e5, fun m6 H6 A6 S6 => ?_⟩
          cases k with
          | false =>
            rw [if_neg Bool.false_ne_true] at e3 ⊢
            obtain ⟨n6, h6⟩ := keepD (A5.trans A6)
            exact ⟨μ, Nat.lt_succ_self μ, m6, s5, acc, accW, rw_, A3.trans (A5.trans A6), n6, S6, h6, r3.adv (A5.trans A6), by omega, by omega, e3, ea⟩
          | true =>
            rw [if_pos rfl] at e3 ⊢
            obtain ⟨w7, s7, e7, e3⟩ := bd_inv e3
            obtain ⟨ws8, s8, e8, e3⟩ := bd_inv e3
            cases e3
            refine ⟨m6, ρ4, s5, er4.adv A6, S6, w7, s7, e7, fun m7 H7 v7 A7 S7 r7 => ?_⟩
            have AA := A5.trans (A6.trans A7)
            obtain ⟨n7, h7⟩ := keepD AA
            have r3' := r3.adv AA
            refine ⟨acc, h7, szt (by omega), μ, Nat.lt_succ_self μ, m7, s7, acc ++ [v7], accW ++ [w7], ws8, ?_, n7, S7.off n7 h7, upd_same, (r3'.ext (Ext.off h7)).app (RL.one (r7.ext (Ext.off h7))), by omega, by rw [List.length_append, List.length_singleton]; omega, e8, by rw [List.append_assoc]; exact ea⟩
            have A8 := A3.trans AA
            refine ⟨A8.pre, fun a o h n => ?_, A8.new, fun a xs h => ?_, fun a o u h => ?_⟩
            · rw [upd_ne (ne_of_none h hD)]
              exact A8.same a o h n
            · rw [upd_ne (ne_of_none h hD)]
              exact A8.tup a xs h
            · rw [upd_ne (ne_of_none h hD)]
              exact A8.frz a o u h
      · rw [if_neg ho] at e3
        cases e3
  · rw [if_neg hz] at e
    cases e
theorem m_lc {elt tg iter : Expr} {ifs : List Expr} {scope : Scope} {own : List (Str × Nat)} {it : FI} {t : Tg} {u : FT} {f : FE} (hv : ∀ i ∈ t.names, i ∈ own.map (·.2)) (hc : X.calm = true) (hN : X.N.Nodup) (hi : PI X tg iter (tI X.K it)) (ok : BlkOk X.N X.env.scope scope own)
    (hg : ∀ (s : Shared) (H : Hp) (C : Addr) (cl : List (Str × Addr)) (fp : List Addr), PG (X.blk s H scope (compEnvC scope cl C X.env) fp) tg (tgT X.K t)) (ht : ∀ (s : Shared) (H : Hp) (C : Addr) (cl : List (Str × Addr)) (fp : List Addr), PTs (X.blk s H scope (compEnvC scope cl C X.env) fp) ifs (tT X.K u))
    (he : ∀ (s : Shared) (H : Hp) (C : Addr) (cl : List (Str × Addr)) (fp : List Addr), PE (X.blk s H scope (compEnvC scope cl C X.env) fp) elt (tF X.K f)) (hs : ∀ x, foldedSetIterable iter X.env x = pure x := by intro _; rfl) :
    PE X (.ListComp elt [⟨tg, iter, ifs, 0⟩] scope pos) (tF X.K (eLc (own.map (·.2)) it t u f)) := (pe_lc hc hN hi ok hg ht he hs).imp (tLc_of hv)
theorem ms_setLc {i : Nat} {y : Str} {py : Pos} {elt tg iter : Expr} {ifs : List Expr} {scope : Scope} {own : List (Str × Nat)} {spos : Pos} {it : FI} {t : Tg} {u : FT} {f : FE} (hv : ∀ i ∈ t.names, i ∈ own.map (·.2)) (hc : X.calm = true) (hN : X.N.Nodup) (hy : X.N[i]? = some y) (hyl : X.env.scope.names.lookup y = some .local)
    (hsw : swapsWith (.ListComp elt [⟨tg, iter, ifs, 0⟩] scope pos) (some (.Name y py)) spos.line X.env = pure true) (hi : PI X tg iter (tI X.K it)) (ok : BlkOk X.N X.env.scope scope own)
    (hg : ∀ (s : Shared) (H : Hp) (C : Addr) (cl : List (Str × Addr)) (fp : List Addr), PG (X.blk s H scope (compEnvC scope cl C X.env) fp) tg (tgT X.K t)) (ht : ∀ (s : Shared) (H : Hp) (C : Addr) (cl : List (Str × Addr)) (fp : List Addr), PTs (X.blk s H scope (compEnvC scope cl C X.env) fp) ifs (tT X.K u))
    (he : ∀ (s : Shared) (H : Hp) (C : Addr) (cl : List (Str × Addr)) (fp : List Addr), PE (X.blk s H scope (compEnvC scope cl C X.env) fp) elt (tF X.K f)) (hs : ∀ x, foldedSetIterable iter X.env x = pure x := by intro _; rfl) :
    PS X (.Assign [.Name y py] (.ListComp elt [⟨tg, iter, ifs, 0⟩] scope pos) spos) (tS X.K (sSet i (eLc (own.map (·.2)) it t u f))) :=
  (ps_setLc hc hN hy hyl hsw hi ok hg ht he hs).imp fun D σ H ⟨m, ρ, s, er, sr, o, s', e, q⟩ => by
    obtain ⟨w, s1, e1, e⟩ := bd_inv e
    cases e
    exact tLc_of hv σ H _ ⟨m, ρ, s, er, sr, w, _, e1, fun m1 H1 v A1 S1 r1 => q m1 H1 _ A1 S1 ((er.adv A1).set i r1)⟩
def bYes : FT := fun _ s => some (true, s)
theorem mts_nil : PTs X [] (tT X.K bYes) := by
  have h := pts_nil (X := X)
  cases h with
  | mk run => exact ⟨fun pins s σ H Q I ⟨m, ρ, s1, er, sr, k, s', e, q⟩ => run pins s σ H Q I (by cases e; exact q m H (Adv.refl m H) sr)⟩
theorem mts_one {c : Expr} {t : FT} (h : PT X c (tT X.K t)) : PTs X [c] (tT X.K t) := pts_one h

/-! ### defs -/
/-- the promise: what the mirror F gives -/
def spF (K : PySem.W.Frag) (n : Nat) (F : List W → Sto → Rz W) : Sp := fun vs H Q _ => vs.length = n ∧ ∃ m s ws, RL K m H ws vs ∧ SR K m H s ∧ wE K m H (F ws s) Q
def mkF (n N : Nat) (body : FS) : List W → Sto → Rz W := fun ws s => if ws.length = n then bd (body (ws.map some ++ List.replicate (N - ws.length) none) s) fun o s1 => match o with
  | .rt w => some (w, s1)
  | .nx _ => some (.non, s1)
  | _ => none
  else none
structure Own (P : Program) (w : World) (K : PySem.W.Frag) (mg : Str → Option Value) (base : Heap) (k : Nat) (x : Str) (ps : List Str) (F : List W → Sto → Rz W) : Prop where
  ex : ∃ (f : Addr) (fd : FuncData), FnOk P w K mg base CX0 k f fd ps (spF K ps.length F) ∧ Binds K fd ps [] ∧ PySem.W.keepIn K (.ref f) = true ∧ mg x = some (.ref f)
  ln : ∀ ws s r, F ws s = some r → ws.length = ps.length
theorem Own.mono {P : Program} {w : World} {K : PySem.W.Frag} {mg : Str → Option Value} {base : Heap} {j k : Nat} {x : Str} {ps : List Str} {F : List W → Sto → Rz W} (h : Own P w K mg base j x ps F) (hk : j ≤ k) : Own P w K mg base k x ps F := by
  obtain ⟨f, fd, h1, h2, h3, h4⟩ := h.ex
  exact ⟨⟨f, fd, h1.mono hk, h2, h3, h4⟩, h.ln⟩
theorem m_call {k : Nat} {x : Str} {ps : List Str} {F : List W → Sto → Rz W} {fa : FA} {p : Pos} (O : Own X.prog X.w X.K X.mg X.base k x ps F) (hr : Room k X.A) (hg : Gl X x) (ha : PA X (e :: es) (tA X.K fa)) (hdb : (x == ("__debug__" : Str)) = false := by decide) (he : starEach (e :: es) X.env = (false, eval e X.env) :: starEach es X.env := by rfl)
    (hpl : (backTo pos (starEach es X.env)).any (·.1) = false := by rfl) : PE X (.Call (.Name x p) (e :: es) [] pos) (tF X.K (eFn F fa)) := by
  obtain ⟨f, fd, h1, h2, h3, h4⟩ := O.ex
  refine (pe_call h1 hr hg h4 h3 h2 .nil pass0 ha hdb he hpl).imp fun σ H Q ⟨m, ρ, s, er, sr, w, s', e, q⟩ => ?_
  obtain ⟨ws, s1, e1, e⟩ := bd_inv e
  refine ⟨m, ρ, s, er, sr, ws, s1, e1, fun m1 H1 vs A1 S1 r1 => ?_⟩
  show spF X.K ps.length F (vs ++ []) H1 Q E0
  rw [List.append_nil]
  exact ⟨by rw [r1.len]; exact O.ln _ _ _ e, m1, s1, ws, r1, S1, w, s', e, fun m2 H2 v A2 => q m2 H2 v (A1.trans A2)⟩
theorem m_call0 {k : Nat} {x : Str} {F : List W → Sto → Rz W} {p : Pos} (O : Own X.prog X.w X.K X.mg X.base k x [] F) (hr : Room k X.A) (hg : Gl X x) (hdb : (x == ("__debug__" : Str)) = false := by decide) : PE X (.Call (.Name x p) [] [] pos) (tF X.K (eFn F aNil)) := by
  obtain ⟨f, fd, h1, h2, h3, h4⟩ := O.ex
  refine (pe_call0 h1 hr hg h4 h3 h2 .nil pass0 hdb).imp fun σ H Q ⟨m, ρ, s, er, sr, w, s', e, q⟩ => ?_
  exact ⟨rfl, m, s, [], .nil, sr, w, s', e, q⟩
end
/-- THE RULE for a def -/
theorem fnm_of {P : Program} {w : World} {K : PySem.W.Frag} {mg : Str → Option Value} {base : Heap} {x : Str} {st : Stmt} {f : Addr} {fd : FuncData} {N ps : List Str} {k : Nat} {body : FS} (F : Fun K x x st f fd) (S : FnScope N ps (defScope st))
    (h : ∀ (cdv : Value) (A : Around) (outer : List Env) (s : Shared) (H : Hp) (E : XK), Room k (A.deeper (envOfC x (defScope st) s.heap.objs.size f cdv)) → PSs (cxOf CX0 P w K mg base N x (defScope st) f cdv A outer s H E).nox (defBody st) (tS K body)) :
    FnOk P w K mg base CX0 (k + 1) f fd ps (spF K ps.length (mkF ps.length N.length body)) := by
  refine F.ok S (fun vs H Q E h => h.1) (fun cdv A outer s H vs Q E hr hq => ⟨_, h cdv A outer s H E hr, ?_⟩)
  obtain ⟨hl, m, st, ws, r, sr, w, s', e, q⟩ := hq
  unfold mkF at e
  rw [if_pos (by rw [← r.len]; exact hl)] at e
  obtain ⟨o, s1, e1, e⟩ := bd_inv e
  refine ⟨m, _, st, ?_, sr, o, s1, e1, ?_⟩
  · unfold L2.start
    rw [r.len]
    exact r.env.app (ER.nones _)
  · cases o with
    | nx ρ1 => cases e; exact fun m' H' σ' A S _ => q m' H' _ A S .non
    | rt w => cases e; exact q
    | bk ρ1 => cases e
    | ct ρ1 => cases e
theorem own_of {P : Program} {w : World} {K : PySem.W.Frag} {mg : Str → Option Value} {base : Heap} {x : Str} {st : Stmt} {f : Addr} {fd : FuncData} {N ps : List Str} {k : Nat} {body : FS} (F : Fun K x x st f fd) (S : FnScope N ps (defScope st)) (hb : Binds K fd ps []) (hm : mg x = some (.ref f))
    (h : ∀ (cdv : Value) (A : Around) (outer : List Env) (s : Shared) (H : Hp) (E : XK), Room k (A.deeper (envOfC x (defScope st) s.heap.objs.size f cdv)) → PSs (cxOf CX0 P w K mg base N x (defScope st) f cdv A outer s H E).nox (defBody st) (tS K body)) :
    Own P w K mg base (k + 1) x ps (mkF ps.length N.length body) := by
  refine ⟨⟨f, fd, fnm_of F S h, hb, F.kp, hm⟩, fun ws s r e => ?_⟩
  unfold mkF at e
  split at e
  · assumption
  · cases e
/-- no promise at all -/
theorem own_none {P : Program} {w : World} {K : PySem.W.Frag} {mg : Str → Option Value} {base : Heap} {x : Str} {f : Addr} {fd : FuncData} {ps : List Str} {k : Nat} (hb : Binds K fd ps []) (hk : PySem.W.keepIn K (.ref f) = true) (hm : mg x = some (.ref f)) : Own P w K mg base k x ps (fun _ _ => none) :=
  ⟨⟨f, fd, ⟨fun vs H Q E h => h.1, fun A outer s H args us vs Q E _ _ _ _ h => by obtain ⟨_, _, _, _, _, _, _, _, e, _⟩ := h; cases e⟩, hb, hk, hm⟩, fun _ _ _ e => by cases e⟩
end Mir

set_option Elab.async false
set_option linter.all false
set_option maxRecDepth 100000
namespace Mir
open PySem PySem.Spec PyProof.Rows L2
section
variable {K : PySem.W.Frag}
/-- a result that leaves the store -/
theorem wE.val {m : List Addr} {H : Hp} {w : W} {s : Sto} {Q : VK} (h : wE K m H (some (w, s)) Q) (S : SR K m H s) : ∀ v, R K m H w v → Q v H := by
  obtain ⟨w', s', e, q⟩ := h
  cases e
  exact fun v r => q m H v (Adv.refl m H) S r
/-! ### ints -/
def gII (f : Int → Int → W) : W → W → Sto → Rz W := fun x y s => match x, y with
  | .int i, .int j => some (f i j, s)
  | _, _ => none
def gIIc (c : Int → Int → Bool) (f : Int → Int → W) : W → W → Sto → Rz W := fun x y s => match x, y with
  | .int i, .int j => if c i j = true then some (f i j, s) else none
  | _, _ => none
theorem f_I0 {g : Int → Int → V} {f : Int → Int → W} (hf : ∀ m H i j, R K m H (f i j) (g i j)) : OpF K (rI0 g) (gII f) := by
  intro m H s x y v u Q S rx ry h
  cases rx with
  | int i =>
    cases ry with
    | int j => exact ⟨i, j, rfl, rfl, h.val S _ (hf m H i j)⟩
    | _ => obtain ⟨_, _, e, _⟩ := h; cases e
  | _ => obtain ⟨_, _, e, _⟩ := h; cases e
theorem f_I {C : Int → Int → Prop} {c : Int → Int → Bool} {g : Int → Int → V} {f : Int → Int → W} (hc : ∀ i j, c i j = true → C i j) (hf : ∀ m H i j, R K m H (f i j) (g i j)) : OpF K (rI C g) (gIIc c f) := by
  intro m H s x y v u Q S rx ry h
  cases rx with
  | int i =>
    cases ry with
    | int j =>
      by_cases q : c i j = true
      · simp only [gIIc, q, if_pos] at h
        exact ⟨i, j, rfl, rfl, hc i j q, h.val S _ (hf m H i j)⟩
      · simp only [gIIc, q, if_neg, not_false_eq_true] at h
        obtain ⟨_, _, e, _⟩ := h; cases e
    | _ => obtain ⟨_, _, e, _⟩ := h; cases e
  | _ => obtain ⟨_, _, e, _⟩ := h; cases e
abbrev gSub := gII fun i j => .int (i - j)
abbrev gLt := gII fun i j => .bl (decide (i < j))
abbrev gLe := gII fun i j => .bl (decide (i ≤ j))
abbrev gGt := gII fun i j => .bl (decide (j < i))
abbrev gGe := gII fun i j => .bl (decide (j ≤ i))
abbrev gMulI := gIIc (fun i j => decide ((-(2 ^ 64) < i ∧ i < 2 ^ 64) ∨ (-(2 ^ 64) < j ∧ j < 2 ^ 64))) fun i j => .int (i * j)
abbrev gDiv := gIIc (fun i j => decide (0 < j ∧ j < 1073741824)) fun i j => .int (i / j)
abbrev gDivW := gIIc (fun _ j => decide (0 < j ∧ j.natAbs.log2 < 9000)) fun i j => .int (i / j)
abbrev gDivN := gIIc (fun _ j => decide (j ≠ 0 ∧ j.natAbs < 1073741824)) fun i j => .int (i.fdiv j)
abbrev gMod := gIIc (fun _ j => decide (0 < j)) fun i j => .int (i % j)
abbrev gModN := gIIc (fun _ j => decide (j ≠ 0)) fun i j => .int (i.fmod j)
abbrev gPow := gIIc (fun i j => decide (0 ≤ j ∧ j ≤ 1000000 ∧ i.natAbs < 2 ^ 64)) fun i j => .int (i ^ j.toNat)
theorem f_sub : OpF K (rI0 fun i j => .int (i - j)) gSub := f_I0 fun _ _ _ _ => .int _
theorem f_lt : OpF K (rI0 fun i j => .bl (decide (i < j))) gLt := f_I0 fun _ _ _ _ => .bl _
theorem f_le : OpF K (rI0 fun i j => .bl (decide (i ≤ j))) gLe := f_I0 fun _ _ _ _ => .bl _
theorem f_gt : OpF K (rI0 fun i j => .bl (decide (j < i))) gGt := f_I0 fun _ _ _ _ => .bl _
theorem f_ge : OpF K (rI0 fun i j => .bl (decide (j ≤ i))) gGe := f_I0 fun _ _ _ _ => .bl _
theorem f_mulI : OpF K (rI CMul fun i j => .int (i * j)) gMulI := f_I (fun i j h => of_decide_eq_true (p := (-(2 ^ 64) < i ∧ i < 2 ^ 64) ∨ (-(2 ^ 64) < j ∧ j < 2 ^ 64)) h) fun _ _ _ _ => .int _
theorem f_div : OpF K (rI CDiv fun i j => .int (i / j)) gDiv := f_I (fun i j h => of_decide_eq_true (p := 0 < j ∧ j < 1073741824) h) fun _ _ _ _ => .int _
theorem f_divW : OpF K (rI CDivW fun i j => .int (i / j)) gDivW := f_I (fun i j h => of_decide_eq_true (p := 0 < j ∧ j.natAbs.log2 < 9000) h) fun _ _ _ _ => .int _
theorem f_divN : OpF K (rI CDivN fun i j => .int (i.fdiv j)) gDivN := f_I (fun i j h => of_decide_eq_true (p := j ≠ 0 ∧ j.natAbs < 1073741824) h) fun _ _ _ _ => .int _
theorem f_mod : OpF K (rI (fun _ j => 0 < j) fun i j => .int (i % j)) gMod := f_I (fun i j h => of_decide_eq_true h) fun _ _ _ _ => .int _
theorem f_modN : OpF K (rI (fun _ j => j ≠ 0) fun i j => .int (i.fmod j)) gModN := f_I (fun i j h => of_decide_eq_true h) fun _ _ _ _ => .int _
theorem f_pow : OpF K (rI CPow fun i j => .int (i ^ j.toNat)) gPow := f_I (fun i j h => of_decide_eq_true (p := 0 ≤ j ∧ j ≤ 1000000 ∧ i.natAbs < 2 ^ 64) h) fun _ _ _ _ => .int _
def gNeg : W → Sto → Rz W := fun x s => match x with
  | .int i => some (.int (-i), s)
  | _ => none
theorem f_neg : UnF K (rU fun i => .int (-i)) gNeg := by
  intro m H s x v Q S rx h
  cases rx with
  | int i => exact ⟨i, rfl, h.val S _ (.int _)⟩
  | _ => obtain ⟨_, _, e, _⟩ := h; cases e
/-! ### + of ints, texts, tuples, lists -/
def gAdd : W → W → Sto → Rz W := fun x y s => match x, y with
  | .int i, .int j => some (.int (i + j), s)
  | .str a, .str b => if a.length + b.length ≤ 100000 then some (.str (a ++ b), s) else none
  | .tup a, .tup b => if a.length + b.length ≤ 100000 then some (.tup (a ++ b), s) else none
  | .ref n, .ref k => match s[n]?, s[k]? with
    | some (.lst a), some (.lst b) => if a.length + b.length ≤ 100000 then some (.ref s.length, s ++ [.lst (a ++ b)]) else none
    | _, _ => none
  | _, _ => none
def rAddA (K : PySem.W.Frag) : R2 := fun x y H Q => (rI0 fun i j => .int (i + j)) x y H Q ∨ (∃ i j, x = .str i ∧ y = .str j ∧ i.length + j.length ≤ sizeLine ∧ Q (.str (i ++ j)) H) ∨ rCatA K x y H Q ∨ rCat x y H Q
theorem op_addA {X : Cx} : OpR X (binaryOp .Add) (rAddA X.K) := op_add.or (op_add_str.or (op_catA.or op_cat))
theorem f_add : OpF K (rAddA K) gAdd := by
  intro m H s x y v u Q S rx ry h
  have nope : ∀ {P : Prop}, wE K m H (none : Rz W) Q → P := fun h => by obtain ⟨_, _, e, _⟩ := h; cases e
  cases rx with
  | int i =>
    cases ry with
    | int j => exact .inl ⟨i, j, rfl, rfl, h.val S _ (.int _)⟩
    | _ => exact nope h
  | str a =>
    cases ry with
    | str b =>
      by_cases q : a.length + b.length ≤ 100000
      · simp only [gAdd, q, if_pos] at h
        exact .inr (.inl ⟨a, b, rfl, rfl, szl q, h.val S _ (.str _)⟩)
      · simp only [gAdd, q, if_neg, not_false_eq_true] at h
        exact nope h
    | _ => exact nope h
  | @tup p vs ws h1 h2 =>
    cases ry with
    | @tup p' vs' ws' h3 h4 =>
      by_cases q : ws.length + ws'.length ≤ 100000
      · simp only [gAdd, q, if_pos] at h
        have r := h2.app h4
        refine .inr (.inr (.inl ⟨p, p', vs, vs', rfl, rfl, h1.sq, h3.sq, szl (by rw [h2.len, h4.len]; exact q), fun e => ?_, fun _ e => ?_, fun _ _ z hz => ?_⟩))
        · subst e
          exact h.val S _ (.tup h3 r)
        · subst e
          rw [List.append_nil] at r
          exact h.val S _ (.tup h1 r)
        · obtain ⟨w, s', e, q⟩ := h
          cases e
          exact new_tup S r hz q
      · simp only [gAdd, q, if_neg, not_false_eq_true] at h
        exact nope h
    | _ => exact nope h
  | @ref n a h1 =>
    cases ry with
    | @ref k b h2 =>
      cases en : s[n]? with
      | none => simp only [gAdd, en] at h; exact nope h
      | some on =>
        cases on with
        | dct _ => simp only [gAdd, en] at h; exact nope h
        | lam _ _ => simp only [gAdd, en] at h; exact nope h
        | tab _ _ => simp only [gAdd, en] at h; exact nope h
        | dead => simp only [gAdd, en] at h; exact nope h
        | lst wa =>
          cases ek : s[k]? with
          | none => simp only [gAdd, en, ek] at h; exact nope h
          | some ok =>
            cases ok with
            | dct _ => simp only [gAdd, en, ek] at h; exact nope h
            | lam _ _ => simp only [gAdd, en, ek] at h; exact nope h
            | tab _ _ => simp only [gAdd, en, ek] at h; exact nope h
            | dead => simp only [gAdd, en, ek] at h; exact nope h
            | lst wb =>
              by_cases q : wa.length + wb.length ≤ 100000
              · simp only [gAdd, en, ek, q, if_pos] at h
                obtain ⟨a', ha, va, ha1, ha2⟩ := S.at en
                obtain ⟨b', hb, vb, hb1, hb2⟩ := S.at ek
                rw [h1] at ha; cases ha
                rw [h2] at hb; cases hb
                refine .inr (.inr (.inr ⟨a, b, va, vb, rfl, rfl, ha1, hb1, szl (by rw [ha2.len, hb2.len]; exact q), fun p hp => ?_⟩))
                obtain ⟨w, s', e, q⟩ := h
                cases e
                exact new_lst S (ha2.app hb2) hp q
              · simp only [gAdd, en, ek, q, if_neg, not_false_eq_true] at h
                exact nope h
    | _ => exact nope h
  | _ => cases ry <;> exact nope h
/-! ### [..] * n -/
def gRep : W → W → Sto → Rz W := fun x y s => match x, y with
  | .ref n, .int k => match s[n]? with
    | some (.lst a) => if a.length * k.toNat ≤ 100000 ∧ -(2 ^ 63) ≤ k ∧ k < 2 ^ 63 then some (.ref s.length, s ++ [.lst (List.replicate k.toNat a).flatten]) else none
    | _ => none
  | _, _ => none
theorem RL.rep {m : List Addr} {H : Hp} {ws : List W} {vs : List V} (h : RL K m H ws vs) : ∀ k : Nat, RL K m H (List.replicate k ws).flatten (List.replicate k vs).flatten
  | 0 => .nil
  | k + 1 => by
    rw [List.replicate_succ, List.replicate_succ, List.flatten_cons, List.flatten_cons]
    exact h.app (RL.rep h k)
theorem f_rep : OpF K rRep gRep := by
  intro m H s x y v u Q S rx ry h
  have nope : ∀ {P : Prop}, wE K m H (none : Rz W) Q → P := fun h => by obtain ⟨_, _, e, _⟩ := h; cases e
  cases rx with
  | @ref n a h1 =>
    cases ry with
    | int k =>
      cases en : s[n]? with
      | none => simp only [gRep, en] at h; exact nope h
      | some on =>
        cases on with
        | dct _ => simp only [gRep, en] at h; exact nope h
        | lam _ _ => simp only [gRep, en] at h; exact nope h
        | tab _ _ => simp only [gRep, en] at h; exact nope h
        | dead => simp only [gRep, en] at h; exact nope h
        | lst wa =>
          by_cases q : wa.length * k.toNat ≤ 100000 ∧ -(2 ^ 63) ≤ k ∧ k < 2 ^ 63
          · simp only [gRep, en, q, and_self, if_true] at h
            obtain ⟨a', ha, va, ha1, ha2⟩ := S.at en
            rw [h1] at ha; cases ha
            refine ⟨a, k, va, rfl, rfl, ha1, q.2.1, q.2.2, szl (by rw [ha2.len]; exact q.1), fun p hp => ?_⟩
            obtain ⟨w, s', e, q⟩ := h
            cases e
            exact new_lst S (ha2.rep k.toNat) hp q
          · simp only [gRep, en, q, if_false] at h
            exact nope h
    | _ => exact nope h
  | _ => cases ry <;> exact nope h
/-! ### subscripts -/
def gIx : W → W → Sto → Rz W := fun x y s => match x, y with
  | .str z, .int i => if z.length ≤ 100000 then match atI z.cps.toList i with
      | some c => some (.str ⟨#[c]⟩, s)
      | none => none
    else none
  | x, .int i => match seqOf x s with
    | some ws => match atI ws i with
      | some w => some (w, s)
      | none => none
    | none => none
  | _, _ => none
theorem f_ix : OpF K (rIx K) gIx := by
  intro m H s x y v u Q S rx ry h
  have nope : ∀ {P : Prop}, wE K m H (none : Rz W) Q → P := fun h => by obtain ⟨_, _, e, _⟩ := h; cases e
  have seq : ∀ {i : Int}, u = .int i → (∀ z, x ≠ .str z) → wE K m H (match seqOf x s with
    | some ws => match atI ws i with
      | some w => some (w, s)
      | none => none
    | none => none) Q → rIx K v u H Q := fun {i} e _ h => by
    subst e
    cases es : seqOf x s with
    | none => simp only [es] at h; exact nope h
    | some ws =>
      simp only [es] at h
      cases ea : atI ws i with
      | none => simp only [ea] at h; exact nope h
      | some w =>
        simp only [ea] at h
        obtain ⟨p, vs, rfl, hs, r⟩ := seq_of S rx es
        obtain ⟨v', hv, rv⟩ := r.at_of ea
        rcases hs with hs | hs
        · exact .inr (.inl ⟨p, vs, i, v', rfl, rfl, hs, hv, h.val S _ rv⟩)
        · exact .inl ⟨p, vs, i, v', rfl, rfl, hs, hv, h.val S _ rv⟩
  cases ry with
  | int i =>
    cases x with
    | str z =>
      cases rx
      by_cases q : z.length ≤ 100000
      · simp only [gIx, q, if_true] at h
        cases ea : atI z.cps.toList i with
        | none => simp only [ea] at h; exact nope h
        | some c =>
          simp only [ea] at h
          exact .inr (.inr ⟨z, i, c, rfl, rfl, szl q, ea, h.val S _ (.str _)⟩)
      · simp only [gIx, q, if_false] at h; exact nope h
    | _ => exact seq rfl (fun z e => by cases e) h
  | _ => cases x <;> exact nope h
/-! ### == -/
mutual
def pyW : W → Option PyData
  | .non => some .none
  | .bl b => some (.bool b)
  | .int i => some (.int i)
  | .str x => some (.str x)
  | .tup ws => (pyWs ws).map .tuple
  | .lro ws => (pyWs ws).map .list
  | .ref _ => none
  | .fn _ => none
def pyWs : List W → Option (List PyData)
  | [] => some []
  | w :: ws => match pyW w, pyWs ws with
    | some d, some ds => some (d :: ds)
    | _, _ => none
end
/-- data, with the lists of the store down to n levels -/
def pyS (s : Sto) : Nat → W → Option PyData
  | 0, _ => none
  | n + 1, .ref k => match s[k]? with
    | some (.lst ws) => (ws.mapM (pyS s n)).map .list
    | _ => none
  | _ + 1, w => pyW w
mutual
theorem dp_of {m : List Addr} {H : Hp} : ∀ {w : W} {v : V} {d : PyData}, R K m H w v → pyW w = some d → Dp K H v d
  | .non, v, d, r, e => by cases r; rw [pyW] at e; cases e; exact .non
  | .bl _, v, d, r, e => by cases r; rw [pyW] at e; cases e; exact .bl _
  | .int _, v, d, r, e => by cases r; rw [pyW] at e; cases e; exact .int _
  | .str _, v, d, r, e => by cases r; rw [pyW] at e; cases e; exact .str _
  | .tup ws, v, d, r, e => by
    cases r with
    | tup h1 h2 =>
      rw [pyW] at e
      cases eds : pyWs ws with
      | none => rw [eds] at e; cases e
      | some ds =>
        rw [eds] at e
        cases e
        exact .tup h1.sq (dps_of h2 eds)
  | .lro ws, v, d, r, e => by
    cases r with
    | lro h1 h2 =>
      rw [pyW] at e
      cases eds : pyWs ws with
      | none => rw [eds] at e; cases e
      | some ds =>
        rw [eds] at e
        cases e
        exact .lst h1.sq (dps_of h2 eds)
  | .ref _, v, d, r, e => by rw [pyW] at e; cases e
  | .fn _, v, d, r, e => by rw [pyW] at e; cases e
theorem dps_of {m : List Addr} {H : Hp} : ∀ {ws : List W} {vs : List V} {ds : List PyData}, RL K m H ws vs → pyWs ws = some ds → DpAll K H vs ds
  | [], vs, ds, r, e => by cases r; rw [pyWs] at e; cases e; exact .nil
  | w :: ws, vs, ds, r, e => by
    cases r with
    | cons h1 h2 =>
      rw [pyWs] at e
      cases e1 : pyW w with
      | none => rw [e1] at e; cases e
      | some d1 =>
        cases e2 : pyWs ws with
        | none => rw [e1, e2] at e; cases e
        | some d2 =>
          rw [e1, e2] at e
          cases e
          exact .cons (dp_of h1 e1) (dps_of h2 e2)
end
theorem dpS_of {m : List Addr} {H : Hp} {s : Sto} (S : SR K m H s) : ∀ {n : Nat} {w : W} {v : V} {d : PyData}, R K m H w v → pyS s n w = some d → Dp K H v d
  | 0, w, v, d, r, e => by rw [pyS] at e; cases e
  | n + 1, .ref k, v, d, r, e => by
    rw [pyS] at e
    cases ek : s[k]? with
    | none => simp only [ek] at e; cases e
    | some o =>
      cases o with
      | dct _ => simp only [ek] at e; cases e
      | lam _ _ => simp only [ek] at e; cases e
      | tab _ _ => simp only [ek] at e; cases e
      | dead => simp only [ek] at e; cases e
      | lst ws =>
        simp only [ek] at e
        cases em : ws.mapM (pyS s n) with
        | none => rw [em] at e; cases e
        | some ds =>
          rw [em] at e
          cases e
          cases r with
          | @ref _ a hk =>
            obtain ⟨a', ha, vs, h1, h2⟩ := S.at ek
            rw [hk] at ha; cases ha
            refine .lst (SqL.of h1) ?_
            clear hk h1 ek
            induction ws generalizing vs ds with
            | nil => cases h2; cases em; exact .nil
            | cons x r ih =>
              cases h2 with
              | cons r1 r2 =>
                rw [List.mapM_cons] at em
                cases ex : pyS s n x with
                | none => rw [ex] at em; cases em
                | some dx =>
                  rw [ex] at em
                  cases er : r.mapM (pyS s n) with
                  | none => rw [er] at em; cases em
                  | some dr =>
                    rw [er] at em
                    cases em
                    exact .cons (dpS_of S r1 ex) (ih _ er _ r2)
  | _ + 1, .non, v, d, r, e => dp_of r (by simpa only [pyS] using e)
  | _ + 1, .bl _, v, d, r, e => dp_of r (by simpa only [pyS] using e)
  | _ + 1, .int _, v, d, r, e => dp_of r (by simpa only [pyS] using e)
  | _ + 1, .str _, v, d, r, e => dp_of r (by simpa only [pyS] using e)
  | _ + 1, .tup _, v, d, r, e => dp_of r (by simpa only [pyS] using e)
  | _ + 1, .lro _, v, d, r, e => dp_of r (by simpa only [pyS] using e)
  | _ + 1, .fn _, v, d, r, e => by simp only [pyS, pyW] at e; cases e
/-- two scalars that are compared without looking further -/
def sEq : W → W → Option Bool
  | .int i, .int j => some (decide (i = j))
  | .str a, .str b => some (decide (a = b))
  | .bl a, .bl b => some (decide (a = b))
  | .non, .non => some true
  | .non, .int _ => some false
  | .int _, .non => some false
  | .non, .str _ => some false
  | .str _, .non => some false
  | .non, .bl _ => some false
  | .bl _, .non => some false
  | .int _, .str _ => some false
  | .str _, .int _ => some false
  | .bl _, .str _ => some false
  | .str _, .bl _ => some false
  | _, _ => none
def datEq (s : Sto) (x y : W) : Option Bool := match pyS s 3 x, pyS s 3 y with
  | some d, some e => if SeqAt.shaped d = true ∧ SeqAt.shaped e = true then some (PyData.eqv d e) else none
  | _, _ => none
def eqW (s : Sto) (x y : W) : Option Bool := match sEq x y with
  | some b => some b
  | none => datEq s x y
def gEq : W → W → Sto → Rz W := fun x y s => match eqW s x y with
  | some b => some (.bl b, s)
  | none => none
def gNe : W → W → Sto → Rz W := fun x y s => match eqW s x y with
  | some b => some (.bl (!b), s)
  | none => none
def rEqA (K : PySem.W.Frag) : R2 := fun x y H Q => rEq x y H Q ∨ rEqD K x y H Q
def rNeA (K : PySem.W.Frag) : R2 := fun x y H Q => rNe x y H Q ∨ rNeD K x y H Q
theorem op_eqA {X : Cx} (hu : X.A.units + 64 < cLine) : OpR X (compareOp .Eq) (rEqA X.K) := op_eq.or (op_eqD hu)
theorem op_neA {X : Cx} (hu : X.A.units + 64 < cLine) : OpR X (compareOp .NotEq) (rNeA X.K) := op_ne.or (op_neD hu)
theorem eq_cases {m : List Addr} {H : Hp} {s : Sto} {x y : W} {v u : V} {b : Bool} (S : SR K m H s) (rx : R K m H x v) (ry : R K m H y u) (e : eqW s x y = some b) :
    (scal v u = true ∧ decide (v = u) = b) ∨ ∃ d d', Dp K H v d ∧ Dp K H u d' ∧ SeqAt.shaped d = true ∧ SeqAt.shaped d' = true ∧ PyData.eqv d d' = b := by
  unfold eqW at e
  cases es : sEq x y with
  | some b' =>
    simp only [es] at e
    cases e
    left
    cases rx <;> cases ry <;> simp only [sEq, Option.some.injEq, reduceCtorEq] at es <;> subst es <;> refine ⟨rfl, ?_⟩ <;> simp
  | none =>
    simp only [es] at e
    right
    unfold datEq at e
    cases e1 : pyS s 3 x with
    | none => simp only [e1] at e; cases e
    | some d =>
      cases e2 : pyS s 3 y with
      | none => simp only [e1, e2] at e; cases e
      | some d' =>
        simp only [e1, e2] at e
        split at e
        · rename_i hh
          cases e
          exact ⟨d, d', dpS_of S rx e1, dpS_of S ry e2, hh.1, hh.2, rfl⟩
        · cases e
theorem f_eq : OpF K (rEqA K) gEq := by
  intro m H s x y v u Q S rx ry h
  cases e : eqW s x y with
  | none => simp only [gEq, e] at h; obtain ⟨_, _, e, _⟩ := h; cases e
  | some b =>
    simp only [gEq, e] at h
    have q := h.val S _ (.bl b)
    rcases eq_cases S rx ry e with ⟨h1, h2⟩ | ⟨d, d', h1, h2, h3, h4, h5⟩
    · exact .inl ⟨h1, by rw [h2]; exact q⟩
    · exact .inr ⟨d, d', h1, h2, h3, h4, by rw [h5]; exact q⟩
theorem f_ne : OpF K (rNeA K) gNe := by
  intro m H s x y v u Q S rx ry h
  cases e : eqW s x y with
  | none => simp only [gNe, e] at h; obtain ⟨_, _, e, _⟩ := h; cases e
  | some b =>
    simp only [gNe, e] at h
    have q := h.val S _ (.bl (!b))
    rcases eq_cases S rx ry e with ⟨h1, h2⟩ | ⟨d, d', h1, h2, h3, h4, h5⟩
    · exact .inl ⟨h1, by rw [h2]; exact q⟩
    · exact .inr ⟨d, d', h1, h2, h3, h4, by rw [h5]; exact q⟩
/-! ### is -/
def isNon : W → Bool
  | .non => true
  | _ => false
def gIs : W → W → Sto → Rz W := fun x y s => match x, y with
  | .bl a, .bl b => some (.bl (decide (a = b)), s)
  | x, .non => some (.bl (isNon x), s)
  | .non, .bl _ => some (.bl false, s)
  | .int _, .bl _ => some (.bl false, s)
  | .str _, .bl _ => some (.bl false, s)
  | .ref _, .bl _ => some (.bl false, s)
  | .tup _, .bl _ => some (.bl false, s)
  | _, _ => none
def gIsNot : W → W → Sto → Rz W := fun x y s => match x, y with
  | .bl a, .bl b => some (.bl (!decide (a = b)), s)
  | x, .non => some (.bl (!isNon x), s)
  | .non, .bl _ => some (.bl true, s)
  | .int _, .bl _ => some (.bl true, s)
  | .str _, .bl _ => some (.bl true, s)
  | .ref _, .bl _ => some (.bl true, s)
  | .tup _, .bl _ => some (.bl true, s)
  | _, _ => none

def noB (x : V) : Prop := x = .non ∨ (∃ i, x = .int i) ∨ (∃ z, x = .str z) ∨ ∃ a, x = .ref a
def rIsA : R2 := fun x y H Q => (y = .non ∧ Q (.bl (decide (x = .non))) H) ∨ rIsB x y H Q ∨ (∃ b, noB x ∧ y = .bl b ∧ Q (.bl false) H)
def rNotA : R2 := fun x y H Q => (y = .non ∧ Q (.bl (!decide (x = .non))) H) ∨ rNotB x y H Q ∨ (∃ b, noB x ∧ y = .bl b ∧ Q (.bl true) H)
theorem op_isA {X : Cx} : OpR X (compareOp .Is) rIsA := op_isN.or (op_isBl.or (by
  intro pins s σ H x y v u Q I rx ry h
  obtain ⟨b, hx, rfl, q⟩ := h
  cases (show u = Value.bool b from ry)
  rcases hx with rfl | ⟨i, rfl⟩ | ⟨z, rfl⟩ | ⟨a, rfl⟩
  · cases (show v = Value.none from rx)
    exact wpAny_is_other rfl (fun z => by cases z) ⟨.bl false, H, I, rfl, q⟩
  · obtain ⟨t, rfl⟩ := (show ∃ t, v = Value.int i t from rx)
    exact wpAny_is_other rfl (fun z => by cases z) ⟨.bl false, H, I, rfl, q⟩
  · obtain ⟨t, rfl⟩ := (show ∃ t, v = Value.str z t from rx)
    exact wpAny_is_other rfl (fun z => by cases z) ⟨.bl false, H, I, rfl, q⟩
  · cases (show v = Value.ref a from rx)
    exact wpAny_is_other rfl (fun z => by cases z) ⟨.bl false, H, I, rfl, q⟩))
theorem op_notA {X : Cx} : OpR X (compareOp .IsNot) rNotA := op_notN.or (op_notBl.or (by
  intro pins s σ H x y v u Q I rx ry h
  obtain ⟨b, hx, rfl, q⟩ := h
  cases (show u = Value.bool b from ry)
  rcases hx with rfl | ⟨i, rfl⟩ | ⟨z, rfl⟩ | ⟨a, rfl⟩
  · cases (show v = Value.none from rx)
    exact wpAny_isNot_other rfl (fun z => by cases z) ⟨.bl true, H, I, rfl, q⟩
  · obtain ⟨t, rfl⟩ := (show ∃ t, v = Value.int i t from rx)
    exact wpAny_isNot_other rfl (fun z => by cases z) ⟨.bl true, H, I, rfl, q⟩
  · obtain ⟨t, rfl⟩ := (show ∃ t, v = Value.str z t from rx)
    exact wpAny_isNot_other rfl (fun z => by cases z) ⟨.bl true, H, I, rfl, q⟩
  · cases (show v = Value.ref a from rx)
    exact wpAny_isNot_other rfl (fun z => by cases z) ⟨.bl true, H, I, rfl, q⟩))
theorem non_of {m : List Addr} {H : Hp} {x : W} {v : V} (r : R K m H x v) : decide (v = .non) = isNon x := by
  cases r <;> simp [isNon]
theorem f_is : OpF K rIsA gIs := by
  intro m H s x y v u Q S rx ry h
  have nope : ∀ {P : Prop}, wE K m H (none : Rz W) Q → P := fun h => by obtain ⟨_, _, e, _⟩ := h; cases e
  cases ry with
  | non =>
    refine .inl ⟨rfl, ?_⟩
    rw [non_of rx]
    cases rx <;> exact h.val S _ (.bl _)
  | bl b =>
    cases rx with
    | bl a => exact .inr (.inl ⟨a, b, rfl, rfl, h.val S _ (.bl _)⟩)
    | non => exact .inr (.inr ⟨b, .inl rfl, rfl, h.val S _ (.bl _)⟩)
    | int i => exact .inr (.inr ⟨b, .inr (.inl ⟨_, rfl⟩), rfl, h.val S _ (.bl _)⟩)
    | str i => exact .inr (.inr ⟨b, .inr (.inr (.inl ⟨_, rfl⟩)), rfl, h.val S _ (.bl _)⟩)
    | ref _ => exact .inr (.inr ⟨b, .inr (.inr (.inr ⟨_, rfl⟩)), rfl, h.val S _ (.bl _)⟩)
    | tup _ _ => exact .inr (.inr ⟨b, .inr (.inr (.inr ⟨_, rfl⟩)), rfl, h.val S _ (.bl _)⟩)
    | _ => exact nope h
  | _ => cases rx <;> exact nope h
theorem f_isNot : OpF K rNotA gIsNot := by
  intro m H s x y v u Q S rx ry h
  have nope : ∀ {P : Prop}, wE K m H (none : Rz W) Q → P := fun h => by obtain ⟨_, _, e, _⟩ := h; cases e
  cases ry with
  | non =>
    refine .inl ⟨rfl, ?_⟩
    rw [non_of rx]
    cases rx <;> exact h.val S _ (.bl _)
  | bl b =>
    cases rx with
    | bl a => exact .inr (.inl ⟨a, b, rfl, rfl, h.val S _ (.bl _)⟩)
    | non => exact .inr (.inr ⟨b, .inl rfl, rfl, h.val S _ (.bl _)⟩)
    | int i => exact .inr (.inr ⟨b, .inr (.inl ⟨_, rfl⟩), rfl, h.val S _ (.bl _)⟩)
    | str i => exact .inr (.inr ⟨b, .inr (.inr (.inl ⟨_, rfl⟩)), rfl, h.val S _ (.bl _)⟩)
    | ref _ => exact .inr (.inr ⟨b, .inr (.inr (.inr ⟨_, rfl⟩)), rfl, h.val S _ (.bl _)⟩)
    | tup _ _ => exact .inr (.inr ⟨b, .inr (.inr (.inr ⟨_, rfl⟩)), rfl, h.val S _ (.bl _)⟩)
    | _ => exact nope h
  | _ => cases rx <;> exact nope h
/-! ### in -/
def flatW : W → Bool
  | .non => true
  | .bl _ => true
  | .int _ => true
  | .str _ => true
  | _ => false
def eqF : W → W → Bool
  | .non, .non => true
  | .bl a, .bl b => a == b
  | .bl a, .int b => (if a then 1 else 0) == b
  | .int a, .bl b => a == (if b then 1 else 0)
  | .int a, .int b => a == b
  | .str a, .str b => a == b
  | _, _ => false
def inW (x : W) (ws : List W) : Bool := ws.any fun y => eqF y x
theorem flat_of {m : List Addr} {H : Hp} {x : W} {v : V} (r : R K m H x v) (h : flatW x = true) : flatV v = true := by
  cases r <;> first | rfl | cases h
theorem eqF_of {m : List Addr} {H : Hp} {x y : W} {v u : V} (rx : R K m H x v) (ry : R K m H y u) (hx : flatW x = true) : eqV v u = eqF x y := by
  cases rx with
  | tup => cases hx
  | lro => cases hx
  | ref => cases hx
  | _ => cases ry <;> rfl
theorem in_of {m : List Addr} {H : Hp} {x : W} {v : V} (rx : R K m H x v) : ∀ {ws : List W} {vs : List V}, RL K m H ws vs → ws.all flatW = true → vs.all flatV = true ∧ inV v vs = inW x ws
  | [], vs, r, _ => by cases r; exact ⟨rfl, rfl⟩
  | w :: ws, vs, r, h => by
    cases r with
    | cons h1 h2 =>
      rw [List.all_cons, Bool.and_eq_true] at h
      obtain ⟨q1, q2⟩ := in_of rx h2 h.2
      refine ⟨by rw [List.all_cons, flat_of h1 h.1, q1]; rfl, ?_⟩
      unfold inV inW at q2 ⊢
      rw [List.any_cons, List.any_cons, q2, eqF_of h1 rx h.1]
def datIn (s : Sto) (x y : W) : Option Bool := match pyS s 3 x, pyS s 3 y with
  | some d, some (.list ds) => if SeqAt.shaped d = true ∧ SeqAt.shaped (.list ds) = true then some (ds.any fun z => PyData.eqv z d) else none
  | _, _ => none
def insW (s : Sto) (x y : W) : Option Bool := match x, y with
  | .str a, .str z => some (!(Builtin.Str.occurrences z a 0 z.length 1).isEmpty)
  | x, y => match seqOf y s with
    | some ws => if flatW x = true ∧ ws.all flatW = true then some (inW x ws) else datIn s x y
    | none => none
def gIn : W → W → Sto → Rz W := fun x y s => match insW s x y with
  | some b => some (.bl b, s)
  | none => none
def gNotIn : W → W → Sto → Rz W := fun x y s => match insW s x y with
  | some b => some (.bl (!b), s)
  | none => none
def rInA (K : PySem.W.Frag) : R2 := fun x y H Q => rIn K false x y H Q ∨ (∃ i j, x = .str i ∧ y = .str j ∧ Q (.bl (!(Builtin.Str.occurrences j i 0 j.length 1).isEmpty)) H) ∨ rInD K x y H Q
def rNotInA (K : PySem.W.Frag) : R2 := fun x y H Q => rIn K true x y H Q ∨ (∃ i j, x = .str i ∧ y = .str j ∧ Q (.bl (!(!(Builtin.Str.occurrences j i 0 j.length 1).isEmpty))) H) ∨ rNotInD K x y H Q
theorem op_inA {X : Cx} (hu : X.A.units + 65 < cLine) : OpR X (compareOp .In) (rInA X.K) := op_in_seq.or (op_in_str.or (op_inD hu))
theorem op_notInA {X : Cx} (hu : X.A.units + 65 < cLine) : OpR X (compareOp .NotIn) (rNotInA X.K) := op_notIn_seq.or (op_notin_str.or (op_notInD hu))
theorem ins_cases {m : List Addr} {H : Hp} {s : Sto} {x y : W} {v u : V} {b : Bool} (S : SR K m H s) (rx : R K m H x v) (ry : R K m H y u) (e : insW s x y = some b) :
    (∃ p xs, u = .ref p ∧ (SqL K H p xs ∨ SqT K H p xs) ∧ flatV v = true ∧ xs.all flatV = true ∧ inV v xs = b) ∨
    (∃ i j, v = .str i ∧ u = .str j ∧ (!(Builtin.Str.occurrences j i 0 j.length 1).isEmpty) = b) ∨
    ∃ d ds, Dp K H v d ∧ Dp K H u (.list ds) ∧ SeqAt.shaped d = true ∧ SeqAt.shaped (.list ds) = true ∧ (ds.any fun z => PyData.eqv z d) = b := by
  have main : (match seqOf y s with
    | some ws => if flatW x = true ∧ ws.all flatW = true then some (inW x ws) else datIn s x y
    | none => none) = some b → (∃ p xs, u = .ref p ∧ (SqL K H p xs ∨ SqT K H p xs) ∧ flatV v = true ∧ xs.all flatV = true ∧ inV v xs = b) ∨
    ∃ d ds, Dp K H v d ∧ Dp K H u (.list ds) ∧ SeqAt.shaped d = true ∧ SeqAt.shaped (.list ds) = true ∧ (ds.any fun z => PyData.eqv z d) = b := fun e => by
    cases es : seqOf y s with
    | none => simp only [es] at e; cases e
    | some ws =>
      simp only [es] at e
      split at e
      · rename_i hf
        cases e
        obtain ⟨p, vs, hu, hs, r⟩ := seq_of S ry es
        obtain ⟨q1, q2⟩ := in_of rx r hf.2
        exact .inl ⟨p, vs, hu, hs.symm, flat_of rx hf.1, q1, q2⟩
      · unfold datIn at e
        cases e1 : pyS s 3 x with
        | none => simp only [e1] at e; cases e
        | some d =>
          cases e2 : pyS s 3 y with
          | none => simp only [e1, e2] at e; cases e
          | some d' =>
            cases d' with
            | list ds =>
              simp only [e1, e2] at e
              split at e
              · rename_i hh
                cases e
                exact .inr ⟨d, ds, dpS_of S rx e1, dpS_of S ry e2, hh.1, hh.2, rfl⟩
              · cases e
            | _ => simp only [e1, e2] at e; cases e
  cases rx with
  | str a =>
    cases ry with
    | str z =>
      simp only [insW] at e
      exact .inr (.inl ⟨a, z, rfl, rfl, Option.some.inj e⟩)
    | _ => simp only [insW] at e; exact (main e).elim Or.inl fun h => Or.inr (Or.inr h)
  | _ => simp only [insW] at e; exact (main e).elim Or.inl fun h => Or.inr (Or.inr h)
theorem f_in : OpF K (rInA K) gIn := by
  intro m H s x y v u Q S rx ry h
  cases e : insW s x y with
  | none => simp only [gIn, e] at h; obtain ⟨_, _, e, _⟩ := h; cases e
  | some b =>
    simp only [gIn, e] at h
    have q := h.val S _ (.bl b)
    rcases ins_cases S rx ry e with ⟨p, xs, hu, h1, h2, h3, h4⟩ | ⟨i, j, h1, h2, h3⟩ | ⟨d, ds, h1, h2, h3, h4, h5⟩
    · exact .inl ⟨p, xs, hu, h1, h2, h3, by rw [h4]; exact q⟩
    · exact .inr (.inl ⟨i, j, h1, h2, by rw [h3]; exact q⟩)
    · exact .inr (.inr ⟨d, ds, h1, h2, h3, h4, by rw [h5]; exact q⟩)
theorem f_notIn : OpF K (rNotInA K) gNotIn := by
  intro m H s x y v u Q S rx ry h
  cases e : insW s x y with
  | none => simp only [gNotIn, e] at h; obtain ⟨_, _, e, _⟩ := h; cases e
  | some b =>
    simp only [gNotIn, e] at h
    have q := h.val S _ (.bl (!b))
    rcases ins_cases S rx ry e with ⟨p, xs, hu, h1, h2, h3, h4⟩ | ⟨i, j, h1, h2, h3⟩ | ⟨d, ds, h1, h2, h3, h4, h5⟩
    · exact .inl ⟨p, xs, hu, h1, h2, h3, by rw [h4]; exact q⟩
    · exact .inr (.inl ⟨i, j, h1, h2, by rw [h3]; exact q⟩)
    · exact .inr (.inr ⟨d, ds, h1, h2, h3, h4, by rw [h5]; exact q⟩)
/-! ### built-ins by name -/
def lenW (x : W) (s : Sto) : Option Nat := match x with
  | .str z => if z.length ≤ sizeLine then some z.length else none
  | .ref n => match s[n]? with
    | some (.lst ws) => some ws.length
    | some (.dct kvs) => some kvs.length
    | _ => none
  | x => (seqOf x s).map List.length
def gLen : List W → Sto → Rz W := fun ws s => match ws with
  | [x] => match lenW x s with
    | some n => some (.int n, s)
    | none => none
  | _ => none
def rLenA (K : PySem.W.Frag) : List V → Hp → VK → Prop := fun xs H Q => (∃ p ys, xs = [.ref p] ∧ (SqL K H p ys ∨ SqT K H p ys) ∧ Q (.int ys.length) H) ∨ (∃ z, xs = [.str z] ∧ z.length ≤ sizeLine ∧ Q (.int z.length) H) ∨ (∃ d kvs, xs = [V.ref d] ∧ H d = some (.dK kvs) ∧ Q (.int kvs.length) H)
theorem RK.len {m : List Addr} {H : Hp} : ∀ {ws : List (Key × W)} {vs : List (Key × V)}, RK K m H ws vs → vs.length = ws.length
  | [], _, h => by cases h; rfl
  | w :: ws, _, h => by
    cases h with
    | cons h1 h2 => rw [List.length_cons, List.length_cons, RK.len h2]
end
end Mir

set_option Elab.async false
set_option linter.all false
set_option maxRecDepth 100000
/-! Rules of my own: xs.extend(a tuple); t[::-1] of a tuple; tuple(a dict). -/
namespace Vr
open PySem PySem.Spec PyProof.Rows L2
theorem ext_meets (l : Addr) (xs : Array Value) (n : Nat) (b : Addr) (ys : Array Value) (m : Nat) (dd : Option Addr) (sl : Array (Option Value)) (h0 : ¬(!xs.isEmpty && Builtin.List.listTooLong (xs.size + ys.size)) = true) (h1 : xs.size ≤ sizeLine) (h2 : xs.size + ys.size ≤ sizeLine + 1) :
    Meets (Builtin.«list.extend» ⟨[.ref l, .ref b], []⟩) (fun _ R s => s.heap.get? l = some { cls := .type "list", dict := none, data := .seq xs n, slots := #[] } ∧ s.heap.get? b = some { cls := .type "tuple", dict := dd, data := .seq ys m, slots := sl } ∧
      R (.ok (.ret Value.none)) { s with heap := s.heap.update l (Obj.mapSeq fun x => x ++ ys), toks := s.toks }) :=
  .of_wp fun prog w A R s h => by
    obtain ⟨hp, g, d, tk, os⟩ := s
    obtain ⟨hl, hb, h⟩ := h
    have f1 := AutoSeq1.idx_int
    have f2 := AutoSeq1.sub_tuple_tuple
    have f3 := AutoSeq1.sub_list_list
    have f4 := AutoSeq1.sub_tuple_list
    have f5 := AutoSeq1.sub_list_tuple
    have hz : (xs ++ ys).size ≤ sizeLine + 1 := by
      rw [Array.size_append]
      exact h2
    wp_walk using (wpAny_updateSeq hl rfl (hz := h1) (_hz' := hz)), AutoSeq1.wpAny_loadPart' hl, AutoSeq1.wpAny_loadPart' hb
    exact ⟨_, rfl, h⟩
section
variable {X : Cx}
def rExtT (K : PySem.W.Frag) : V → List V → Hp → VK → Prop := fun x vs H Q => ∃ l b xs zs, x = .ref l ∧ vs = [.ref b] ∧ H l = some (.lst xs) ∧ SqT K H b zs ∧ xs.length + zs.length ≤ sizeLine ∧ Q .non (upd H l (.lst (xs ++ zs)))
theorem mt_extendT : MtM X "list.extend" (rExtT X.K) := by
  intro pins s σ H x vs v us Q I rx rv h
  obtain ⟨l, b, xs, zs, rfl, rfl, hH, hB, hz, q⟩ := h
  cases rx
  obtain ⟨u, rfl, ru⟩ := rv.one
  cases ru
  obtain ⟨z, its, n, r, hl, e⟩ := I.lstM hH
  obtain ⟨its2, r2, ht2, z2⟩ := I.tuple hB
  have len1 := r.length
  have len2 := r2.length
  obtain ⟨o2, ho2, hc2, n2, hd2⟩ := id ht2
  obtain ⟨c2, dd2, da2, sl2⟩ := o2
  simp only at hc2 hd2
  subst hc2 hd2
  have total : its.toArray.size + its2.toArray.size ≤ sizeLine := by
    rw [List.size_toArray, List.size_toArray]
    omega
  have short : ¬ (!its.toArray.isEmpty && Builtin.List.listTooLong (its.toArray.size + its2.toArray.size)) = true := by
    rw [notLongL total, Bool.and_false]
    exact Bool.false_ne_true
  refine call_meets PySem.F.slot_list_extend ⟨_, e, rfl⟩ PySem.F.entry_list_extend (PySem.F.args_list_extend_2 _ _)
    (ext_meets l its.toArray n b its2.toArray n2 dd2 sl2 short (by rw [List.size_toArray]; omega) (by omega)) ⟨e, ho2, ?_⟩
  refine ⟨.non, _, I.lset (its' := its ++ its2) hH e (by simp) (r.append r2) ?_, rfl, q⟩
  rw [List.length_append]
  omega
end

/-! ### t[::-1] -/
section
variable {prog : Program} {w : World} {A : Around} {E : Value → Shared → Prop} {s : Shared}
theorem applied_back {sl : Addr} {vl vu vs : Value} {n : Nat} {Q : Int × Int × Nat → Shared → Prop} (hs : s.heap.IsSliceOf sl vl vu vs) (pl : IsPart vl none) (pu : IsPart vu none) (ps : IsPart vs (some (-1)))
    (h : Q ((n : Int) - 1, -1, n) s) : wpAny (model prog w) A (Builtin.Slice.sliceApplied (.ref sl) (pure (n : Int))) Q E s := by
  obtain ⟨os, hos, hcs, hds⟩ := id hs
  unfold Builtin.Slice.sliceApplied Builtin.Slice.sliceFields
  refine wpAny_bind (wpAny_bind (wpAny_field hos hds (x := vl) rfl (wpAny_bind (wpAny_field hos hds (x := vu) rfl (wpAny_bind (wpAny_field hos hds (x := vs) rfl (wpAny_pure ?_)))))))
  refine wpAny_bind (HT.slicePart_ ps ?_)
  show wpAny _ _ (if ((-1 : Int) == 0) = true then _ else _) _ _ s
  rw [if_neg (by decide)]
  refine wpAny_bind (HT.slicePart_ pl (wpAny_bind (HT.slicePart_ pu (wpAny_bind (wpAny_pure ?_)))))
  have e : Builtin.Slice.slicePlaces ((n : Int) - 1) (-1) (-1) = n := by
    unfold Builtin.Slice.slicePlaces
    rw [if_neg (by decide)]
    by_cases c : (n : Int) - 1 > -1
    · rw [if_pos c, show -(-1 : Int) = 1 by decide, Int.ediv_one]
      omega
    · rw [if_neg c]
      omega
  show wpAny _ _ (pure ((n : Int) - 1, (-1 : Int), Builtin.Slice.slicePlaces ((n : Int) - 1) (-1) (-1))) _ _ s
  rw [e]
  exact wpAny_pure h
theorem fm_congr {α β : Type} {f g : α → Option β} : ∀ {l : List α}, (∀ x ∈ l, f x = g x) → l.filterMap f = l.filterMap g
  | [], _ => rfl
  | x :: r, h => by
    rw [List.filterMap_cons, List.filterMap_cons, h x List.mem_cons_self, fm_congr fun y hy => h y (List.mem_cons_of_mem _ hy)]
theorem pick_back (xs : Array Value) : ((List.range xs.size).filterMap fun (m : Nat) => xs[((xs.size : Int) - 1 + (m : Int) * -1).toNat]?).toArray = xs.toList.reverse.toArray := by
  have e := PySem.W.krv_pick xs
  unfold slicePick at e
  rw [PySem.W.krv_bounds] at e
  have e2 : ((sliceRange ((xs.size : Int) - 1) (-1) (-1)).filterMap (xs[·]?)).toArray = xs.toList.reverse.toArray := e
  rw [PySem.W.krv_sliceRange, List.filterMap_map] at e2
  rw [← e2]
  refine congrArg List.toArray (fm_congr fun m hm => ?_)
  have := List.mem_range.mp hm
  show xs[((xs.size : Int) - 1 + (m : Int) * -1).toNat]? = xs[xs.size - 1 - m]?
  rw [show ((xs.size : Int) - 1 + (m : Int) * -1).toNat = xs.size - 1 - m by omega]
theorem item_back {t sl : Addr} {items : Array Value} {vl vu vs : Value} {Q : Value → Shared → Prop} (ht : IsTup s.heap t items) (hs : s.heap.IsSliceOf sl vl vu vs) (pl : IsPart vl none) (pu : IsPart vu none) (ps : IsPart vs (some (-1)))
    (h : Q (.ref s.heap.objs.size) { s with heap := s.heap.push { cls := .type "tuple", data := .seq items.toList.reverse.toArray } }) (hsz : items.size ≤ sizeLine) : wpAny (model prog w) A (getItem (.ref t) (.ref sl)) Q E s := by
  have htake : sizeOk (.seq items.toList.reverse.toArray) := by
    show items.toList.reverse.toArray.size ≤ sizeLine
    rw [List.size_toArray, List.length_reverse, Array.length_toList]
    exact hsz
  obtain ⟨os, hos, hcs, hds⟩ := id hs
  have hTs : s.TypeIs (.ref sl) "slice" := ⟨os, hos, hcs⟩
  unfold getItem
  try with_reducible refine wpAny_holding ?_
  first | refine wpAny_bind (wpAny_pure ?_) | skip
  refine wpAny_bind (wpAny_sequenceKey ht.typeIs (by decide) ?_)
  refine wpAny_bind (wpAny_callSpecial?_slot (name := Str.ofString "__getitem__") ht.typeIs PyProof.Rows.slot_tuple_getitem
    (wpAny_call_entry PyProof.Rows.slot_tuple_getitem ht.typeIs entry_tuple_getitem ?_ (args_tuple_getitem _ _)))
  show wpAny _ _ (Builtin.Tuple.tupleItemsOf (.ref t) >>= _) _ _ s
  refine wpAny_bind (tupleItemsOf_ ht ?_)
  refine wpAny_bind (wpAny_typeOf hTs ?_)
  rw [if_pos (by decide)]
  refine wpAny_bind (applied_back hs pl pu ps ?_)
  have hno : ¬ ((((items.size : Int) - 1) == 0 && (-1 : Int) == 1 && items.size == items.size) = true) := by
    intro q
    rw [Bool.and_eq_true, Bool.and_eq_true] at q
    exact absurd q.1.2 (by decide)
  show wpAny _ _ (if (((items.size : Int) - 1) == 0 && (-1 : Int) == 1 && items.size == items.size) = true then _ else _) _ _ s
  rw [if_neg hno, pick_back]
  first
    | exact wpAny_bind (m := Builtin.Tuple.tupleExact _) (wpAny_newObj_type (wpAny_pure ⟨_, rfl, wpAny_pure h⟩) htake)
    | exact wpAny_bind (m := Builtin.Tuple.tupleExact _) (wpAny_newObj_type (wpAny_bind (wpAny_pure (wpAny_pure ⟨_, rfl, wpAny_pure h⟩))) htake)
end
def tRevT (K : PySem.W.Frag) (te : TE) : TE := fun σ H Q => te σ H fun x H1 => ∃ a xs, x = .ref a ∧ SqT K H1 a xs ∧ ∀ p, H1 p = none → Q (.ref p) (upd H1 p (.tup xs.reverse))
section
variable {X : Cx}
theorem pe_revT {e : Expr} {te : TE} {k : Nat} {p1 p2 p3 pos : Pos} (he : PE X e te) : PE X (.Subscript e (.Slice none none (some (.UnaryOp .USub (.Constant (.int 1) k p1) p2)) p3) pos) (tRevT X.K te) := by
  refine ⟨fun pins s σ H Q I h => ?_⟩
  refine Subscript_ (thn (he.run pins s σ H _ I h) fun v s1 ⟨x, H1, I1, r1, q1⟩ => ?_)
  obtain ⟨a, xs, ex, hx, q⟩ := q1
  subst ex
  cases r1
  have hst : PO X (some (.UnaryOp .USub (.Constant (.int 1) k p1) p2)) (tPart (tUn (rU fun i => .int (-i)) (tC (.int 1)))) := po_some (pe_un un_neg pe_int)
  refine wpAny_Slice (thn (po_none.run pins s1 σ H1 (fun o H2 => o = none ∧ H2 = H1) I1 ⟨rfl, rfl⟩) fun vl s2 ⟨l, H2, I2, pl, el, e2⟩ => ?_)
  subst el e2
  refine thn (po_none.run pins s2 σ H2 (fun o H3 => o = none ∧ H3 = H2) I2 ⟨rfl, rfl⟩) fun vu s3 ⟨u, H3, I3, pu, eu, e3⟩ => ?_
  subst eu e3
  refine thn (hst.run pins s3 σ H3 (fun o H4 => o = some (-1) ∧ H4 = H3) I3 ⟨1, rfl, -1, rfl, rfl, rfl⟩) fun vs s4 ⟨o, H4, I4, ps, eo, e4⟩ => ?_
  subst eo e4
  have I5 : Inv X pins σ H4 { s4 with heap := s4.heap.push { cls := .type "slice", data := .fields #[vl, vu, vs] } } := I4.kept (t' := s4.toks) fun b ob q => Heap.get?_push_of_some _ q
  obtain ⟨its, r, ht, hz⟩ := I5.tuple hx
  have hlen := r.length
  show wpAny (model X.prog X.w) X.A (subscriptTail e (.Slice none none (some (.UnaryOp .USub (.Constant (.int 1) k p1) p2)) p3) (.ref a) (.ref s4.heap.objs.size)) (EP X pins σ Q) X.xe { s4 with heap := s4.heap.push { cls := .type "slice", data := .fields #[vl, vu, vs] } }
  refine tail_any (ops := [.ref a, .ref s4.heap.objs.size]) ht.typeIs (PyProof.Rows.slot_tuple_getitem.lookup) ?_ (by with_unfolding_all rfl)
  refine item_back ht (Heap.IsSliceOf.new _ vl vu vs) pl pu ps ?_ (by rw [List.size_toArray]; omega)
  refine ⟨.ref _, _, I5.laid (t' := s4.toks) (o := .tup xs.reverse) (fun b ob q => Heap.get?_push_of_some _ q) (Nat.le_refl _) ?_, rfl, q _ (I5.hok.fresh (Nat.le_refl _))⟩
  exact ⟨by rw [List.length_reverse]; exact hz, its.reverse, r.reverse, IsTup.new _ _⟩
end

/-! ### tuple(d) of a dict: its keys -/
section
variable {prog : Program} {w : World} {A : Around} {E : Value → Shared → Prop} {s : Shared} {T : String} {r d : Addr} {n : Nat} {P : Nat → Value → Prop} {OK : Heap → Prop}
open PySem.W in
theorem collect_src {Q : List Value → Shared → Prop} (K : KdlSrc prog w T r d n P OK) (hh : A.handled = none) (hok : OK s.heap) (hn : n ≤ sizeLine)
    (hQ : ∀ (h' : Heap) (tk : Nat) (acc : Array Value), (∀ b o, s.heap.get? b = some o → h'.get? b = some o) → ItemsOf P acc n → Q acc.toList { s with heap := h', toks := tk }) : wpAny (model prog w) A (collect (.ref r)) Q E s := by
  have hlt := K.there _ hok
  unfold collect
  refine wpAny_bind (wpAny_runValue (codeAny_builtin PySem.F.entry_proto_collect ?_))
  rw [Around.under_plainId PySem.F.plain_proto_collect _]
  show wpAny _ A.in1 (newList [] >>= fun l' => again (.builtin "list.__iadd__" ⟨[l', .ref r], []⟩)) _ _ s
  refine wpAny_bind (wpAny_newObj_type ?_)
  refine wpAny_pure ⟨plainId_quiet PySem.F.plain_list_iadd _, codeAny_builtin PySem.F.entry_list_iadd ?_⟩
  rw [Around.under_plainId PySem.F.plain_list_iadd _]
  have hS₁ : (s.heap.push { cls := .type "list", data := .seq ([] : List Value).toArray }).get? s.heap.objs.size = some { cls := .type "list", data := .seq ([] : List Value).toArray } := Heap.get?_push_size _ rfl
  show wpAny _ A.in1 (Builtin.List.listExtendWith (.ref s.heap.objs.size) (.ref r) (.ref s.heap.objs.size)) _ _ _
  refine wpAny_mono (kdl_extend (A := A) (R := fun rr s' => rr = .ok (.ret (.ref s.heap.objs.size)) ∧ ∃ (h' : Heap) (tk : Nat) (acc : Array Value) (c' : Nat), s' = { s with heap := h', toks := tk } ∧
      (∀ b o, s.heap.get? b = some o → h'.get? b = some o) ∧ h'.get? s.heap.objs.size = some { cls := .type "list", dict := none, data := .seq acc c', slots := #[] } ∧ ItemsOf P acc n)
    (s := { s with heap := s.heap.push { cls := .type "list", data := .seq ([] : List Value).toArray } }) K hh (K.keep _ _ hok fun b _ o e => Heap.get?_push_of_some _ e) s.heap.objs.size (Nat.ne_of_gt hlt.1) (Nat.ne_of_gt hlt.2) (.ref s.heap.objs.size) 0 hS₁
    (fun h' tk acc' c' hk hS' hacc => ⟨rfl, h', tk, acc', c', rfl, fun b o e => hk b o (Nat.ne_of_lt (Heap.lt_size e)) (Heap.get?_push_of_some _ e), hS', hacc⟩) hn) (fun fin s' h => ?_) (fun e s' h => ?_)
  · cases fin with
    | done f =>
      obtain ⟨e, h', tk, acc, c', rfl, hk, hS', hi⟩ := h
      cases e
      show wpAny _ A (load s.heap.objs.size >>= _) _ _ _
      exact wpAny_bind (wpAny_load hS' (wpAny_pure (hQ h' tk acc hk hi)))
    | again c' =>
      refine ⟨h.1, codeAny_mono h.2 fun rr s'' hr' => ?_⟩
      obtain ⟨rfl, h', tk, acc, c', rfl, hk, hS', hi⟩ := hr'
      show wpAny _ A (load s.heap.objs.size >>= _) _ _ _
      exact wpAny_bind (wpAny_load hS' (wpAny_pure (hQ h' tk acc hk hi)))
  · exact absurd h.1 (by simp)
open PySem.W in
theorem code_tuple_src {Q₁ : Value → Shared → Prop} (K : KdlSrc prog w T r d n P OK) (hh : A.handled = none) (hok : OK s.heap) (hn : n ≤ sizeLine)
    (h : ∀ (h' : Heap) (tk : Nat) (acc : Array Value), (∀ b o, s.heap.get? b = some o → h'.get? b = some o) → ItemsOf P acc n → Q₁ (.ref h'.objs.size) { s with heap := h'.push { cls := .type "tuple", data := .seq acc }, toks := tk })
    (ne : (Value.type T == Value.type "tuple") = false) :
    codeAny (model prog w) A (.call (.builtin "tuple.__new__") ⟨[.type "tuple", .ref r], []⟩) (wants Q₁ E) s := by
  refine codeAny_of_tree ?_
  show wpAny _ A.in1 (do checkBuiltinCall "tuple.__new__" ⟨[.type "tuple", .ref r], []⟩; again (.builtin "tuple.__new__" ⟨[.type "tuple", .ref r], []⟩)) _ _ s
  refine wpAny_bind (wpAny_of_eq (PySem.F.newCall_tuple_1 _) (wpAny_pure ⟨plainId_quiet PySem.F.plain_tuple_new _, codeAny_builtin PySem.F.entry_tuple_new ?_⟩))
  rw [Around.under_plainId PySem.F.plain_tuple_new _]
  have hsub := sub_tuple_self
  have hinit := init_tuple_lookup
  have hmh := madeHere_tuple
  have hTI : s.TypeIs (.ref r) T := K.type _ hok
  have hh1 : A.in1.handled = none := hh
  wp_walk using wpAny_typeOf hTI, collect_src (A := A.in1) K hh1 hok hn
  intro h' tk acc hk hacc
  show wpAny _ _ (Builtin.Tuple.tupleExact acc.toList.toArray >>= fun v => ret v) _ _ _
  unfold Builtin.Tuple.tupleExact
  refine wpAny_bind (wpAny_newObj_type ?_ (by show acc.toList.toArray.size ≤ sizeLine; simp only [Array.toArray_toList]; rw [hacc.1]; exact hn))
  refine wpAny_pure ?_
  have e : acc.toList.toArray = acc := by simp
  rw [e]
  exact h h' tk acc hk hacc
open PySem.W in
theorem call_tuple_src {Q : Value → Shared → Prop} (K : KdlSrc prog w T r d n P OK) (hh : A.handled = none) (hok : OK s.heap) (hn : n ≤ sizeLine) (ne : (Value.type T == Value.type "tuple") = false)
    (hQ : ∀ (h' : Heap) (tk : Nat) (acc : Array Value), (∀ b o, s.heap.get? b = some o → h'.get? b = some o) → ItemsOf P acc n → Q (.ref h'.objs.size) { s with heap := h'.push { cls := .type "tuple", data := .seq acc }, toks := tk }) :
    wpAny (model prog w) A (call (.type "tuple") [.ref r]) Q E s := by
  refine callType_codes (Q₁ := fun obj s₁ => s₁.TypeIs obj "tuple" ∧ Q obj s₁) PySem.F.called_tuple (PySem.F.typeCall_tuple_1 _) PySem.F.entry_object_init
    (code_tuple_src (A := A.in1) K hh hok hn (fun h' tk acc hk hacc => ⟨⟨_, Heap.get?_push_size _ rfl, rfl⟩, hQ h' tk acc hk hacc⟩) ne) fun obj s₁ h₁ => ?_
  exact ⟨h₁.1, PySem.F.args_object_init_2 obj _, object_init_meets PySem.F.called_tuple.init.lookup PySem.F.called_tuple.made (by decide) prog w A.in1 _ s₁ ⟨h₁.1, rfl, h₁.2⟩⟩
end
section
variable {X : Cx}
theorem call_tupleD (hcalm : X.calm = true) : CallR X (.type "tuple") (fun xs H Q => ∃ (a : Addr) (kvs : List (Key × V)), xs = [.ref a] ∧ Rd H a (.dK kvs) ∧ ∀ p, H p = none → Q (.ref p) (upd H p (.tup (kvs.map fun kv => kV kv.1)))) := by
  intro pins s σ H xs us Q I r q
  obtain ⟨a, kvs, ex, hd, q⟩ := q
  subst ex
  obtain ⟨u, eu, rx⟩ := vals1 r
  subst eu
  cases rx
  obtain ⟨z, lo, vs, rel, dd⟩ := dk_rd I.hok hd
  obtain ⟨ep, hat⟩ := dd.dictAt
  have ek : (kvs.map fun kv => kV kv.1) = vs.map fun p => kV p.1 := by
    have e := congrArg (List.map kV) rel.keys
    rw [List.map_map, List.map_map] at e
    exact e
  refine call_tuple_src (PySem.W.kdl_dict (knd := mixKind X.prog X.w) (kvs := vs) (ep := ep) lo) (I.ok.hd hcalm) hat (by rw [← rel.length]; exact z) (by decide) fun h' tk acc hk hacc => ?_
  have hv : Vals (vs.map fun p => kV p.1) acc.toList := keys_at (by rw [Array.length_toList]; exact hacc.1) fun j v e => hacc.2 j v (by rw [← Array.getElem?_toList]; exact e)
  have I2 : Inv X pins σ H { s with heap := h', toks := tk } := I.kept (t' := tk) hk
  refine ⟨.ref h'.objs.size, upd H h'.objs.size (.tup (kvs.map fun kv => kV kv.1)), I2.laid (t' := tk) (fun c o e => Heap.get?_push_of_some _ e) (Nat.le_refl _) (show ObjOk X.prog X.w _ _ _ (.tup (kvs.map fun kv => kV kv.1)) from ⟨by rw [List.length_map]; exact z, acc.toList, by rw [ek]; exact hv, ?_⟩), rfl, q _ (I2.hok.fresh (Nat.le_refl _))⟩
  rw [Array.toArray_toList]
  exact IsTup.new _ _
end
end Vr

set_option Elab.async false
set_option linter.all false
set_option maxRecDepth 100000
namespace Mir
open PySem PySem.Spec PyProof.Rows L2
section
variable {K : PySem.W.Frag}
theorem nopeE {m : List Addr} {H : Hp} {Q : VK} {P : Prop} (h : wE K m H (none : Rz W) Q) : P := by obtain ⟨_, _, e, _⟩ := h; cases e
theorem nopeE' {m : List Addr} {H : Hp} {Q : VK} {P : Prop} {x : Rz W} (h : wE K m H x Q) (e : x = none) : P := by rw [e] at h; exact nopeE h
/-! ### len -/
theorem call_lenA {X : Cx} : CallR X (.builtin "len") (rLenA X.K) := call_len_seq.or (call_len_str.or call_lenD)
theorem f_len : CallF K (rLenA K) gLen := by
  intro m H s ws vs Q S r h
  cases r with
  | nil => exact nopeE h
  | @cons x v ws vs r1 r2 =>
    cases r2 with
    | cons _ _ => exact nopeE h
    | nil =>
      have seq : ∀ {xs}, seqOf x s = some xs → Q (.int xs.length) H → rLenA K [v] H Q := fun {xs} e q => by
        obtain ⟨p, vs, rfl, hs, r⟩ := seq_of S r1 e
        rw [← r.len] at q
        exact .inl ⟨p, vs, rfl, hs.symm, q⟩
      cases r1 with
      | str z =>
        by_cases q : z.length ≤ sizeLine
        · simp only [gLen, lenW, q, if_true] at h
          exact .inr (.inl ⟨z, rfl, q, h.val S _ (.int _)⟩)
        · simp only [gLen, lenW, q, if_false] at h; exact nopeE h
      | tup h1 h2 => exact seq rfl (h.val S _ (.int _))
      | lro h1 h2 => exact seq rfl (h.val S _ (.int _))
      | @ref n a h1 =>
        cases en : s[n]? with
        | none => simp only [gLen, lenW, en] at h; exact nopeE h
        | some o =>
          cases o with
          | lst xs =>
            simp only [gLen, lenW, en] at h
            exact seq (by simp only [seqOf, en]) (h.val S _ (.int _))
          | dct kvs =>
            simp only [gLen, lenW, en] at h
            obtain ⟨a', h2, vs, h3, h4⟩ := S.at en
            rw [h1] at h2; cases h2
            have q := h.val S _ (.int _)
            rw [← h4.len] at q
            exact .inr (.inr ⟨a, vs, rfl, h3, q⟩)
          | _ => simp only [gLen, lenW, en] at h; exact nopeE h
      | _ => exact nopeE h
/-! ### abs, max, min, int, str -/
def g1I (f : Int → W) : List W → Sto → Rz W := fun ws s => match ws with
  | [.int i] => some (f i, s)
  | _ => none
def g2I (f : Int → Int → W) : List W → Sto → Rz W := fun ws s => match ws with
  | [.int i, .int j] => some (f i j, s)
  | _ => none
theorem f_1I {g : Int → V} {f : Int → W} (hf : ∀ m H i, R K m H (f i) (g i)) : CallF K (fun xs H Q => ∃ i, xs = [.int i] ∧ Q (g i) H) (g1I f) := by
  intro m H s ws vs Q S r h
  cases r with
  | nil => exact nopeE h
  | cons r1 r2 =>
    cases r2 with
    | cons _ _ => cases r1 <;> exact nopeE h
    | nil =>
      cases r1 with
      | int i => exact ⟨i, rfl, h.val S _ (hf m H i)⟩
      | _ => exact nopeE h
theorem f_2I {g : Int → Int → V} {f : Int → Int → W} (hf : ∀ m H i j, R K m H (f i j) (g i j)) : CallF K (fun xs H Q => ∃ i j, xs = [.int i, .int j] ∧ Q (g i j) H) (g2I f) := by
  intro m H s ws vs Q S r h
  cases r with
  | nil => exact nopeE h
  | cons r1 r2 =>
    cases r2 with
    | nil => cases r1 <;> exact nopeE h
    | cons r3 r4 =>
      cases r4 with
      | cons _ _ => cases r1 <;> first | exact nopeE h | (cases r3 <;> exact nopeE h)
      | nil =>
        cases r1 with
        | int i =>
          cases r3 with
          | int j => exact ⟨i, j, rfl, h.val S _ (hf m H i j)⟩
          | _ => exact nopeE h
        | _ => exact nopeE h
abbrev gAbs := g1I fun i => .int (if i < 0 then -i else i)
abbrev gMax2 := g2I fun i j => .int (if j > i then j else i)
abbrev gMin2 := g2I fun i j => .int (if j < i then j else i)
theorem f_abs : CallF K (fun xs H Q => ∃ i, xs = [.int i] ∧ Q (.int (if i < 0 then -i else i)) H) gAbs := f_1I fun _ _ _ => .int _
theorem f_max2 : CallF K (fun xs H Q => ∃ i j, xs = [.int i, .int j] ∧ Q (.int (if j > i then j else i)) H) gMax2 := f_2I fun _ _ _ _ => .int _
theorem f_min2 : CallF K (fun xs H Q => ∃ i j, xs = [.int i, .int j] ∧ Q (.int (if j < i then j else i)) H) gMin2 := f_2I fun _ _ _ _ => .int _
def gInt1 : List W → Sto → Rz W := fun ws s => match ws with
  | [.int i] => some (.int i, s)
  | [.bl k] => some (.int (if k then 1 else 0), s)
  | _ => none
theorem f_int1 : CallF K (fun xs H Q => (∃ i, xs = [.int i] ∧ Q (.int i) H) ∨ ∃ k, xs = [.bl k] ∧ Q (.int (if k then 1 else 0)) H) gInt1 := by
  intro m H s ws vs Q S r h
  cases r with
  | nil => exact nopeE h
  | cons r1 r2 =>
    cases r2 with
    | cons _ _ => cases r1 <;> exact nopeE h
    | nil =>
      cases r1 with
      | int i => exact .inl ⟨i, rfl, h.val S _ (.int _)⟩
      | bl i => exact .inr ⟨i, rfl, h.val S _ (.int _)⟩
      | _ => exact nopeE h
def gStr1 : List W → Sto → Rz W := fun ws s => match ws with
  | [.int i] => if i.natAbs.log2 < 1920 then some (.str (toString i), s) else none
  | _ => none
theorem f_str1 : CallF K (fun xs H Q => ∃ i, xs = [.int i] ∧ i.natAbs.log2 < 1920 ∧ Q (.str (toString i)) H) gStr1 := by
  intro m H s ws vs Q S r h
  cases r with
  | nil => exact nopeE h
  | cons r1 r2 =>
    cases r2 with
    | cons _ _ => cases r1 <;> exact nopeE h
    | nil =>
      cases r1 with
      | int i =>
        by_cases q : i.natAbs.log2 < 1920
        · simp only [gStr1, q, if_true] at h
          exact ⟨i, rfl, q, h.val S _ (.str _)⟩
        · simp only [gStr1, q, if_false] at h; exact nopeE h
      | _ => exact nopeE h
/-! ### tuple(..), list(..) -/
def gTuple : List W → Sto → Rz W := fun ws s => match ws with
  | [.tup xs] => some (.tup xs, s)
  | [x] => match seqOf x s with
    | some xs => some (.tup xs, s)
    | none => none
  | _ => none
def gList : List W → Sto → Rz W := fun ws s => match ws with
  | [x] => match seqOf x s with
    | some xs => some (.ref s.length, s ++ [.lst xs])
    | none => none
  | _ => none
theorem f_tuple : CallF K (fun xs H Q => ∃ p ys, xs = [.ref p] ∧ ((SqL K H p ys ∧ ∀ l, H l = none → Q (.ref l) (upd H l (.tup ys))) ∨ (SqT K H p ys ∧ Q (.ref p) H))) gTuple := by
  intro m H s ws vs Q S r h
  cases r with
  | nil => exact nopeE h
  | @cons x v ws vs r1 r2 =>
    cases r2 with
    | cons _ _ => cases r1 <;> exact nopeE h
    | nil =>
      have lst : ∀ {p xs ys}, v = .ref p → SqL K H p ys → RL K m H xs ys → wE K m H (some (.tup xs, s)) Q → ∃ p ys, [v] = [.ref p] ∧ ((SqL K H p ys ∧ ∀ l, H l = none → Q (.ref l) (upd H l (.tup ys))) ∨ (SqT K H p ys ∧ Q (.ref p) H)) := fun {p xs ys} e hs r ⟨w, s', e2, q⟩ => by
        subst e
        cases e2
        exact ⟨p, ys, rfl, .inl ⟨hs, fun l hl => new_tup S r hl q⟩⟩
      cases r1 with
      | tup h1 h2 => exact ⟨_, _, rfl, .inr ⟨h1.sq, h.val S _ (.tup h1 h2)⟩⟩
      | lro h1 h2 => exact lst rfl h1.sq h2 h
      | @ref n a h1 =>
        cases en : s[n]? with
        | none => exact nopeE' h (by simp only [gTuple, seqOf, en])
        | some o =>
          cases o with
          | dct _ => exact nopeE' h (by simp only [gTuple, seqOf, en])
          | lam _ _ => exact nopeE' h (by simp only [gTuple, seqOf, en])
          | tab _ _ => exact nopeE' h (by simp only [gTuple, seqOf, en])
          | dead => exact nopeE' h (by simp only [gTuple, seqOf, en])
          | lst xs =>
            obtain ⟨a', h2, vs, h3, h4⟩ := S.at en
            rw [h1] at h2; cases h2
            refine lst rfl (SqL.of h3) h4 ?_
            have e : gTuple [.ref n] s = some (.tup xs, s) := by simp only [gTuple, seqOf, en]
            rw [e] at h
            exact h
      | _ => exact nopeE h
theorem f_list : CallF K (fun xs H Q => ∃ p ys, xs = [.ref p] ∧ (SqL K H p ys ∨ SqT K H p ys) ∧ ∀ l, H l = none → Q (.ref l) (upd H l (.lst ys))) gList := by
  intro m H s ws vs Q S r h
  cases r with
  | nil => exact nopeE h
  | @cons x v ws vs r1 r2 =>
    cases r2 with
    | cons _ _ => exact nopeE h
    | nil =>
      cases es : seqOf x s with
      | none => exact nopeE' h (by simp only [gList, es])
      | some xs =>
        simp only [gList, es] at h
        obtain ⟨p, ys, rfl, hs, r⟩ := seq_of S r1 es
        obtain ⟨w, s', e2, q⟩ := h
        cases e2
        exact ⟨p, ys, rfl, hs.symm, fun l hl => new_lst S r hl q⟩
/-! ### lists of scalars: sum, max, min, all, any -/
def intsOf : List W → Option (List Int)
  | [] => some []
  | .int i :: r => match intsOf r with
    | some is => some (i :: is)
    | none => none
  | _ => none
def blsOf : List W → Option (List Bool)
  | [] => some []
  | .bl i :: r => match blsOf r with
    | some is => some (i :: is)
    | none => none
  | _ => none
def strsOf : List W → Option (List Str)
  | [] => some []
  | .str i :: r => match strsOf r with
    | some is => some (i :: is)
    | none => none
  | _ => none
theorem ints_of {m : List Addr} {H : Hp} : ∀ {ws : List W} {vs : List V} {is : List Int}, RL K m H ws vs → intsOf ws = some is → vs = is.map V.int
  | [], vs, is, r, e => by cases r; cases e; rfl
  | w :: ws, vs, is, r, e => by
    cases r with
    | cons h1 h2 =>
      cases h1 with
      | int i =>
        simp only [intsOf] at e
        cases e2 : intsOf ws with
        | none => rw [e2] at e; cases e
        | some js => rw [e2] at e; cases e; rw [ints_of h2 e2]; rfl
      | _ => cases e
theorem bls_of {m : List Addr} {H : Hp} : ∀ {ws : List W} {vs : List V} {is : List Bool}, RL K m H ws vs → blsOf ws = some is → vs = is.map V.bl
  | [], vs, is, r, e => by cases r; cases e; rfl
  | w :: ws, vs, is, r, e => by
    cases r with
    | cons h1 h2 =>
      cases h1 with
      | bl i =>
        simp only [blsOf] at e
        cases e2 : blsOf ws with
        | none => rw [e2] at e; cases e
        | some js => rw [e2] at e; cases e; rw [bls_of h2 e2]; rfl
      | _ => cases e
theorem strs_of {m : List Addr} {H : Hp} : ∀ {ws : List W} {vs : List V} {is : List Str}, RL K m H ws vs → strsOf ws = some is → vs = is.map V.str
  | [], vs, is, r, e => by cases r; cases e; rfl
  | w :: ws, vs, is, r, e => by
    cases r with
    | cons h1 h2 =>
      cases h1 with
      | str i =>
        simp only [strsOf] at e
        cases e2 : strsOf ws with
        | none => rw [e2] at e; cases e
        | some js => rw [e2] at e; cases e; rw [strs_of h2 e2]; rfl
      | _ => cases e
/-- the items of a list (no tuple) -/
def lstOf (x : W) (s : Sto) : Option (List W) := match x with
  | .lro ws => some ws
  | .ref n => match s[n]? with
    | some (.lst ws) => some ws
    | _ => none
  | _ => none
theorem lst_of {m : List Addr} {H : Hp} {s : Sto} {x : W} {v : V} {ws : List W} (S : SR K m H s) (r : R K m H x v) (h : lstOf x s = some ws) : ∃ p vs, v = .ref p ∧ SqL K H p vs ∧ RL K m H ws vs := by
  cases r with
  | lro h1 h2 => cases h; exact ⟨_, _, rfl, h1.sq, h2⟩
  | @ref n a h1 =>
    cases e : s[n]? with
    | none => simp only [lstOf, e] at h; cases h
    | some o =>
      cases o with
      | dct _ => simp only [lstOf, e] at h; cases h
      | lam _ _ => simp only [lstOf, e] at h; cases h
      | tab _ _ => simp only [lstOf, e] at h; cases h
      | dead => simp only [lstOf, e] at h; cases h
      | lst ws' =>
        simp only [lstOf, e] at h
        cases h
        obtain ⟨a', h2, vs, h3, h4⟩ := S.at e
        rw [h1] at h2
        cases h2
        exact ⟨_, _, rfl, SqL.of h3, h4⟩
  | _ => cases h
def gLB (f : List Bool → Bool) : List W → Sto → Rz W := fun ws s => match ws with
  | [x] => match lstOf x s with
    | some xs => match blsOf xs with
      | some bs => some (.bl (f bs), s)
      | none => none
    | none => none
  | _ => none
theorem f_LB {f : List Bool → Bool} : CallF K (fun vs H Q => ∃ (a : Addr) (bs : List Bool), vs = [V.ref a] ∧ SqL K H a (bs.map V.bl) ∧ Q (.bl (f bs)) H) (gLB f) := by
  intro m H s ws vs Q S r h
  cases r with
  | nil => exact nopeE h
  | @cons x v ws vs r1 r2 =>
    cases r2 with
    | cons _ _ => exact nopeE h
    | nil =>
      cases es : lstOf x s with
      | none => exact nopeE' h (by simp only [gLB, es])
      | some xs =>
        cases eb : blsOf xs with
        | none => exact nopeE' h (by simp only [gLB, es, eb])
        | some bs =>
          simp only [gLB, es, eb] at h
          obtain ⟨p, ys, rfl, hs, r⟩ := lst_of S r1 es
          rw [bls_of r eb] at hs
          exact ⟨p, bs, rfl, hs, h.val S _ (.bl _)⟩
abbrev gAll := gLB fun bs => bs.all id
abbrev gAny := gLB fun bs => bs.any id
theorem f_all : CallF K (rAll K) gAll := f_LB
theorem f_any : CallF K (rAny K) gAny := f_LB
def gSum : List W → Sto → Rz W := fun ws s => match ws with
  | [x] => match lstOf x s with
    | some xs => match intsOf xs with
      | some is => some (.int is.sum, s)
      | none => none
    | none => none
  | _ => none
theorem f_sum : CallF K (rSum K) gSum := by
  intro m H s ws vs Q S r h
  cases r with
  | nil => exact nopeE h
  | @cons x v ws vs r1 r2 =>
    cases r2 with
    | cons _ _ => exact nopeE h
    | nil =>
      cases es : lstOf x s with
      | none => exact nopeE' h (by simp only [gSum, es])
      | some xs =>
        cases eb : intsOf xs with
        | none => exact nopeE' h (by simp only [gSum, es, eb])
        | some bs =>
          simp only [gSum, es, eb] at h
          obtain ⟨p, ys, rfl, hs, r⟩ := lst_of S r1 es
          rw [ints_of r eb] at hs
          exact ⟨p, bs, rfl, hs, h.val S _ (.int _)⟩
def maxI : List Int → Int
  | [] => 0
  | x :: r => r.foldl (fun a b => if b > a then b else a) x
theorem foldl_max : ∀ (r : List Int) (x : Int), x ≤ r.foldl (fun a b => if b > a then b else a) x ∧ (r.foldl (fun a b => if b > a then b else a) x = x ∨ r.foldl (fun a b => if b > a then b else a) x ∈ r) ∧ ∀ y ∈ r, y ≤ r.foldl (fun a b => if b > a then b else a) x
  | [], x => ⟨Int.le_refl _, .inl rfl, fun _ h => by cases h⟩
  | z :: r, x => by
    obtain ⟨h1, h2, h3⟩ := foldl_max r (if z > x then z else x)
    rw [List.foldl_cons]
    have e : x ≤ (if z > x then z else x) ∧ z ≤ (if z > x then z else x) ∧ ((if z > x then z else x) = x ∨ (if z > x then z else x) = z) := by
      split <;> omega
    refine ⟨Int.le_trans e.1 h1, ?_, fun y hy => ?_⟩
    · rcases h2 with h2 | h2
      · rcases e.2.2 with q | q
        · left; rw [h2, q]
        · right; rw [h2, q]; exact List.mem_cons_self
      · exact .inr (List.mem_cons_of_mem _ h2)
    · rcases List.mem_cons.mp hy with rfl | hy
      · exact Int.le_trans e.2.1 h1
      · exact h3 y hy
theorem max_is {ns : List Int} (h : 0 < ns.length) : maxI ns ∈ ns ∧ ∀ y ∈ ns, y ≤ maxI ns := by
  cases ns with
  | nil => cases h
  | cons x r =>
    obtain ⟨h1, h2, h3⟩ := foldl_max r x
    refine ⟨?_, fun y hy => ?_⟩
    · show r.foldl _ x ∈ _
      rcases h2 with h2 | h2
      · rw [h2]; exact List.mem_cons_self
      · exact List.mem_cons_of_mem _ h2
    · rcases List.mem_cons.mp hy with rfl | hy
      · exact h1
      · exact h3 y hy
def gMaxL : List W → Sto → Rz W := fun ws s => match ws with
  | [x] => match lstOf x s with
    | some xs => match intsOf xs with
      | some is => if 0 < is.length then some (.int (maxI is), s) else none
      | none => none
    | none => none
  | _ => none
theorem f_maxL : CallF K (rMax K) gMaxL := by
  intro m H s ws vs Q S r h
  cases r with
  | nil => exact nopeE h
  | @cons x v ws vs r1 r2 =>
    cases r2 with
    | cons _ _ => exact nopeE h
    | nil =>
      cases es : lstOf x s with
      | none => exact nopeE' h (by simp only [gMaxL, es])
      | some xs =>
        cases eb : intsOf xs with
        | none => exact nopeE' h (by simp only [gMaxL, es, eb])
        | some bs =>
          by_cases hl : 0 < bs.length
          · simp only [gMaxL, es, eb, hl, if_true] at h
            obtain ⟨p, ys, rfl, hs, r⟩ := lst_of S r1 es
            rw [ints_of r eb] at hs
            refine ⟨p, bs, rfl, hs, hl, fun k h1 h2 => ?_⟩
            obtain ⟨q1, q2⟩ := max_is hl
            have e : k = maxI bs := Int.le_antisymm (q2 k h1) (h2 _ q1)
            rw [e]
            exact h.val S _ (.int _)
          · exact nopeE' h (by simp only [gMaxL, es, eb, hl, if_false])
/-! ### methods of lists -/
/-- the receiver is a list of the store -/
def isL (x : W) (s : Sto) : Bool := match x with
  | .ref n => match s[n]? with
    | some (.lst _) => true
    | _ => false
  | _ => false
theorem isL_ty {m : List Addr} {H : Hp} {s : Sto} {x : W} {v : V} (S : SR K m H s) (r : R K m H x v) (h : isL x s = true) : tyV K "list" v H := by
  cases r with
  | @ref n a h1 =>
    cases e : s[n]? with
    | none => simp only [isL, e] at h; cases h
    | some o =>
      cases o with
      | dct _ => simp only [isL, e] at h; cases h
      | lam _ _ => simp only [isL, e] at h; cases h
      | tab _ _ => simp only [isL, e] at h; cases h
      | dead => simp only [isL, e] at h; cases h
      | lst ws =>
        obtain ⟨a', h2, vs, h3, h4⟩ := S.at e
        rw [h1] at h2; cases h2
        exact .inl ⟨rfl, vs, SqL.of h3⟩
  | _ => cases h
/-- what a method does to its list -/
def gLm (f : List W → List W → Sto → Option (W × List W)) : W → List W → Sto → Rz W := fun x as s => match x with
  | .ref n => match s[n]? with
    | some (.lst ws) => match f ws as s with
      | some (w, ws') => some (w, s.set n (.lst ws'))
      | none => none
    | _ => none
  | _ => none
theorem f_Lm {r : V → List V → Hp → VK → Prop} {f : List W → List W → Sto → Option (W × List W)}
    (h : ∀ m H s l (ws : List W) (vs : List V) as bs w ws' Q, SR K m H s → H l = some (.lst vs) → RL K m H ws vs → RL K m H as bs → f ws as s = some (w, ws') → (∀ z zs, (∀ m' H', Ext m H m' H' → R K m' H' w z) → (∀ m' H', Ext m H m' H' → RL K m' H' ws' zs) → Q z (upd H l (.lst zs))) → r (.ref l) bs H Q) : MtF K r (gLm f) := by
  intro m H s x v ws vs Q S rx rs hw
  cases rx with
  | @ref n a h1 =>
    cases e : s[n]? with
    | none => exact nopeE' hw (by simp only [gLm, e])
    | some o =>
      cases o with
      | dct _ => exact nopeE' hw (by simp only [gLm, e])
      | lam _ _ => exact nopeE' hw (by simp only [gLm, e])
      | tab _ _ => exact nopeE' hw (by simp only [gLm, e])
      | dead => exact nopeE' hw (by simp only [gLm, e])
      | lst xs =>
        obtain ⟨a', h2, ys, h3, h4⟩ := S.at e
        rw [h1] at h2; cases h2
        cases ef : f xs ws s with
        | none => exact nopeE' hw (by simp only [gLm, e, ef])
        | some p =>
          obtain ⟨w, ws'⟩ := p
          simp only [gLm, e, ef] at hw
          obtain ⟨w2, s2, e2, q⟩ := hw
          cases e2
          refine h m H s a xs ys ws vs w ws' Q S h3 h4 rs ef fun z zs hz hzs => ?_
          have A := Adv.write S h1 (o := .lst zs) ⟨_, h3, .inl ⟨_, rfl⟩⟩
          exact q m _ z A (S.write h1 ⟨_, h3, .inl ⟨_, rfl⟩⟩ ⟨zs, upd_same, hzs m _ A.ext⟩) (hz m _ A.ext)
  | _ => exact nopeE hw
def fAppend : List W → List W → Sto → Option (W × List W) := fun ws as _ => match as with
  | [x] => if ws.length ≤ 100000 then some (.non, ws ++ [x]) else none
  | _ => none
abbrev gAppend := gLm fAppend
theorem f_append : MtF K rAppend gAppend := f_Lm fun m H s l ws vs as bs w ws' Q S hl r ra e q => by
  cases ra with
  | nil => cases e
  | cons a1 a2 =>
    cases a2 with
    | cons _ _ => cases e
    | nil =>
      by_cases hz : ws.length ≤ 100000
      · simp only [fAppend, hz, if_true] at e
        cases e
        exact ⟨l, vs, _, rfl, rfl, hl, szt (by rw [r.len]; exact hz), q .non _ (fun _ _ _ => .non) fun _ _ E => (r.ext E).app (RL.one (a1.ext E))⟩
      · simp only [fAppend, hz, if_false] at e
        cases e
def fPop : List W → List W → Sto → Option (W × List W) := fun ws as _ => match as with
  | [] => match ws[ws.length - 1]? with
    | some x => some (x, ws.dropLast)
    | none => none
  | _ => none
abbrev gPop := gLm fPop
theorem f_pop : MtF K rPop gPop := f_Lm fun m H s l ws vs as bs w ws' Q S hl r ra e q => by
  cases ra with
  | cons a1 a2 => cases e
  | nil =>
    cases ex : ws[ws.length - 1]? with
    | none => simp only [fPop, ex] at e; cases e
    | some x =>
      simp only [fPop, ex] at e
      cases e
      obtain ⟨v, hv, rv⟩ := r.at ex
      exact ⟨l, vs, v, rfl, rfl, hl, by rw [r.len]; exact hv, q v _ (fun _ _ E => rv.ext E) fun _ _ E => (r.ext E).dropLast⟩
def fPopAt : List W → List W → Sto → Option (W × List W) := fun ws as _ => match as with
  | [.int i] => if -(2 ^ 63) ≤ i ∧ i < 2 ^ 63 then match seqIndex? i ws.length with
    | some k => match ws[k]? with
      | some x => some (x, ws.eraseIdx k)
      | none => none
    | none => none
    else none
  | _ => none
abbrev gPopAt := gLm fPopAt
theorem f_popAt : MtF K rPopAt gPopAt := f_Lm fun m H s l ws vs as bs w ws' Q S hl r ra e q => by
  cases ra with
  | nil => cases e
  | cons a1 a2 =>
    cases a2 with
    | cons _ _ => cases a1 <;> cases e
    | nil =>
      cases a1 with
      | int i =>
        by_cases hz : -(2 ^ 63) ≤ i ∧ i < 2 ^ 63
        · simp only [fPopAt, hz, and_self, if_true] at e
          cases ek : seqIndex? i ws.length with
          | none => simp only [ek] at e; cases e
          | some k =>
            simp only [ek] at e
            cases ex : ws[k]? with
            | none => simp only [ex] at e; cases e
            | some x =>
              simp only [ex] at e
              cases e
              obtain ⟨v, hv, rv⟩ := r.at ex
              exact ⟨l, vs, i, k, v, rfl, rfl, hl, hz.1, hz.2, by rw [r.len]; exact ek, hv, q v _ (fun _ _ E => rv.ext E) fun _ _ E => (r.ext E).erase k⟩
        · simp only [fPopAt, hz, if_false] at e
          cases e
      | _ => cases e
/-- extend by a list of the store or a tuple -/
def fExtend : List W → List W → Sto → Option (W × List W) := fun ws as s => match as with
  | [.tup xs] => if ws.length + xs.length ≤ 100000 then some (.non, ws ++ xs) else none
  | [.ref k] => match s[k]? with
    | some (.lst xs) => if ws.length + xs.length ≤ 100000 then some (.non, ws ++ xs) else none
    | _ => none
  | _ => none
abbrev gExtend := gLm fExtend
def rExtA (K : PySem.W.Frag) : V → List V → Hp → VK → Prop := fun x vs H Q => rExtend x vs H Q ∨ Vr.rExtT K x vs H Q
theorem f_extend : MtF K (rExtA K) gExtend := f_Lm fun m H s l ws vs as bs w ws' Q S hl r ra e q => by
  cases ra with
  | nil => cases e
  | cons a1 a2 =>
    cases a2 with
    | cons _ _ => cases a1 <;> cases e
    | nil =>
      cases a1 with
      | @tup p ys xs h1 h2 =>
        by_cases hz : ws.length + xs.length ≤ 100000
        · simp only [fExtend, hz, if_true] at e
          cases e
          exact .inr ⟨l, p, vs, ys, rfl, rfl, hl, h1.sq, szl (by rw [r.len, h2.len]; exact hz), q .non _ (fun _ _ _ => .non) fun _ _ E => (r.ext E).app (h2.ext E)⟩
        · simp only [fExtend, hz, if_false] at e
          cases e
      | @ref k b h1 =>
        cases ek : s[k]? with
        | none => simp only [fExtend, ek] at e; cases e
        | some o =>
          cases o with
          | dct _ => simp only [fExtend, ek] at e; cases e
          | lam _ _ => simp only [fExtend, ek] at e; cases e
          | tab _ _ => simp only [fExtend, ek] at e; cases e
          | dead => simp only [fExtend, ek] at e; cases e
          | lst xs =>
            simp only [fExtend, ek] at e
            by_cases hz : ws.length + xs.length ≤ 100000
            · simp only [hz, if_true] at e
              cases e
              obtain ⟨b', h2, ys, h3, h4⟩ := S.at ek
              rw [h1] at h2; cases h2
              exact .inl ⟨l, b, vs, ys, rfl, rfl, hl, h3, szl (by rw [r.len, h4.len]; exact hz), q .non _ (fun _ _ _ => .non) fun _ _ E => (r.ext E).app (h4.ext E)⟩
            · simp only [hz, if_false] at e
              cases e
      | _ => cases e
end
section
variable {X : Cx} {e o : Expr} {es : List Expr}
theorem m_bm {T id : String} {name : Str} {apos cpos : Pos} {r : V → List V → Hp → VK → Prop} {c : W → Sto → Bool} {g : W → List W → Sto → Rz W} {f : FE} {fa : FA} (pa : PlainAttrs T) (slot : Slot T name id) (hty : typeOf (.builtin id) = pure (.type "method_descriptor")) (hm : MtR X id r)
    (hc : ∀ m H s x v, SR X.K m H s → R X.K m H x v → c x s = true → tyV X.K T v H) (hg : MtF X.K r g) (ho : PE X o (tF X.K f)) (ha : PA X (e :: es) (tA X.K fa))
    (hbase : attributeBase o name X.env (eval o X.env) = eval o X.env := by rfl)
    (hfew : ((backTo cpos (starEach (e :: es) X.env)).all (fun x => !x.1) && (backToKw cpos (keywordEach [] X.env)).all (fun x => x.1.isSome)
      && decide ((e :: es).length + ([] : List Keyword).length + (if ([] : List Keyword).isEmpty then 0 else 1) < 30)) = true := by rfl)
    (hline : (apos.endLine == cpos.line) = true := by rfl) (hs : starEach (e :: es) X.env = (false, eval e X.env) :: starEach es X.env := by rfl) (hplain : (backTo cpos (starEach es X.env)).any (·.1) = false := by rfl) :
    PE X (.Call (.Attribute o name apos) (e :: es) [] cpos) (tF X.K (eMt c g f fa)) :=
  (pe_bm pa slot hty hm ho ha hbase hfew hline hs hplain).imp fun σ H Q ⟨m, ρ, s, er, sr, w, s', e, q⟩ => by
    obtain ⟨x, s1, e1, e⟩ := bd_inv e
    split at e
    · rename_i hcx
      obtain ⟨xs, s2, e2, e⟩ := bd_inv e
      exact ⟨m, ρ, s, er, sr, x, s1, e1, fun m1 H1 v A1 S1 r1 => ⟨hc m1 H1 s1 x v S1 r1 hcx, m1, ρ, s1, er.adv A1, S1, xs, s2, e2, fun m2 H2 vs A2 S2 r2 => hg m2 H2 s2 x v xs vs Q S2 (r1.adv A2) r2 ⟨w, s', e, fun m3 H3 z A3 => q m3 H3 z ((A1.trans A2).trans A3)⟩⟩⟩
    · cases e
theorem m_bm0 {T id : String} {name : Str} {apos cpos : Pos} {r : V → List V → Hp → VK → Prop} {c : W → Sto → Bool} {g : W → List W → Sto → Rz W} {f : FE} (pa : PlainAttrs T) (slot : Slot T name id) (hty : typeOf (.builtin id) = pure (.type "method_descriptor")) (hm : MtR X id r)
    (hc : ∀ m H s x v, SR X.K m H s → R X.K m H x v → c x s = true → tyV X.K T v H) (hg : MtF X.K r g) (ho : PE X o (tF X.K f))
    (hbase : attributeBase o name X.env (eval o X.env) = eval o X.env := by rfl) (hline : (apos.endLine == cpos.line) = true := by rfl) : PE X (.Call (.Attribute o name apos) [] [] cpos) (tF X.K (eMt c g f aNil)) :=
  (pe_bm0 pa slot hty hm ho hbase hline).imp fun σ H Q ⟨m, ρ, s, er, sr, w, s', e, q⟩ => by
    obtain ⟨x, s1, e1, e⟩ := bd_inv e
    split at e
    · rename_i hcx
      exact ⟨m, ρ, s, er, sr, x, s1, e1, fun m1 H1 v A1 S1 r1 => ⟨hc m1 H1 s1 x v S1 r1 hcx, hg m1 H1 s1 x v [] [] Q S1 r1 .nil ⟨w, s', e, fun m3 H3 z A3 => q m3 H3 z (A1.trans A3)⟩⟩⟩
    · cases e
theorem m_append {f : FE} {fa : FA} {apos cpos : Pos} (ho : PE X o (tF X.K f)) (ha : PA X [e] (tA X.K fa)) (hbase : attributeBase o "append" X.env (eval o X.env) = eval o X.env := by rfl)
    (hfew : ((backTo cpos (starEach [e] X.env)).all (fun x => !x.1) && (backToKw cpos (keywordEach [] X.env)).all (fun x => x.1.isSome)
      && decide ([e].length + ([] : List Keyword).length + (if ([] : List Keyword).isEmpty then 0 else 1) < 30)) = true := by rfl)
    (hline : (apos.endLine == cpos.line) = true := by rfl) (hs : starEach [e] X.env = (false, eval e X.env) :: starEach [] X.env := by rfl) (hplain : (backTo cpos (starEach [] X.env)).any (·.1) = false := by rfl) :
    PE X (.Call (.Attribute o "append" apos) [e] [] cpos) (tF X.K (eMt isL gAppend f fa)) :=
  m_bm PySem.F.plainAttrs_list PySem.F.slot_list_append PySem.F.type_list_append mt_append (fun _ _ _ _ _ S r h => isL_ty S r h) f_append ho ha hbase hfew hline hs hplain
theorem m_extend {f : FE} {fa : FA} {apos cpos : Pos} (ho : PE X o (tF X.K f)) (ha : PA X [e] (tA X.K fa)) (hbase : attributeBase o "extend" X.env (eval o X.env) = eval o X.env := by rfl)
    (hfew : ((backTo cpos (starEach [e] X.env)).all (fun x => !x.1) && (backToKw cpos (keywordEach [] X.env)).all (fun x => x.1.isSome)
      && decide ([e].length + ([] : List Keyword).length + (if ([] : List Keyword).isEmpty then 0 else 1) < 30)) = true := by rfl)
    (hline : (apos.endLine == cpos.line) = true := by rfl) (hs : starEach [e] X.env = (false, eval e X.env) :: starEach [] X.env := by rfl) (hplain : (backTo cpos (starEach [] X.env)).any (·.1) = false := by rfl) :
    PE X (.Call (.Attribute o "extend" apos) [e] [] cpos) (tF X.K (eMt isL gExtend f fa)) :=
  m_bm PySem.F.plainAttrs_list PySem.F.slot_list_extend PySem.F.type_list_extend (MtR.or (show MtR X "list.extend" rExtend from mt_extend) Vr.mt_extendT) (fun _ _ _ _ _ S r h => isL_ty S r h) f_extend ho ha hbase hfew hline hs hplain
theorem m_pop {f : FE} {apos cpos : Pos} (ho : PE X o (tF X.K f)) (hbase : attributeBase o "pop" X.env (eval o X.env) = eval o X.env := by rfl) (hline : (apos.endLine == cpos.line) = true := by rfl) :
    PE X (.Call (.Attribute o "pop" apos) [] [] cpos) (tF X.K (eMt isL gPop f aNil)) :=
  m_bm0 PySem.F.plainAttrs_list PySem.F.slot_list_pop PySem.F.type_list_pop mt_pop (fun _ _ _ _ _ S r h => isL_ty S r h) f_pop ho hbase hline
theorem m_popAt {f : FE} {fa : FA} {apos cpos : Pos} (ho : PE X o (tF X.K f)) (ha : PA X [e] (tA X.K fa)) (hbase : attributeBase o "pop" X.env (eval o X.env) = eval o X.env := by rfl)
    (hfew : ((backTo cpos (starEach [e] X.env)).all (fun x => !x.1) && (backToKw cpos (keywordEach [] X.env)).all (fun x => x.1.isSome)
      && decide ([e].length + ([] : List Keyword).length + (if ([] : List Keyword).isEmpty then 0 else 1) < 30)) = true := by rfl)
    (hline : (apos.endLine == cpos.line) = true := by rfl) (hs : starEach [e] X.env = (false, eval e X.env) :: starEach [] X.env := by rfl) (hplain : (backTo cpos (starEach [] X.env)).any (·.1) = false := by rfl) :
    PE X (.Call (.Attribute o "pop" apos) [e] [] cpos) (tF X.K (eMt isL gPopAt f fa)) :=
  m_bm PySem.F.plainAttrs_list PySem.F.slot_list_pop PySem.F.type_list_pop mt_popAt (fun _ _ _ _ _ S r h => isL_ty S r h) f_popAt ho ha hbase hfew hline hs hplain
end
end Mir

set_option Elab.async false
set_option linter.all false
set_option maxRecDepth 100000
/-! enumerate(a tuple): as a loop's source. -/
namespace PySem
open Sem (wp)
open AutoSeq1 (wpAny_loadPart')
theorem meets_enumerate_newTq (l : Addr) (items : Array Value) (n : Nat) (dct : Option Addr) (sl : Array (Option Value)) :
    Meets (Builtin.«enumerate.__new__» ⟨[.type "enumerate", .ref l], []⟩) (fun _ R s => s.heap.get? l = some { cls := .type "tuple", dict := dct, data := .seq items n, slots := sl } ∧
      R (.ok (.ret (.ref (s.heap.push { cls := .type "tuple_iterator", data := .fields #[.ref l, .int 0 0] }).objs.size)))
        { s with heap := (s.heap.push { cls := .type "tuple_iterator", data := .fields #[.ref l, .int 0 0] }).push { cls := .type "enumerate", data := .fields #[.none, .bool false, .ref s.heap.objs.size, rawInt 0, .none, .none] } }) :=
  .of_wp fun prog w A R s h => by
    obtain ⟨hp, g, d, tk, os⟩ := s; obtain ⟨hl, h⟩ := h
    have hsub := sub_enumerate
    have hL : Heap.IsTuple (Shared.heap ⟨hp, g, d, tk, os⟩) l items := ⟨_, hl, rfl, n, rfl⟩
    wp_walk using wpAny_loadPart' hl
    refine wpAny_stack_any fun st => wpAny_pure ?_
    split
    · rename_i c _ _ _ _ _
      cases (c == Value.type "enumerate")
      · wp_walk using wpAny_loadPart' hl, wpAny_pyIter_tuple hL
        exact ⟨_, rfl, h⟩
      · wp_walk using wpAny_loadPart' hl, wpAny_pyIter_tuple hL
        exact ⟨_, rfl, h⟩
    · wp_walk using wpAny_loadPart' hl, wpAny_pyIter_tuple hL
      exact ⟨_, rfl, h⟩
theorem call_enumerate_tupleq {prog : Program} {w : World} {A : Around} {E : Value → Shared → Prop} {s : Shared} {l : Addr} {items : Array Value} {Q : Value → Shared → Prop} (hL : s.heap.IsTuple l items)
    (h : ∀ h', IsEnum h' (s.heap.objs.size + 1) s.heap.objs.size 0 .none → h'.IsTupleIter s.heap.objs.size l 0 → h'.objs.size = s.heap.objs.size + 2 →
      (∀ b o, s.heap.get? b = some o → h'.get? b = some o) → Q (.ref (s.heap.objs.size + 1)) { s with heap := h' }) :
    wpAny (model prog w) A (call (.type "enumerate") [.ref l]) Q E s := by
  obtain ⟨⟨c, dct, dt, sl⟩, hl, hc, n, hd⟩ := hL
  replace hc : c = .type "tuple" := hc
  replace hd : dt = .seq items n := hd
  subst hc hd
  refine callType_new F.called_enumerate (by decide) (F.typeCall_enumerate_1 _) (F.newCall_enumerate_1 _) (fun obj => F.args_object_init_2 obj _) F.entry_enumerate_new
    (meets_enumerate_newTq l items n dct sl) ⟨hl, ?_⟩
  have hz : (s.heap.push { cls := .type "tuple_iterator", data := .fields #[.ref l, .int 0 0] }).objs.size = s.heap.objs.size + 1 := Heap.size_push ..
  show _ ∧ _
  rw [hz]
  have he : IsEnum ((s.heap.push { cls := .type "tuple_iterator", data := .fields #[.ref l, .int 0 0] }).push
      { cls := .type "enumerate", data := .fields #[.none, .bool false, .ref s.heap.objs.size, rawInt 0, .none, .none] }) (s.heap.objs.size + 1) s.heap.objs.size 0 .none := by
    have := Heap.get?_push_size (s.heap.push { cls := .type "tuple_iterator", data := .fields #[.ref l, .int 0 0] })
      (o := { cls := .type "enumerate", data := .fields #[.none, .bool false, .ref s.heap.objs.size, rawInt 0, .none, .none] }) rfl
    rw [hz] at this; exact this
  refine ⟨⟨_, he, rfl⟩, h _ he ⟨_, Heap.get?_push_of_some _ (Heap.get?_push_size _ rfl), rfl, rfl⟩ (by rw [Heap.size_push, hz]) fun b o x => Heap.get?_push_of_some _ (Heap.get?_push_of_some _ x)⟩
theorem wpAny_pyNext_enum_endTq {prog : Program} {w : World} {A : Around} {E : Value → Shared → Prop} {s : Shared} {e it l : Addr} {i : Nat} {items : Array Value} {old : Value} {Q : Option Value → Shared → Prop} (hh : A.handled = none)
    (he : IsEnum s.heap e it i old) (hit : s.heap.IsTupleIter it l i) (hl : s.heap.IsTuple l items) (hx : items[i]? = none)
    (hQ : ∀ h', Heap.ExtBut it s.heap h' → Q none { s with heap := h' }) : wpAny (model prog w) A (pyNext (.ref e)) Q E s := by
  have hT : s.TypeIs (.ref e) "enumerate" := ⟨_, he, rfl⟩
  unfold pyNext
  refine wpAny_bind (wpAny_attempt (wpAny_callSpecial?_slot (name := Str.ofString "__next__") hT F.slot_enumerate_next
    (wpAny_call_entry F.slot_enumerate_next hT F.entry_enumerate_next ?_ (F.args_enumerate_next_1 _))))
  show wpAny _ _ (field (.ref e) 2 >>= _) _ _ _
  refine wpAny_bind (wpAny_field he rfl (x := .ref it) rfl ?_)
  refine wpAny_bind (wpAny_nextOf_tuple_end (A := A.in1) hh hit hl hx fun h' x he' hx' => ?_)
  obtain ⟨o, ho, hc⟩ := hx'
  refine wpAny_bind (wpAny_isInstance (T := "StopIteration") (b := true) ⟨o, ho, hc⟩ isSubtype_stop ?_)
  exact wpAny_pure (hQ _ he')
end PySem
namespace Vr
open PySem PySem.Spec PyProof.Rows L2
/-- the tuple at a as it stands at each turn, each item in a new pair -/
def IteT (K : PySem.W.Frag) (a : Addr) : It :=
  ⟨fun i H => ∃ (xs : List V) (x : V), SqT K H a xs ∧ xs[i]? = some x, fun i H v H' => ∃ T x, v = .ref T ∧ H T = none ∧ H' = upd H T (.tup [.int (i : Nat), x]) ∧ ∀ xs, SqT K H a xs → xs[i]? = some x, fun i H => ∃ xs : List V, SqT K H a xs ∧ xs.length ≤ i⟩
theorem turn_enumT {P : Program} {w : World} {K : PySem.W.Frag} {elts : List Expr} {kk : Nat} {tpos : Pos} (a e it : Addr) :
    Turn P w K (.Tuple elts kk tpos) (IteT K a) [e, it] e (fun i h => (∃ old, IsEnum h e it ((i : Nat) : Int) old) ∧ h.IsTupleIter it a i ∧ e ≠ it) where
  mem := by simp
  obj := fun i h st b hb => by
    obtain ⟨⟨old, he⟩, ⟨o, ho, hc, hd⟩, _⟩ := st
    have e' : b = e ∨ b = it := by simpa using hb
    rcases e' with z | z
    · rw [z]; exact ⟨_, he, fun v q => nomatch q⟩
    · rw [z]; exact ⟨o, ho, fun v q => by rw [hd] at q; cases q⟩
  keep := fun i h h' st k => let ⟨⟨old, he⟩, hi, hne⟩ := st; ⟨⟨old, k e (by simp) _ he⟩, hi.at fun o q => k it (by simp) o q, hne⟩
  item := by
    intro X hP hw hK hc i pins s σ H E I hf st hg
    subst hP hw hK
    obtain ⟨⟨old, he⟩, hit, hne⟩ := st
    obtain ⟨xs, x, hq, hx⟩ := hg
    obtain ⟨its, rv, p, hz⟩ := I.tuple hq
    obtain ⟨u, hu, ru⟩ := rv.get hx
    have hel : e < s.heap.objs.size := Heap.lt_size he
    have hil : it < s.heap.objs.size := by obtain ⟨_, q, _⟩ := hit; exact Heap.lt_size q
    have pT : s.heap.IsTuple a its.toArray := p
    have hai : a ≠ it := by
      rintro rfl
      obtain ⟨o, ho, hc, _⟩ := hit
      obtain ⟨o', ho', hc', _⟩ := pT
      rw [ho] at ho'
      cases ho'
      rw [hc] at hc'
      exact absurd hc' (by decide)
    have hea : e ≠ a := by
      rintro rfl
      obtain ⟨o', ho', hc', _⟩ := pT
      have he2 : s.heap.get? e = some _ := he
      rw [he2] at ho'
      cases ho'
      have hc2 : Value.type "enumerate" = Value.type "tuple" := hc'
      exact absurd hc2 (by decide)
    have hlt : i < its.toArray.size := by
      have := (List.getElem?_eq_some_iff.mp hu).1
      simpa using this
    refine wpAny_pyNext_enum_itemD (Draws.tuple (A := X.A.in1) (show X.A.in1.handled = none from I.ok.hd hc) it a hai its.toArray) he ⟨hit, pT⟩ hlt hne (by simp [hne, hea]) fun x' h' tk hx' ho hit' hT hsz hk => ?_
    have ux : x' = u := by
      have h1 : its[i]? = some x' := by simpa using hx'
      rw [hu] at h1
      exact (Option.some.inj h1).symm
    subst ux
    refine ⟨_, rfl, wpAny_letOwnedTupleGo_enum (s := { s with heap := h', toks := tk + 1 }) ho fun h'' he' sb => ?_⟩
    have hT2 : h''.get? s.heap.objs.size = some { cls := .type "tuple", data := .seq #[.int i tk, x'] } := (sb.2 _ (Nat.ne_of_gt hel)).trans hT
    have new : ObjOk X.prog X.w (upd H s.heap.objs.size (.tup [.int (i : Nat), x])) h'' s.heap.objs.size (.tup [.int (i : Nat), x]) :=
      ⟨by show 2 ≤ sizeLine; decide, [.int i tk, x'], .cons ⟨_, rfl⟩ (.cons ru .nil), ⟨_, hT2, rfl, _, rfl⟩⟩
    have I1 : Inv X pins σ (upd H s.heap.objs.size (.tup [.int (i : Nat), x])) { s with heap := h'', toks := tk + 1 } :=
      I.turnedNew (ch := [e, it]) (fun b ob hb q => (sb.2 b (fun z => hb (by simp [z]))).trans (hk b ob (fun z => hb (by simp [z])) (fun z => hb (by simp [z])) q)) hf (Nat.le_refl _) new
    refine ⟨.ref s.heap.objs.size, _, I1, rfl, ⟨_, x, rfl, I.hok.fresh (Nat.le_refl _), rfl, fun ys hy => by rw [I.tuple_inj hy hq]; exact hx⟩, ⟨⟨x', ?_⟩, hit'.1.at fun o q => (sb.2 it (Ne.symm hne)).trans q, hne⟩, fun b hb => ?_⟩
    · have e1 : ((i + 1 : Nat) : Int) = (i : Int) + 1 := by omega
      rw [e1]; exact he'
    · have hb' : b < s.heap.objs.size := by
        have e' : b = e ∨ b = it := by simpa using hb
        rcases e' with z | z
        · rw [z]; exact hel
        · rw [z]; exact hil
      rw [upd_ne (Nat.ne_of_lt hb')]
      exact (hf b hb).1
  done := by
    intro X hP hw hK hc i pins s σ H E I hf st hg
    subst hP hw hK
    obtain ⟨⟨old, he⟩, hit, hne⟩ := st
    obtain ⟨xs, hq, hx⟩ := hg
    obtain ⟨its, rv, p, hz⟩ := I.tuple hq
    obtain ⟨f0, f1, f2, f3, f4, f5⟩ := hf it (by simp)
    have hl := rv.length
    exact wpAny_pyNext_enum_endTq (I.ok.hd hc) he hit (show s.heap.IsTuple a its.toArray from p) (by simp; omega) fun h' eb => ⟨rfl, I.turned (t' := s.toks) (fun b o hb q => eb b o hb q) f0 f1 f3 f4 f5⟩
  self := fun A i s Q E st h => let ⟨⟨_, he⟩, _⟩ := st; wpAny_pyIter_enum he h
def iEnumT (K : PySem.W.Frag) (ta : TA) : TI := fun σ H R => ta σ H fun vs H1 => ∃ a xs, vs = [.ref a] ∧ SqT K H1 a xs ∧ R (IteT K a) H1
theorem pi_enumT {X : Cx} {e : Expr} {ta : TA} {p pos tpos : Pos} {elts : List Expr} {kk : Nat} (hg : Gl X "enumerate") (hm : X.mg "enumerate" = none) (ha : PA X [e] ta) (hs : starEach [e] X.env = [(false, eval e X.env)] := by rfl) :
    PI X (.Tuple elts kk tpos) (.Call (.Name "enumerate" p) [e] [] pos) (iEnumT X.K ta) := by
  refine ⟨fun pins s σ H R I h => ?_⟩
  refine Call_ (ld_blt I hg hm boot_enumerate (PyProof.Rows.callWith_type1 (thn (ha.run pos pins s σ H _ I h) fun us s1 ⟨vs, H1, I1, r1, q1⟩ => ?_) hs rfl))
  obtain ⟨a, xs, ex, hq, q⟩ := q1
  subst ex
  cases r1 with
  | cons r rr =>
    cases rr
    cases r
    obtain ⟨its, rv, p', hz⟩ := I1.tuple hq
    refine call_enumerate_tupleq (show s1.heap.IsTuple a its.toArray from p') fun h' he hit hsz hk => wpAny_pyIter_enum he ?_
    have I2 : Inv X pins σ H1 { s1 with heap := h' } := I1.kept (t' := s1.toks) hk
    refine ⟨s1.heap.objs.size + 1, [s1.heap.objs.size + 1, s1.heap.objs.size], _, _, H1, rfl, I2, turn_enumT a (s1.heap.objs.size + 1) s1.heap.objs.size, ⟨⟨.none, he⟩, hit, Nat.succ_ne_self _⟩, fun b hb => ?_, q⟩
    have e' : b = s1.heap.objs.size + 1 ∨ b = s1.heap.objs.size := by simpa using hb
    have hle : s1.heap.objs.size ≤ b := by
      rcases e' with z | z
      · rw [z]; exact Nat.le_add_right _ _
      · rw [z]; exact Nat.le_refl _
    exact I1.fpOk hle (I1.hok.fresh hle)
/-- {k: v for a, b in enumerate(t)}, t a tuple -/
theorem dc_enumT {K : PySem.W.Frag} {a : Addr} {xs : List V} {g : TG} {tt : TT} {tk tv : TE} {vs : List Nat} {σ : L2.St} {H1 : Hp} {D : Addr} {Qd : Hp → Prop} (Pv : Nat → Hp → Prop) (h0 : Pv 0 (upd H1 D (.dK []))) (hl : ∀ i H, i ≤ xs.length → Pv i H → SqT K H a xs)
    (hs : ∀ i x T H, xs[i]? = some x → H T = none → Pv i H → g (.ref T) (wipe σ vs) (upd H T (.tup [.int (i : Nat), x])) fun σ2 H2 => wipe σ2 vs = wipe σ vs ∧ tt σ2 H2 fun b H3 =>
      if b = true then tk σ2 H3 fun y H4 => tv σ2 H4 fun z H5 => ∃ kvs k, y = kV k ∧ H5 D = some (.dK kvs) ∧ kvs.length < sizeLine ∧ Pv (i + 1) (upd H5 D (.dK (putK kvs k z))) else Pv (i + 1) H3) (hd : ∀ H, Pv xs.length H → Qd H) :
    ∃ W : Nat → Nat → Hp → Prop, (∃ m, W 0 m (upd H1 D (.dK []))) ∧ ∀ i m H, W i m H →
      ((IteT K a).stop i H ∧ Qd H) ∨ ((IteT K a).go i H ∧ ∃ Nx : Hp → Prop, (∀ H', Nx H' → ∃ m', m' < m ∧ W (i + 1) m' H') ∧ ∀ x H', (IteT K a).yld i H x H' → g x (wipe σ vs) H' fun σ2 H2 => wipe σ2 vs = wipe σ vs ∧ tt σ2 H2 fun b H3 =>
        if b = true then tk σ2 H3 fun y H4 => tv σ2 H4 fun z H5 => ∃ kvs k, y = kV k ∧ H5 D = some (.dK kvs) ∧ kvs.length < sizeLine ∧ Nx (upd H5 D (.dK (putK kvs k z))) else Nx H3) := by
  refine ⟨fun i m H => m = xs.length - i ∧ i ≤ xs.length ∧ Pv i H, ⟨xs.length, by simp, Nat.zero_le _, h0⟩, ?_⟩
  rintro i m H ⟨rfl, hi, p⟩
  have q := hl i H hi p
  by_cases hlt : i < xs.length
  · refine .inr ⟨⟨xs, xs[i], q, by simp [hlt]⟩, Pv (i + 1), fun H' p' => ⟨xs.length - (i + 1), by omega, rfl, hlt, p'⟩, fun x H' y => ?_⟩
    obtain ⟨T, z, rfl, nT, rfl, y⟩ := y
    exact hs i z T H (y xs q) nT p
  · have e : i = xs.length := by omega
    subst e
    exact .inl ⟨⟨xs, q, Nat.le_refl _⟩, hd H p⟩
/-- for k, x in enumerate(t), t a tuple -/
theorem for_enumT {K : PySem.W.Frag} {a : Addr} {xs : List V} {g : TG} {tb : TS} {D : Ends} {σ : L2.St} {H : Hp} (Pv : Nat → L2.St → Hp → Prop) (h0 : Pv 0 σ H) (hl : ∀ i σ H, i ≤ xs.length → Pv i σ H → SqT K H a xs)
    (hs : ∀ i x T σ H, xs[i]? = some x → Pv i σ H → H T = none → g (.ref T) σ (upd H T (.tup [.int (i : Nat), x])) fun σ2 H2 => tb { D with nx := Pv (i + 1), ct := Pv (i + 1), bk := D.nx } σ2 H2) (hd : ∀ σ H, Pv xs.length σ H → D.nx σ H) :
    ∃ W : Nat → Nat → L2.St → Hp → Prop, (∃ m, W 0 m σ H) ∧ ∀ i m σ H, W i m σ H →
      ((IteT K a).stop i H ∧ D.nx σ H) ∨ ((IteT K a).go i H ∧ ∃ N : L2.St → Hp → Prop, (∀ σ' H', N σ' H' → ∃ m', m' < m ∧ W (i + 1) m' σ' H') ∧ ∀ x H', (IteT K a).yld i H x H' → g x σ H' fun σ2 H2 => tb { D with nx := N, ct := N, bk := D.nx } σ2 H2) := by
  refine ⟨fun i m σ H => m = xs.length - i ∧ i ≤ xs.length ∧ Pv i σ H, ⟨xs.length, by simp, Nat.zero_le _, h0⟩, ?_⟩
  rintro i m σ H ⟨rfl, hi, p⟩
  have q := hl i σ H hi p
  by_cases hlt : i < xs.length
  · refine .inr ⟨⟨xs, xs[i], q, by simp [hlt]⟩, Pv (i + 1), fun σ' H' p' => ⟨xs.length - (i + 1), by omega, rfl, hlt, p'⟩, fun x H' y => ?_⟩
    obtain ⟨T, z, rfl, nT, rfl, y⟩ := y
    exact hs i z T σ H (y xs q) p nT
  · have e : i = xs.length := by omega
    subst e
    exact .inl ⟨⟨xs, q, Nat.le_refl _⟩, hd σ H p⟩
end Vr

set_option Elab.async false
set_option linter.all false
set_option maxRecDepth 100000
/-! y = {k: v for ..} on one line; a dict comprehension over enumerate(a list). -/
namespace Vr
open PySem PySem.Spec PyProof.Rows L2
section
variable {X : Cx}
theorem sw_trueD {k v : Expr} {gs : List Comprehension} {scope : Scope} {pos py : Pos} {y : Str} {l : Nat} {env : Env} (hk : env.scope.kind = .function) (hy : env.scope.names.lookup y = some .local) (hl : (py.line == pos.line) = true)
    (ha : (scope.names.any fun (n, k) => n == y && (k == .local || k == .cell)) = false) : swapsWith (.DictComp k v gs scope pos) (some (.Name y py)) l env = pure true := by
  have ky : env.kindOf y = some .local := hy
  have hb : env.blockKind = .function := by
    unfold Env.blockKind
    rw [hk]
    rfl
  unfold swapsWith
  simp only [hb, ky, ha, Expr.pos, hl]
  rfl
theorem ps_setDc {i : Nat} {y : Str} {py : Pos} {kx vx tg iter : Expr} {ifs : List Expr} {scope : Scope} {own : List (Str × Nat)} {pos spos : Pos} {wi : TI} {g : TG} {tt : TT} {tk tv : TE} (hc : X.calm = true) (hN : X.N.Nodup) (hy : X.N[i]? = some y) (hyl : X.env.scope.names.lookup y = some .local)
    (hsw : swapsWith (.DictComp kx vx [⟨tg, iter, ifs, 0⟩] scope pos) (some (.Name y py)) spos.line X.env = pure true) (hi : PI X tg iter wi) (ok : BlkOk X.N X.env.scope scope own)
    (hg : ∀ (s : Shared) (H : Hp) (C : Addr) (cl : List (Str × Addr)) (fp : List Addr), PG (X.blk s H scope (compEnvC scope cl C X.env) fp) tg g) (ht : ∀ (s : Shared) (H : Hp) (C : Addr) (cl : List (Str × Addr)) (fp : List Addr), PTs (X.blk s H scope (compEnvC scope cl C X.env) fp) ifs tt)
    (hk : ∀ (s : Shared) (H : Hp) (C : Addr) (cl : List (Str × Addr)) (fp : List Addr), PE (X.blk s H scope (compEnvC scope cl C X.env) fp) kx tk)
    (he : ∀ (s : Shared) (H : Hp) (C : Addr) (cl : List (Str × Addr)) (fp : List Addr), PE (X.blk s H scope (compEnvC scope cl C X.env) fp) vx tv) (hs : ∀ x, foldedSetIterable iter X.env x = pure x := by intro _; rfl) :
    PS X (.Assign [.Name y py] (.DictComp kx vx [⟨tg, iter, ifs, 0⟩] scope pos) spos) (tAsg (tDc wi g tt tk tv (own.map (·.2))) (gName i)) := by
  refine ⟨fun pins s σ H D I h => ?_⟩
  rw [exec_Assign_Name_used _ _ _ _ hsw]
  refine wpAny_bind (wpAny_standAt (wpAny_bind ?_))
  show wpAny _ X.A (do let _ ← comprehension (.DictComp kx vx [⟨tg, iter, ifs, 0⟩] scope pos) scope X.env (firstIterPos [⟨tg, iter, ifs, 0⟩] pos) newDict false (eval iter X.env) (some (assign (.Name y py) X.env))) _ _ s
  have h : tDc wi g tt tk tv (own.map (·.2)) σ H (fun x H1 => gName i x σ H1 D.nx) := h
  refine wpAny_bind (thn (dc_core (Qf := fun _ s' => SP X pins D .next s') hc hN I hi ok hg ht hk he hs h fun L C s' m H' I' q hn f => ?_) fun _ s' hq => wpAny_pure (wpAny_pure hq))
  show wpAny _ _ (assign (.Name y py) X.env (.ref L)) _ _ _
  refine wpAny_assign_Name (store_ok2 (v := V.ref L) I' hN hy (.inl hyl) rfl (fun s2 I2 ⟨a, sb, ha⟩ => ?_) (.inr hyl))
  obtain ⟨f0, f1, f2, f3, f4, f5⟩ := f
  have haC : C ≠ a := by
    rcases ha with z | z
    · rw [z]
      exact f1
    · exact fun e => f4 y a z e.symm
  refine ⟨m, hn.sameBut sb haC, fun h3 sb3 => ?_⟩
  exact ⟨_, H', I2.turned (t' := s2.toks) (fun b o hb e => (sb3.2 b hb).trans e) f0 f1 f3 f4 f5, q⟩
end
/-- {k: v for a, b in enumerate(l)}: Pv by the turn and the heap, the dict at D within; the pair of a turn is a new tuple at T -/
theorem dc_enum {K : PySem.W.Frag} {a : Addr} {xs : List V} {g : TG} {tt : TT} {tk tv : TE} {vs : List Nat} {σ : L2.St} {H1 : Hp} {D : Addr} {Qd : Hp → Prop} (Pv : Nat → Hp → Prop) (h0 : Pv 0 (upd H1 D (.dK []))) (hl : ∀ i H, i ≤ xs.length → Pv i H → SqL K H a xs)
    (hs : ∀ i x T H, xs[i]? = some x → H T = none → Pv i H → g (.ref T) (wipe σ vs) (upd H T (.tup [.int (i : Nat), x])) fun σ2 H2 => wipe σ2 vs = wipe σ vs ∧ tt σ2 H2 fun b H3 =>
      if b = true then tk σ2 H3 fun y H4 => tv σ2 H4 fun z H5 => ∃ kvs k, y = kV k ∧ H5 D = some (.dK kvs) ∧ kvs.length < sizeLine ∧ Pv (i + 1) (upd H5 D (.dK (putK kvs k z))) else Pv (i + 1) H3) (hd : ∀ H, Pv xs.length H → Qd H) :
    ∃ W : Nat → Nat → Hp → Prop, (∃ m, W 0 m (upd H1 D (.dK []))) ∧ ∀ i m H, W i m H →
      ((Ite K a).stop i H ∧ Qd H) ∨ ((Ite K a).go i H ∧ ∃ Nx : Hp → Prop, (∀ H', Nx H' → ∃ m', m' < m ∧ W (i + 1) m' H') ∧ ∀ x H', (Ite K a).yld i H x H' → g x (wipe σ vs) H' fun σ2 H2 => wipe σ2 vs = wipe σ vs ∧ tt σ2 H2 fun b H3 =>
        if b = true then tk σ2 H3 fun y H4 => tv σ2 H4 fun z H5 => ∃ kvs k, y = kV k ∧ H5 D = some (.dK kvs) ∧ kvs.length < sizeLine ∧ Nx (upd H5 D (.dK (putK kvs k z))) else Nx H3) := by
  refine ⟨fun i m H => m = xs.length - i ∧ i ≤ xs.length ∧ Pv i H, ⟨xs.length, by simp, Nat.zero_le _, h0⟩, ?_⟩
  rintro i m H ⟨rfl, hi, p⟩
  have q := hl i H hi p
  by_cases hlt : i < xs.length
  · refine .inr ⟨⟨xs, xs[i], q, by simp [hlt]⟩, Pv (i + 1), fun H' p' => ⟨xs.length - (i + 1), by omega, rfl, hlt, p'⟩, fun x H' y => ?_⟩
    obtain ⟨T, z, rfl, nT, rfl, y⟩ := y
    exact hs i z T H (y xs q) nT p
  · have e : i = xs.length := by omega
    subst e
    exact .inl ⟨⟨xs, q, Nat.le_refl _⟩, hd H p⟩
end Vr

set_option Elab.async false
set_option linter.all false
set_option maxRecDepth 100000
namespace Mir
open PySem PySem.Spec PyProof.Rows L2
theorem _root_.L2.PI.or {X : Cx} {tg iter : Expr} {t u : TI} (h1 : PI X tg iter t) (h2 : PI X tg iter u) : PI X tg iter (fun σ H R => t σ H R ∨ u σ H R) := ⟨fun pins s σ H R I h => h.elim (h1.run pins s σ H R I) (h2.run pins s σ H R I)⟩
section
variable {K : PySem.W.Frag} {m : List Addr} {H : Hp}
/-- what has to stay while x is walked -/
def chkOf (x : W) (ws : List W) : Option (Nat × List W) := match x with
  | .ref n => some (n, ws)
  | _ => none
theorem list_stay {s s' : Sto} {m' : List Addr} {H' : Hp} {x : W} {a : Addr} {ws : List W} (r : R K m H x (.ref a)) (h : lstOf x s = some ws) (A : Adv m H m' H') (S : SR K m' H' s') (c : okc (chkOf x ws) s') : ∃ vs, SqL K H' a vs ∧ RL K m' H' ws vs := by
  cases r with
  | tup => cases h
  | fn => cases h
  | lro h1 h2 => cases h; exact ⟨_, (h1.ext A.ext).sq, h2.adv A⟩
  | @ref n a h1 =>
    obtain ⟨a', h2, vs, h3, h4⟩ := S.at (show s'[n]? = some (.lst ws) from c)
    rw [A.get h1] at h2; cases h2
    exact ⟨vs, SqL.of h3, h4⟩
theorem tup_stay {m' : List Addr} {H' : Hp} {a : Addr} {ws : List W} (r : R K m H (.tup ws) (.ref a)) (A : Adv m H m' H') : ∃ vs, SqT K H' a vs ∧ RL K m' H' ws vs := by
  cases r with
  | tup h1 h2 => exact ⟨_, (h1.ext A.ext).sq, h2.adv A⟩
theorem it_list {s : Sto} {x : W} {a : Addr} {ws : List W} (r : R K m H x (.ref a)) (h : lstOf x s = some ws) : ItOk K (Itl K a) m H ws (chkOf x ws) where
  go := fun m' H' s' i w A S c hi => by
    obtain ⟨vs, q, rl⟩ := list_stay r h A S c
    obtain ⟨v, hv, rv⟩ := rl.at hi
    refine ⟨⟨vs, v, q, hv⟩, fun v' H2 y => ?_⟩
    obtain ⟨rfl, y⟩ := y
    have e := y vs q
    rw [hv] at e; cases e
    exact ⟨m', Adv.refl _ _, S, rv⟩
  stop := fun m' H' s' A S c => by
    obtain ⟨vs, q, rl⟩ := list_stay r h A S c
    exact ⟨vs, q, by rw [rl.len]; exact Nat.le_refl _⟩
theorem it_tup {a : Addr} {ws : List W} (r : R K m H (.tup ws) (.ref a)) : ItOk K (Itt K a) m H ws none where
  go := fun m' H' s' i w A S c hi => by
    obtain ⟨vs, q, rl⟩ := tup_stay r A
    obtain ⟨v, hv, rv⟩ := rl.at hi
    refine ⟨⟨vs, v, q, hv⟩, fun v' H2 y => ?_⟩
    obtain ⟨rfl, y⟩ := y
    have e := y vs q
    rw [hv] at e; cases e
    exact ⟨m', Adv.refl _ _, S, rv⟩
  stop := fun m' H' s' A S c => by
    obtain ⟨vs, q, rl⟩ := tup_stay r A
    exact ⟨vs, q, by rw [rl.len]; exact Nat.le_refl _⟩
theorem it_rng {lo : Int} {n : Nat} : ItOk K (Itr lo n) m H ((List.range n).map fun (i : Nat) => W.int (lo + (i : Int))) none where
  go := fun m' H' s' i w A S c hi => by
    rw [List.getElem?_map] at hi
    cases e : (List.range n)[i]? with
    | none => rw [e] at hi; cases hi
    | some j =>
      rw [e] at hi
      cases hi
      obtain ⟨h1, h2⟩ := List.getElem?_eq_some_iff.mp e
      rw [List.getElem_range] at h2
      subst h2
      rw [List.length_range] at h1
      refine ⟨h1, fun v' H2 y => ?_⟩
      obtain ⟨rfl, rfl⟩ := y
      exact ⟨m', Adv.refl _ _, S, .int _⟩
  stop := fun m' H' s' A S c => by
    show n ≤ _
    rw [List.length_map, List.length_range]
    exact Nat.le_refl _
/-- pairs with their number -/
def enumW (ws : List W) : List W := ws.zipIdx.map fun p => W.tup [.int (p.2 : Int), p.1]
theorem enum_at {ws : List W} {i : Nat} {w : W} (h : (enumW ws)[i]? = some w) : ∃ x, ws[i]? = some x ∧ w = .tup [.int (i : Int), x] := by
  unfold enumW at h
  rw [List.getElem?_map, List.getElem?_zipIdx] at h
  cases e : ws[i]? with
  | none => rw [e] at h; cases h
  | some x =>
    rw [e] at h
    cases h
    exact ⟨x, rfl, by simp⟩
theorem enum_len (ws : List W) : (enumW ws).length = ws.length := by unfold enumW; rw [List.length_map, List.length_zipIdx]
theorem new_pair {s : Sto} {w1 w2 : W} {v1 v2 : V} {T : Addr} (S : SR K m H s) (r1 : R K m H w1 v1) (r2 : R K m H w2 v2) (hT : H T = none) : ∃ m', Adv m H m' (upd H T (.tup [v1, v2])) ∧ SR K m' (upd H T (.tup [v1, v2])) s ∧ R K m' (upd H T (.tup [v1, v2])) (.tup [w1, w2]) (.ref T) :=
  ⟨m, Adv.fresh hT, S.fresh hT, .tup (.inl upd_same) (.cons (r1.adv (Adv.fresh hT)) (.cons (r2.adv (Adv.fresh hT)) .nil))⟩
theorem it_enumL {s : Sto} {x : W} {a : Addr} {ws : List W} (r : R K m H x (.ref a)) (h : lstOf x s = some ws) : ItOk K (Ite K a) m H (enumW ws) (chkOf x ws) where
  go := fun m' H' s' i w A S c hi => by
    obtain ⟨x, hx, rfl⟩ := enum_at hi
    obtain ⟨vs, q, rl⟩ := list_stay r h A S c
    obtain ⟨v, hv, rv⟩ := rl.at hx
    refine ⟨⟨vs, v, q, hv⟩, fun v' H2 y => ?_⟩
    obtain ⟨T, x', rfl, hT, rfl, y⟩ := y
    have e := y vs q
    rw [hv] at e; cases e
    exact new_pair S (.int _) rv hT
  stop := fun m' H' s' A S c => by
    obtain ⟨vs, q, rl⟩ := list_stay r h A S c
    exact ⟨vs, q, by rw [rl.len, enum_len]; exact Nat.le_refl _⟩
theorem it_enumT {a : Addr} {ws : List W} (r : R K m H (.tup ws) (.ref a)) : ItOk K (Vr.IteT K a) m H (enumW ws) none where
  go := fun m' H' s' i w A S c hi => by
    obtain ⟨x, hx, rfl⟩ := enum_at hi
    obtain ⟨vs, q, rl⟩ := tup_stay r A
    obtain ⟨v, hv, rv⟩ := rl.at hx
    refine ⟨⟨vs, v, q, hv⟩, fun v' H2 y => ?_⟩
    obtain ⟨T, x', rfl, hT, rfl, y⟩ := y
    have e := y vs q
    rw [hv] at e; cases e
    exact new_pair S (.int _) rv hT
  stop := fun m' H' s' A S c => by
    obtain ⟨vs, q, rl⟩ := tup_stay r A
    exact ⟨vs, q, by rw [rl.len, enum_len]; exact Nat.le_refl _⟩
def zipW (ws us : List W) : List W := List.zipWith (fun a b => W.tup [a, b]) ws us
theorem zip_at {ws us : List W} {i : Nat} {w : W} (h : (zipW ws us)[i]? = some w) : ∃ x y, ws[i]? = some x ∧ us[i]? = some y ∧ w = .tup [x, y] := by
  unfold zipW at h
  rw [List.getElem?_zipWith] at h
  cases e1 : ws[i]? with
  | none => rw [e1] at h; cases h
  | some x =>
    cases e2 : us[i]? with
    | none => rw [e1, e2] at h; cases h
    | some y =>
      rw [e1, e2] at h
      cases h
      exact ⟨x, y, rfl, rfl, rfl⟩
theorem zip_len (ws us : List W) : ws.length ≤ (zipW ws us).length ∨ us.length ≤ (zipW ws us).length := by
  unfold zipW
  rw [List.length_zipWith]
  omega
theorem it_zipT {a b : Addr} {ws us : List W} (r : R K m H (.tup ws) (.ref a)) (r' : R K m H (.tup us) (.ref b)) : ItOk K (RZ.ItzT K a b) m H (zipW ws us) none where
  go := fun m' H' s' i w A S c hi => by
    obtain ⟨x, y, hx, hy, rfl⟩ := zip_at hi
    obtain ⟨vs, q, rl⟩ := tup_stay r A
    obtain ⟨vs', q', rl'⟩ := tup_stay r' A
    obtain ⟨v, hv, rv⟩ := rl.at hx
    obtain ⟨v', hv', rv'⟩ := rl'.at hy
    refine ⟨⟨vs, vs', v, v', q, q', hv, hv'⟩, fun v2 H2 z => ?_⟩
    obtain ⟨T, x', y', rfl, hT, rfl, z1, z2⟩ := z
    have e := z1 vs q
    rw [hv] at e; cases e
    have e := z2 vs' q'
    rw [hv'] at e; cases e
    exact new_pair S rv rv' hT
  stop := fun m' H' s' A S c => by
    obtain ⟨vs, q, rl⟩ := tup_stay r A
    obtain ⟨vs', q', rl'⟩ := tup_stay r' A
    exact ⟨vs, vs', q, q', by rw [rl.len, rl'.len]; exact zip_len ws us⟩
theorem it_zipL {s : Sto} {x y : W} {a b : Addr} {ws us : List W} (r : R K m H x (.ref a)) (r' : R K m H y (.ref b)) (h : lstOf x s = some ws) (h' : lstOf y s = some us) (hn : chkOf x ws = none ∨ chkOf y us = none ∨ chkOf x ws = chkOf y us) : ItOk K (Itz K a b) m H (zipW ws us) (if (chkOf x ws).isSome then chkOf x ws else chkOf y us) := by
  have cc : ∀ s', okc (if (chkOf x ws).isSome then chkOf x ws else chkOf y us) s' → okc (chkOf x ws) s' ∧ okc (chkOf y us) s' := fun s' c => by
    rcases hn with e | e | e
    · rw [e] at c ⊢; exact ⟨trivial, c⟩
    · rw [e] at c ⊢
      cases q : chkOf x ws with
      | none => exact ⟨trivial, trivial⟩
      | some p => rw [q] at c; exact ⟨c, trivial⟩
    · rw [e] at c ⊢
      have c : okc (chkOf y us) s' := by split at c <;> exact c
      exact ⟨c, c⟩
  refine ⟨fun m' H' s' i w A S c hi => ?_, fun m' H' s' A S c => ?_⟩
  · obtain ⟨c1, c2⟩ := cc s' c
    obtain ⟨x, y, hx, hy, rfl⟩ := zip_at hi
    obtain ⟨vs, q, rl⟩ := list_stay r h A S c1
    obtain ⟨vs', q', rl'⟩ := list_stay r' h' A S c2
    obtain ⟨v, hv, rv⟩ := rl.at hx
    obtain ⟨v', hv', rv'⟩ := rl'.at hy
    refine ⟨⟨vs, vs', v, v', q, q', hv, hv'⟩, fun v2 H2 z => ?_⟩
    obtain ⟨T, x', y', rfl, hT, rfl, z1, z2⟩ := z
    have e := z1 vs q
    rw [hv] at e; cases e
    have e := z2 vs' q'
    rw [hv'] at e; cases e
    exact new_pair S rv rv' hT
  · obtain ⟨c1, c2⟩ := cc s' c
    obtain ⟨vs, q, rl⟩ := list_stay r h A S c1
    obtain ⟨vs', q', rl'⟩ := list_stay r' h' A S c2
    exact ⟨vs, vs', q, q', by rw [rl.len, rl'.len]; exact zip_len ws us⟩
theorem rev_at {ws : List W} {i : Nat} {w : W} (h : ws.reverse[i]? = some w) : i < ws.length ∧ ws[ws.length - 1 - i]? = some w := by
  have hi := (List.getElem?_eq_some_iff.mp h).1
  rw [List.length_reverse] at hi
  rw [List.getElem?_reverse hi] at h
  exact ⟨hi, h⟩
theorem it_revT {a : Addr} {ws : List W} (r : R K m H (.tup ws) (.ref a)) : ItOk K (RT.ItvT K a ws.length) m H ws.reverse none where
  go := fun m' H' s' i w A S c hi => by
    obtain ⟨hl, hx⟩ := rev_at hi
    obtain ⟨vs, q, rl⟩ := tup_stay r A
    obtain ⟨v, hv, rv⟩ := rl.at hx
    refine ⟨⟨hl, vs, v, q, hv⟩, fun v' H2 y => ?_⟩
    obtain ⟨rfl, y⟩ := y
    have e := y vs q
    rw [hv] at e; cases e
    exact ⟨m', Adv.refl _ _, S, rv⟩
  stop := fun m' H' s' A S c => by
    show _ ≤ _
    rw [List.length_reverse]
    exact Nat.le_refl _
theorem it_revL {s : Sto} {x : W} {a : Addr} {ws : List W} (r : R K m H x (.ref a)) (h : lstOf x s = some ws) : ItOk K (Itv K a ws.length) m H ws.reverse (chkOf x ws) where
  go := fun m' H' s' i w A S c hi => by
    obtain ⟨hl, hx⟩ := rev_at hi
    obtain ⟨vs, q, rl⟩ := list_stay r h A S c
    obtain ⟨v, hv, rv⟩ := rl.at hx
    refine ⟨⟨hl, vs, v, q, hv⟩, fun v' H2 y => ?_⟩
    obtain ⟨rfl, y⟩ := y
    have e := y vs q
    rw [hv] at e; cases e
    exact ⟨m', Adv.refl _ _, S, rv⟩
  stop := fun m' H' s' A S c => by
    show _ ≤ _
    rw [List.length_reverse]
    exact Nat.le_refl _
/-- the signs of a text -/
def signsW (z : Str) : List W := z.cps.toList.map fun c => W.str ⟨#[c]⟩
theorem it_str {z : Str} : ItOk K (Its z) m H (signsW z) none where
  go := fun m' H' s' i w A S c hi => by
    unfold signsW at hi
    rw [List.getElem?_map] at hi
    cases e : z.cps.toList[i]? with
    | none => rw [e] at hi; cases hi
    | some cc =>
      rw [e] at hi
      cases hi
      have hl : i < z.cps.size := by simpa using (List.getElem?_eq_some_iff.mp e).1
      refine ⟨hl, fun v' H2 y => ?_⟩
      obtain ⟨rfl, c2, hc2, rfl⟩ := y
      have e2 : z.cps[i]? = some cc := by simpa using e
      rw [e2] at hc2; cases hc2
      exact ⟨m', Adv.refl _ _, S, .str _⟩
  stop := fun m' H' s' A S c => by
    show _ ≤ _
    unfold signsW
    rw [List.length_map]
    simp
end
/-! ### what stands behind «in» of a for -/
def iSeq (f : FE) : FI := fun ρ s => bd (f ρ s) fun x s1 => match x with
  | .tup ws => some ((ws, none), s1)
  | .str z => some ((signsW z, none), s1)
  | x => match lstOf x s1 with
    | some ws => some ((ws, chkOf x ws), s1)
    | none => none
def iEnu (f : FE) : FI := fun ρ s => bd (f ρ s) fun x s1 => match x with
  | .tup ws => some ((enumW ws, none), s1)
  | x => match lstOf x s1 with
    | some ws => some ((enumW ws, chkOf x ws), s1)
    | none => none
def iRev (f : FE) : FI := fun ρ s => bd (f ρ s) fun x s1 => match x with
  | .tup ws => some ((ws.reverse, none), s1)
  | x => match lstOf x s1 with
    | some ws => some ((ws.reverse, chkOf x ws), s1)
    | none => none
open Classical in
noncomputable def iZip (f g : FE) : FI := fun ρ s => bd (f ρ s) fun x s1 => bd (g ρ s1) fun y s2 => match x, y with
  | .tup ws, .tup us => some ((zipW ws us, none), s2)
  | x, y => match lstOf x s2, lstOf y s2 with
    | some ws, some us => if chkOf x ws = none ∨ chkOf y us = none ∨ chkOf x ws = chkOf y us then some ((zipW ws us, if (chkOf x ws).isSome then chkOf x ws else chkOf y us), s2) else none
    | _, _ => none
def iRng1 (f : FE) : FI := fun ρ s => bd (f ρ s) fun x s1 => match x with
  | .int j => if -(2 ^ 62) ≤ j ∧ j < 2 ^ 62 then some (((List.range j.toNat).map fun (i : Nat) => W.int (0 + (i : Int)), none), s1) else none
  | _ => none
def iRng2 (f g : FE) : FI := fun ρ s => bd (f ρ s) fun x s1 => bd (g ρ s1) fun y s2 => match x, y with
  | .int i, .int j => if -(2 ^ 62) ≤ i ∧ i < 2 ^ 62 ∧ -(2 ^ 62) ≤ j ∧ j < 2 ^ 62 then some (((List.range (j - i).toNat).map fun (k : Nat) => W.int (i + (k : Int)), none), s2) else none
  | _, _ => none
section
variable {X : Cx} {tg e e2 : Expr} {pos : Pos}
theorem seq_tI {f : FE} : ∀ σ H R, tI X.K (iSeq f) σ H R → (iList X.K (tF X.K f) σ H R ∨ iTup X.K (tF X.K f) σ H R) ∨ iStr (tF X.K f) σ H R := by
  rintro σ H R' ⟨m, ρ, s, er, sr, xs, c, s', e, q⟩
  obtain ⟨x, s1, e1, e⟩ := bd_inv e
  have lst : ∀ {ws}, lstOf x s1 = some ws → some ((ws, chkOf x ws), s1) = some ((xs, c), s') → iList X.K (tF X.K f) σ H R' := fun {ws} hl e => by
    cases e
    refine ⟨m, ρ, s, er, sr, x, _, e1, fun m1 H1 v A1 S1 r1 => ?_⟩
    obtain ⟨p, vs, rfl, h1, h2⟩ := lst_of S1 r1 hl
    exact ⟨p, rfl, ⟨vs, h1⟩, q m1 H1 _ A1 S1 (it_list r1 hl)⟩
  cases x with
  | tup ws =>
    cases e
    refine .inl (.inr ⟨m, ρ, s, er, sr, _, _, e1, fun m1 H1 v A1 S1 r1 => ?_⟩)
    have r1' := r1
    cases r1 with
    | tup h1 h2 => exact ⟨_, rfl, ⟨_, h1.sq⟩, q m1 H1 _ A1 S1 (it_tup r1')⟩
  | str z =>
    cases e
    refine .inr ⟨m, ρ, s, er, sr, _, _, e1, fun m1 H1 v A1 S1 r1 => ?_⟩
    cases r1
    exact ⟨z, rfl, q m1 H1 _ A1 S1 it_str⟩
  | ref n =>
    cases hl : lstOf (.ref n) s1 with
    | none => simp only [hl] at e; cases e
    | some ws => simp only [hl] at e; exact .inl (.inl (lst hl e))
  | lro ws' =>
    cases hl : lstOf (.lro ws') s1 with
    | none => simp only [hl] at e; cases e
    | some ws => simp only [hl] at e; exact .inl (.inl (lst hl e))
  | _ => cases e
theorem mi_seq {f : FE} (h : PE X e (tF X.K f)) : PI X tg e (tI X.K (iSeq f)) := (((pi_list h).or (pi_tup h)).or (pi_str h)).imp seq_tI
theorem mi_enum {p tpos : Pos} {elts : List Expr} {kk : Nat} {f : FE} (hg : Gl X "enumerate") (hm : X.mg "enumerate" = none) (h : PE X e (tF X.K f)) (hs1 : starEach [e] X.env = (false, eval e X.env) :: starEach [] X.env := by rfl) (hs : starEach [e] X.env = [(false, eval e X.env)] := by rfl) :
    PI X (.Tuple elts kk tpos) (.Call (.Name "enumerate" p) [e] [] pos) (tI X.K (iEnu f)) :=
  ((pi_enum hg hm (ma_cons h ma_nil hs1) hs).or (Vr.pi_enumT hg hm (ma_cons h ma_nil hs1) hs)).imp fun σ H R' ⟨m, ρ, s, er, sr, xs, c, s', e, q⟩ => by
    obtain ⟨x, s1, e1, e⟩ := bd_inv e
    have ea : aCons f aNil ρ s = some ([x], s1) := by unfold aCons; rw [e1]; rfl
    have lst : ∀ {ws}, lstOf x s1 = some ws → some ((enumW ws, chkOf x ws), s1) = some ((xs, c), s') → iEnum X.K (tA X.K (aCons f aNil)) σ H R' := fun {ws} hl e => by
      cases e
      refine ⟨m, ρ, s, er, sr, [x], _, ea, fun m1 H1 v A1 S1 r1 => ?_⟩
      cases r1 with
      | cons r1 r2 =>
        cases r2
        obtain ⟨p, vs, rfl, h1, h2⟩ := lst_of S1 r1 hl
        exact ⟨p, vs, rfl, h1, q m1 H1 _ A1 S1 (it_enumL r1 hl)⟩
    cases x with
    | tup ws =>
      cases e
      refine .inr ⟨m, ρ, s, er, sr, _, _, ea, fun m1 H1 v A1 S1 r1 => ?_⟩
      cases r1 with
      | cons r1 r2 =>
        cases r2
        have r1' := r1
        cases r1 with
        | tup h1 h2 => exact ⟨_, _, rfl, h1.sq, q m1 H1 _ A1 S1 (it_enumT r1')⟩
    | ref n =>
      cases hl : lstOf (.ref n) s1 with
      | none => simp only [hl] at e; cases e
      | some ws => simp only [hl] at e; exact .inl (lst hl e)
    | lro ws' =>
      cases hl : lstOf (.lro ws') s1 with
      | none => simp only [hl] at e; cases e
      | some ws => simp only [hl] at e; exact .inl (lst hl e)
    | _ => cases e
theorem mi_rev {p : Pos} {f : FE} (hg : Gl X "reversed") (hm : X.mg "reversed" = none) (h : PE X e (tF X.K f)) (hs1 : starEach [e] X.env = (false, eval e X.env) :: starEach [] X.env := by rfl) :
    PI X tg (.Call (.Name "reversed" p) [e] [] pos) (tI X.K (iRev f)) :=
  (RT.pi_revA hg hm h hs1).imp fun σ H R' ⟨m, ρ, s, er, sr, xs, c, s', e, q⟩ => by
    obtain ⟨x, s1, e1, e⟩ := bd_inv e
    refine ⟨m, ρ, s, er, sr, x, s1, e1, fun m1 H1 v A1 S1 r1 => ?_⟩
    have lst : ∀ {ws}, lstOf x s1 = some ws → some ((ws.reverse, chkOf x ws), s1) = some ((xs, c), s') → ∃ (a : Addr) (xs : List V), v = .ref a ∧ ((SqL X.K H1 a xs ∧ R' (Itv X.K a xs.length) H1) ∨ (SqT X.K H1 a xs ∧ R' (RT.ItvT X.K a xs.length) H1)) := fun {ws} hl e => by
      cases e
      obtain ⟨p, vs, rfl, h1, h2⟩ := lst_of S1 r1 hl
      refine ⟨p, vs, rfl, .inl ⟨h1, ?_⟩⟩
      rw [h2.len]
      exact q m1 H1 _ A1 S1 (it_revL r1 hl)
    cases x with
    | tup ws =>
      cases e
      have r1' := r1
      cases r1 with
      | tup h1 h2 =>
        refine ⟨_, _, rfl, .inr ⟨h1.sq, ?_⟩⟩
        rw [h2.len]
        exact q m1 H1 _ A1 S1 (it_revT r1')
    | ref n =>
      cases hl : lstOf (.ref n) s1 with
      | none => simp only [hl] at e; cases e
      | some ws => simp only [hl] at e; exact lst hl e
    | lro ws' =>
      cases hl : lstOf (.lro ws') s1 with
      | none => simp only [hl] at e; cases e
      | some ws => simp only [hl] at e; exact lst hl e
    | _ => cases e
theorem mi_rng1 {p : Pos} {f : FE} (hg : Gl X "range") (hm : X.mg "range" = none) (h : PE X e (tF X.K f)) (hs1 : starEach [e] X.env = (false, eval e X.env) :: starEach [] X.env := by rfl) (hs : starEach [e] X.env = [(false, eval e X.env)] := by rfl) :
    PI X tg (.Call (.Name "range" p) [e] [] pos) (tI X.K (iRng1 f)) :=
  (pi_range1 hg hm (ma_cons h ma_nil hs1) hs).imp fun σ H R' ⟨m, ρ, s, er, sr, xs, c, s', e, q⟩ => by
    obtain ⟨x, s1, e1, e⟩ := bd_inv e
    have ea : aCons f aNil ρ s = some ([x], s1) := by unfold aCons; rw [e1]; rfl
    refine ⟨m, ρ, s, er, sr, [x], s1, ea, fun m1 H1 v A1 S1 r1 => ?_⟩
    cases r1 with
    | cons r1 r2 =>
      cases r2
      cases r1 with
      | int j =>
        by_cases hj : -(2 ^ 62) ≤ j ∧ j < 2 ^ 62
        · simp only [hj, and_self, if_true] at e
          cases e
          exact ⟨j, rfl, hj.1, hj.2, q m1 H1 _ A1 S1 it_rng⟩
        · simp only [hj, if_false] at e
          cases e
      | _ => cases e
theorem mi_rng2 {p : Pos} {f g : FE} (hg : Gl X "range") (hm : X.mg "range" = none) (h : PE X e (tF X.K f)) (h2 : PE X e2 (tF X.K g)) (hs1 : starEach [e, e2] X.env = (false, eval e X.env) :: starEach [e2] X.env := by rfl) (hs2 : starEach [e2] X.env = (false, eval e2 X.env) :: starEach [] X.env := by rfl) (hs : starEach [e, e2] X.env = [(false, eval e X.env), (false, eval e2 X.env)] := by rfl) (hs3 : starEach [e2] X.env = [(false, eval e2 X.env)] := by rfl) :
    PI X tg (.Call (.Name "range" p) [e, e2] [] pos) (tI X.K (iRng2 f g)) :=
  (pi_range2 hg hm (ma_cons h (ma_cons h2 ma_nil hs2) hs1) hs hs3).imp fun σ H R' ⟨m, ρ, s, er, sr, xs, c, s', e, q⟩ => by
    obtain ⟨x, s1, e1, e⟩ := bd_inv e
    obtain ⟨y, s2, e2, e⟩ := bd_inv e
    have ea : aCons f (aCons g aNil) ρ s = some ([x, y], s2) := by simp only [aCons, e1, bd, e2, aNil]
    refine ⟨m, ρ, s, er, sr, [x, y], s2, ea, fun m1 H1 v A1 S1 r1 => ?_⟩
    cases r1 with
    | cons r1 r2 =>
      cases r2 with
      | cons r2 r3 =>
        cases r3
        cases r1 with
        | int i =>
          cases r2 with
          | int j =>
            by_cases hj : -(2 ^ 62) ≤ i ∧ i < 2 ^ 62 ∧ -(2 ^ 62) ≤ j ∧ j < 2 ^ 62
            · simp only [hj, and_self, if_true] at e
              cases e
              exact ⟨i, j, rfl, hj, q m1 H1 _ A1 S1 it_rng⟩
            · simp only [hj, if_false] at e
              cases e
          | _ => cases e
        | _ => cases e
open Classical in
theorem mi_zip {p tpos : Pos} {elts : List Expr} {kk : Nat} {f g : FE} (hg : Gl X "zip") (hm : X.mg "zip" = none) (h : PE X e (tF X.K f)) (h2 : PE X e2 (tF X.K g)) (hs1 : starEach [e, e2] X.env = (false, eval e X.env) :: starEach [e2] X.env := by rfl) (hs2 : starEach [e2] X.env = (false, eval e2 X.env) :: starEach [] X.env := by rfl)
    (hpl : (backTo pos (starEach [e2] X.env)).any (·.1) = false := by rfl) : PI X (.Tuple elts kk tpos) (.Call (.Name "zip" p) [e, e2] [] pos) (tI X.K (iZip f g)) :=
  (RZ.pi_zipA hg hm (ma_cons h (ma_cons h2 ma_nil hs2) hs1) hs1 hpl).imp fun σ H R' ⟨m, ρ, s, er, sr, xs, c, s', e, q⟩ => by
    obtain ⟨x, s1, e1, e⟩ := bd_inv e
    obtain ⟨y, s2, e2, e⟩ := bd_inv e
    have ea : aCons f (aCons g aNil) ρ s = some ([x, y], s2) := by simp only [aCons, e1, bd, e2, aNil]
    refine ⟨m, ρ, s, er, sr, [x, y], s2, ea, fun m1 H1 v A1 S1 r1 => ?_⟩
    cases r1 with
    | @cons _ v1 _ _ r1 r2 =>
      cases r2 with
      | @cons _ v2 _ _ r2 r3 =>
        cases r3
        have lst : ∀ {ws us}, lstOf x s2 = some ws → lstOf y s2 = some us → (if chkOf x ws = none ∨ chkOf y us = none ∨ chkOf x ws = chkOf y us then some ((zipW ws us, if (chkOf x ws).isSome then chkOf x ws else chkOf y us), s2) else none) = some ((xs, c), s') → _ := fun {ws us} hl hl2 e =>
          show ∃ a b xs ys, [v1, v2] = [.ref a, .ref b] ∧ ((SqL X.K H1 a xs ∧ SqL X.K H1 b ys ∧ R' (Itz X.K a b) H1) ∨ (SqT X.K H1 a xs ∧ SqT X.K H1 b ys ∧ R' (RZ.ItzT X.K a b) H1)) from by
            split at e
            · rename_i hc
              cases e
              obtain ⟨p, vs, rfl, h1, h2⟩ := lst_of S1 r1 hl
              obtain ⟨p2, vs2, rfl, h3, h4⟩ := lst_of S1 r2 hl2
              exact ⟨p, p2, vs, vs2, rfl, .inl ⟨h1, h3, q m1 H1 _ A1 S1 (it_zipL r1 r2 hl hl2 hc)⟩⟩
            · cases e
        have oth : (match lstOf x s2, lstOf y s2 with
            | some ws, some us => if chkOf x ws = none ∨ chkOf y us = none ∨ chkOf x ws = chkOf y us then some ((zipW ws us, if (chkOf x ws).isSome then chkOf x ws else chkOf y us), s2) else none
            | _, _ => none) = some ((xs, c), s') → _ := fun e => by
          cases hl : lstOf x s2 with
          | none => simp only [hl] at e; cases e
          | some ws =>
            cases hl2 : lstOf y s2 with
            | none => simp only [hl, hl2] at e; cases e
            | some us => simp only [hl, hl2] at e; exact lst hl hl2 e
        cases x with
        | tup ws =>
          cases y with
          | tup us =>
            cases e
            have r1' := r1
            have r2' := r2
            cases r1 with
            | tup h1 h2 =>
              cases r2 with
              | tup h3 h4 => exact ⟨_, _, _, _, rfl, .inr ⟨h1.sq, h3.sq, q m1 H1 _ A1 S1 (it_zipT r1' r2')⟩⟩
          | _ => exact oth e
        | _ => exact oth e
end
end Mir

set_option Elab.async false
set_option linter.all false
set_option maxRecDepth 100000
namespace Mir
open PySem PySem.Spec PyProof.Rows L2
section
variable {K : PySem.W.Frag}
/-! ### dicts with int and text keys -/
def keyW : W → Option Key
  | .int i => some (.inl i)
  | .str x => some (.inr x)
  | _ => none
theorem key_of {m : List Addr} {H : Hp} {w : W} {v : V} {k : Key} (r : R K m H w v) (h : keyW w = some k) : v = kV k := by
  cases r <;> first | (cases h; rfl) | cases h
def dcOf (x : W) (s : Sto) : Option (Nat × List (Key × W)) := match x with
  | .ref n => match s[n]? with
    | some (.dct kvs) => some (n, kvs)
    | _ => none
  | _ => none
theorem dc_of {m : List Addr} {H : Hp} {s : Sto} {x : W} {v : V} {n : Nat} {kvs : List (Key × W)} (S : SR K m H s) (r : R K m H x v) (h : dcOf x s = some (n, kvs)) : ∃ a vs, v = .ref a ∧ m[n]? = some a ∧ s[n]? = some (.dct kvs) ∧ H a = some (.dK vs) ∧ RK K m H kvs vs := by
  cases r with
  | @ref n' a h1 =>
    cases e : s[n']? with
    | none => simp only [dcOf, e] at h; cases h
    | some o =>
      cases o with
      | lst _ => simp only [dcOf, e] at h; cases h
      | lam _ _ => simp only [dcOf, e] at h; cases h
      | tab _ _ => simp only [dcOf, e] at h; cases h
      | dead => simp only [dcOf, e] at h; cases h
      | dct kv' =>
        simp only [dcOf, e] at h
        cases h
        obtain ⟨a', h2, vs, h3, h4⟩ := S.at e
        rw [h1] at h2
        cases h2
        exact ⟨_, _, rfl, h1, e, h3, h4⟩
  | _ => cases h
def look (kvs : List (Key × W)) (k : Key) : Option W := (kvs.find? fun kv => decide (kv.1 = k)).map (·.2)
def put (kvs : List (Key × W)) (k : Key) (w : W) : List (Key × W) := if kvs.any (fun kv => decide (kv.1 = k)) then kvs.map fun kv => if kv.1 = k then (kv.1, w) else kv else kvs ++ [(k, w)]
theorem RK.look {m : List Addr} {H : Hp} {k : Key} : ∀ {kvs : List (Key × W)} {vs : List (Key × V)}, RK K m H kvs vs → (∀ w, look kvs k = some w → ∃ v, valV vs k = some v ∧ R K m H w v) ∧ (look kvs k = none → valV vs k = none)
  | [], vs, r => by cases r; exact ⟨fun w h => (by cases h), fun _ => rfl⟩
  | (k', w') :: kvs, vs, r => by
    cases r with
    | @cons _ _ v' _ vs h1 h2 =>
      obtain ⟨q1, q2⟩ := RK.look (k := k) h2
      by_cases e : k' = k
      · subst e
        refine ⟨fun w h => ?_, fun h => ?_⟩
        · have h : some w' = some w := by simpa [Mir.look, List.find?_cons] using h
          cases h
          exact ⟨v', valV_pos rfl, h1⟩
        · exfalso
          simp [Mir.look, List.find?_cons] at h
      · have e1 : Mir.look ((k', w') :: kvs) k = Mir.look kvs k := by simp [Mir.look, List.find?_cons, e]
        have e2 : valV ((k', v') :: vs) k = valV vs k := valV_neg e
        rw [e1, e2]
        exact ⟨q1, q2⟩
theorem RK.any {m : List Addr} {H : Hp} {k : Key} : ∀ {kvs : List (Key × W)} {vs : List (Key × V)}, RK K m H kvs vs → (vs.any fun kv => decide (kv.1 = k)) = kvs.any fun kv => decide (kv.1 = k)
  | [], vs, r => by cases r; rfl
  | (k', w') :: kvs, vs, r => by
    cases r with
    | cons h1 h2 => rw [List.any_cons, List.any_cons, RK.any h2]
theorem RK.map {m : List Addr} {H : Hp} {k : Key} {w : W} {v : V} (rw_ : R K m H w v) : ∀ {kvs : List (Key × W)} {vs : List (Key × V)}, RK K m H kvs vs → RK K m H (kvs.map fun kv => if kv.1 = k then (kv.1, w) else kv) (vs.map fun kv => if kv.1 = k then (kv.1, v) else kv)
  | [], vs, r => by cases r; exact .nil
  | (k', w') :: kvs, vs, r => by
    cases r with
    | cons h1 h2 =>
      rw [List.map_cons, List.map_cons]
      by_cases e : k' = k
      · simp only [e, if_true]
        exact .cons rw_ (RK.map rw_ h2)
      · simp only [e, if_false]
        exact .cons h1 (RK.map rw_ h2)
theorem RK.app {m : List Addr} {H : Hp} : ∀ {a b : List (Key × W)} {c d : List (Key × V)}, RK K m H a c → RK K m H b d → RK K m H (a ++ b) (c ++ d)
  | [], _, _, _, r, g => by cases r; exact g
  | _ :: _, _, _, _, r, g => by
    cases r with
    | cons h1 h2 => exact .cons h1 (RK.app h2 g)
theorem RK.put {m : List Addr} {H : Hp} {k : Key} {w : W} {v : V} {kvs : List (Key × W)} {vs : List (Key × V)} (r : RK K m H kvs vs) (rw_ : R K m H w v) : RK K m H (put kvs k w) (putK vs k v) := by
  unfold Mir.put putK
  rw [r.any]
  split
  · exact r.map rw_
  · exact r.app (.cons rw_ .nil)
end
section
variable {X : Cx} {o i e f : Expr} {pos : Pos}
def eDget (d y : FE) : FE := fun ρ s => bd (d ρ s) fun x s1 => bd (y ρ s1) fun z s2 => match dcOf x s2, keyW z with
  | some (_, kvs), some k => match look kvs k with
    | some w => some (w, s2)
    | none => none
  | _, _ => none
theorem m_dget {fd fy : FE} (hu : X.A.units + 1 < cLine) (ho : PE X o (tF X.K fd)) (hi : PE X i (tF X.K fy)) (hs : NoSl i) : PE X (.Subscript o i pos) (tF X.K (eDget fd fy)) :=
  (pe_dget hu ho hi hs).imp fun σ H Q ⟨m, ρ, s, er, sr, w, s', e, q⟩ => by
    obtain ⟨x, s1, e1, e⟩ := bd_inv e
    obtain ⟨z, s2, e2, e⟩ := bd_inv e
    refine ⟨m, ρ, s, er, sr, x, s1, e1, fun m1 H1 v A1 S1 r1 => ⟨m1, ρ, s1, er.adv A1, S1, z, s2, e2, fun m2 H2 u A2 S2 r2 => ?_⟩⟩
    cases ed : dcOf x s2 with
    | none => simp only [ed] at e; cases e
    | some p =>
      obtain ⟨n, kvs⟩ := p
      cases ek : keyW z with
      | none => simp only [ed, ek] at e; cases e
      | some k =>
        simp only [ed, ek] at e
        cases el : look kvs k with
        | none => simp only [el] at e; cases e
        | some w' =>
          simp only [el] at e
          cases e
          obtain ⟨a, vs, rfl, hm, hs2, hd, rk⟩ := dc_of S2 (r1.adv A2) ed
          obtain ⟨v', hv, rv⟩ := (rk.look (k := k)).1 _ el
          have hy := key_of r2 ek
          subst hy
          refine ⟨a, v', rfl, ?_, q m2 H2 v' (A1.trans A2) S2 rv⟩
          have g := DGet.k (k := k) hd
          rw [hv] at g
          exact g
def eDin (neg : Bool) (y d : FE) : FE := fun ρ s => bd (y ρ s) fun z s1 => bd (d ρ s1) fun x s2 => match dcOf x s2, keyW z with
  | some (_, kvs), some k => some (.bl (if neg then !(look kvs k).isSome else (look kvs k).isSome), s2)
  | _, _ => none
theorem din_of {fd fy : FE} {neg : Bool} : ∀ σ H Q, tF X.K (eDin neg fy fd) σ H Q → (fun σ H Q => tF X.K fy σ H fun y H1 => tF X.K fd σ H1 fun x H2 => ∃ a o, x = .ref a ∧ DGet H2 a y o ∧ Q (.bl (if neg then !o.isSome else o.isSome)) H2 : TE) σ H Q := fun σ H Q ⟨m, ρ, s, er, sr, w, s', e, q⟩ => by
    obtain ⟨z, s1, e1, e⟩ := bd_inv e
    obtain ⟨x, s2, e2, e⟩ := bd_inv e
    refine ⟨m, ρ, s, er, sr, z, s1, e1, fun m1 H1 v A1 S1 r1 => ⟨m1, ρ, s1, er.adv A1, S1, x, s2, e2, fun m2 H2 u A2 S2 r2 => ?_⟩⟩
    cases ed : dcOf x s2 with
    | none => simp only [ed] at e; cases e
    | some p =>
      obtain ⟨n, kvs⟩ := p
      cases ek : keyW z with
      | none => simp only [ed, ek] at e; cases e
      | some k =>
        simp only [ed, ek] at e
        cases e
        obtain ⟨a, vs, rfl, hm, hs2, hd, rk⟩ := dc_of S2 r2 ed
        have hy := key_of r1 ek
        subst hy
        refine ⟨a, _, rfl, DGet.k (k := k) hd, ?_⟩
        have es : (valV vs k).isSome = (look kvs k).isSome := by
          obtain ⟨q1, q2⟩ := rk.look (k := k)
          cases el : look kvs k with
          | none => rw [q2 el]; rfl
          | some w => obtain ⟨v, hv, _⟩ := q1 w el; rw [hv]; rfl
        rw [es]
        exact q m2 H2 _ (A1.trans A2) S2 (.bl _)
theorem m_din {fd fy : FE} (hu : X.A.units + 1 < cLine) (hi : PE X i (tF X.K fy)) (ho : PE X o (tF X.K fd)) (h1 : behindInMarks .In o = false := by first | exact nobehind _ (by decide) (by decide) | rfl) : PE X (.Compare i [.In] [o] pos) (tF X.K (eDin false fy fd)) :=
  (pe_cmp (pc_din hu hi ho) h1).imp fun σ H Q h => din_of σ H Q h
theorem m_dnotin {fd fy : FE} (hu : X.A.units + 1 < cLine) (hi : PE X i (tF X.K fy)) (ho : PE X o (tF X.K fd)) (h1 : behindInMarks .NotIn o = false := by first | exact nobehind _ (by decide) (by decide) | rfl) : PE X (.Compare i [.NotIn] [o] pos) (tF X.K (eDin true fy fd)) :=
  (pe_cmp (pc_dnotin hu hi ho) h1).imp fun σ H Q h => din_of σ H Q h
theorem mt_din {fd fy : FE} (hu : X.A.units + 1 < cLine) (hi : PE X i (tF X.K fy)) (ho : PE X o (tF X.K fd)) (h1 : behindInMarks .In o = false := by first | exact nobehind _ (by decide) (by decide) | rfl) : PT X (.Compare i [.In] [o] pos) (tT X.K (bTest (eDin false fy fd))) :=
  (pt_cmp (pc_din hu hi ho) h1).imp fun σ H Q h => din_of σ H _ (tT_test σ H Q h)
theorem mt_dnotin {fd fy : FE} (hu : X.A.units + 1 < cLine) (hi : PE X i (tF X.K fy)) (ho : PE X o (tF X.K fd)) (h1 : behindInMarks .NotIn o = false := by first | exact nobehind _ (by decide) (by decide) | rfl) : PT X (.Compare i [.NotIn] [o] pos) (tT X.K (bTest (eDin true fy fd))) :=
  (pt_cmp (pc_dnotin hu hi ho) h1).imp fun σ H Q h => din_of σ H _ (tT_test σ H Q h)
def sDput (d y f : FE) : FS := fun ρ s => bd (f ρ s) fun w s1 => bd (d ρ s1) fun x s2 => bd (y ρ s2) fun z s3 => match dcOf x s3, keyW z with
  | some (n, kvs), some k => if kvs.length ≤ 100000 then some (.nx ρ, s3.set n (.dct (put kvs k w))) else none
  | _, _ => none
theorem ms_dput {fd fy fv : FE} {v : Expr} {pos' : Pos} (hu : X.A.units + 1 < cLine) (ho : PE X o (tF X.K fd)) (hi : PE X i (tF X.K fy)) (hv : PE X v (tF X.K fv)) (hs : swapsWith v (some (.Subscript o i pos')) pos.line X.env = pure false := by rfl) :
    PS X (.Assign [.Subscript o i pos'] v pos) (tS X.K (sDput fd fy fv)) :=
  (ps_dput hu ho hi hv hs).imp fun D σ H ⟨m, ρ, s, er, sr, oo, s', e, q⟩ => by
    obtain ⟨w, s1, e1, e⟩ := bd_inv e
    obtain ⟨x, s2, e2, e⟩ := bd_inv e
    obtain ⟨z, s3, e3, e⟩ := bd_inv e
    refine ⟨m, ρ, s, er, sr, w, s1, e1, fun m1 H1 v A1 S1 r1 => ⟨m1, ρ, s1, er.adv A1, S1, x, s2, e2, fun m2 H2 u A2 S2 r2 => ⟨m2, ρ, s2, (er.adv A1).adv A2, S2, z, s3, e3, fun m3 H3 y A3 S3 r3 => ?_⟩⟩⟩
    cases ed : dcOf x s3 with
    | none => simp only [ed] at e; cases e
    | some p =>
      obtain ⟨n, kvs⟩ := p
      cases ek : keyW z with
      | none => simp only [ed, ek] at e; cases e
      | some k =>
        simp only [ed, ek] at e
        split at e
        · rename_i hl
          cases e
          obtain ⟨a, vs, rfl, hm, hs2, hd, rk⟩ := dc_of S3 (r2.adv A3) ed
          have hy := key_of r3 ek
          subst hy
          refine ⟨a, _, rfl, DPut.k (k := k) hd (szt (by rw [rk.len]; exact hl)), ?_⟩
          have A4 : Adv m3 H3 m3 (upd H3 a (.dK (putK vs k v))) := Adv.write S3 hm ⟨_, hd, .inr ⟨_, rfl⟩⟩
          exact q m3 _ σ (((A1.trans A2).trans A3).trans A4) (S3.write hm ⟨_, hd, .inr ⟨_, rfl⟩⟩ ⟨_, upd_same, (rk.adv A4).put (((r1.adv A2).adv A3).adv A4)⟩) ((((er.adv A1).adv A2).adv A3).adv A4)
        · cases e
def eDget2 (d y f : FE) : FE := fun ρ s => bd (d ρ s) fun x s1 => if (dcOf x s1).isSome = true then bd (y ρ s1) fun z s2 => bd (f ρ s2) fun w s3 => match dcOf x s3, keyW z with
  | some (_, kvs), some k => some ((look kvs k).getD w, s3)
  | _, _ => none
  else none
theorem m_dget2 {fd fy fv : FE} {cpos apos : Pos} (hu : X.A.units + 1 < cLine) (ho : PE X o (tF X.K fd)) (he : PE X e (tF X.K fy)) (hf : PE X f (tF X.K fv)) (M : M2 X o "get" apos e f cpos) : PE X (.Call (.Attribute o "get" apos) [e, f] [] cpos) (tF X.K (eDget2 fd fy fv)) :=
  (pe_dget2 hu ho he hf M).imp fun σ H Q ⟨m, ρ, s, er, sr, w, s', e, q⟩ => by
    obtain ⟨x, s1, e1, e⟩ := bd_inv e
    split at e
    · rename_i hd1
      obtain ⟨z, s2, e2, e⟩ := bd_inv e
      obtain ⟨d, s3, e3, e⟩ := bd_inv e
      refine ⟨m, ρ, s, er, sr, x, s1, e1, fun m1 H1 v A1 S1 r1 => ?_⟩
      cases ed1 : dcOf x s1 with
      | none => rw [ed1] at hd1; cases hd1
      | some p1 =>
        obtain ⟨n1, kvs1⟩ := p1
        obtain ⟨a, vs1, rfl, hm1, _, hh1, _⟩ := dc_of S1 r1 ed1
        refine ⟨a, rfl, .inl ⟨vs1, .inl hh1⟩, m1, ρ, s1, er.adv A1, S1, z, s2, e2, fun m2 H2 u A2 S2 r2 => ⟨m2, ρ, s2, (er.adv A1).adv A2, S2, d, s3, e3, fun m3 H3 y A3 S3 r3 => ?_⟩⟩
        cases ed : dcOf x s3 with
        | none => simp only [ed] at e; cases e
        | some p =>
          obtain ⟨n, kvs⟩ := p
          cases ek : keyW z with
          | none => simp only [ed, ek] at e; cases e
          | some k =>
            simp only [ed, ek] at e
            cases e
            obtain ⟨a', vs, ea, hm, hs2, hd, rk⟩ := dc_of S3 ((r1.adv A2).adv A3) ed
            cases ea
            have hy := key_of r2 ek
            subst hy
            refine ⟨_, DGet.k (k := k) hd, ?_⟩
            obtain ⟨q1, q2⟩ := rk.look (k := k)
            cases el : look kvs k with
            | none =>
              rw [q2 el]
              rw [el] at q
              exact q m3 H3 y ((A1.trans A2).trans A3) S3 r3
            | some w =>
              obtain ⟨v, hv, rv⟩ := q1 w el
              rw [hv]
              rw [el] at q
              exact q m3 H3 v ((A1.trans A2).trans A3) S3 rv
    · cases e
/-! ### constants of the module -/
def Cst (K : PySem.W.Frag) (mg : Str → Option Value) (x : Str) (w : W) : Prop := ∃ v u, mg x = some u ∧ RelV v u ∧ ∀ m H, R K m H w v
theorem m_glob {x : Str} {w : W} {p : Pos} (h : Cst X.K X.mg x w) (hg : Gl X x) (hd : (x == ("__debug__" : Str)) = false := by decide) : PE X (.Name x p) (tF X.K (eC w)) := by
  obtain ⟨v, u, h1, h2, h3⟩ := h
  exact m_c (pe_glob hg h1 h2 hd) h3
/-! ### texts -/
def gStr (f : Str → List W → Sto → Rz W) : W → List W → Sto → Rz W := fun x ws s => match x with
  | .str z => f z ws s
  | _ => none
def isS (x : W) (_ : Sto) : Bool := match x with
  | .str _ => true
  | _ => false
theorem isS_ty {K : PySem.W.Frag} {m : List Addr} {H : Hp} {s : Sto} {x : W} {v : V} (S : SR K m H s) (r : R K m H x v) (h : isS x s = true) : tyV K "str" v H := by
  cases r with
  | str z => rfl
  | _ => cases h
def gUpper := gStr fun z ws s => match ws with
  | [] => if z.length ≤ 5592405 then some (.str (Txt.upper z), s) else none
  | _ => none
theorem f_upper {K : PySem.W.Frag} : MtF K (fun x xs H Q => ∃ a, x = .str a ∧ xs = [] ∧ a.length ≤ 5592405 ∧ Q (.str (Txt.upper a)) H) gUpper := by
  intro m H s x v ws vs Q S rx r h
  cases rx with
  | str z =>
    cases r with
    | cons _ _ => exact nopeE h
    | nil =>
      by_cases hz : z.length ≤ 5592405
      · simp only [gUpper, gStr, hz, if_true] at h
        exact ⟨z, rfl, rfl, hz, h.val S _ (.str _)⟩
      · exact nopeE' h (by simp only [gUpper, gStr, hz, if_false])
  | _ => exact nopeE h
def gJoin := gStr fun z ws s => match ws with
  | [x] => match seqOf x s with
    | some xs => match strsOf xs with
      | some ys => if (ys.map (·.length)).sum + ys.length * z.length ≤ 16777216 then some (.str (Txt.join z ys), s) else none
      | none => none
    | none => none
  | _ => none
theorem f_join {K : PySem.W.Frag} : MtF K (fun x xs H Q => ∃ a p, ∃ ys : List Str, x = .str a ∧ xs = [.ref p] ∧ (SqL K H p (ys.map V.str) ∨ SqT K H p (ys.map V.str)) ∧ (ys.map (·.length)).sum + ys.length * a.length ≤ 16777216 ∧ Q (.str (Txt.join a ys)) H) gJoin := by
  intro m H s x v ws vs Q S rx r h
  cases rx with
  | str z =>
    cases r with
    | nil => exact nopeE h
    | @cons y _ _ _ r1 r2 =>
      cases r2 with
      | cons _ _ => exact nopeE h
      | nil =>
        cases es : seqOf y s with
        | none => exact nopeE' h (by simp only [gJoin, gStr, es])
        | some xs =>
          cases ey : strsOf xs with
          | none => exact nopeE' h (by simp only [gJoin, gStr, es, ey])
          | some ys =>
            by_cases hz : (ys.map (·.length)).sum + ys.length * z.length ≤ 16777216
            · simp only [gJoin, gStr, es, ey, hz, if_true] at h
              obtain ⟨p, us, rfl, hs, rl⟩ := seq_of S r1 es
              rw [strs_of rl ey] at hs
              exact ⟨z, p, ys, rfl, rfl, hs.symm, hz, h.val S _ (.str _)⟩
            · exact nopeE' h (by simp only [gJoin, gStr, es, ey, hz, if_false])
  | _ => exact nopeE h
theorem rl_strs {K : PySem.W.Frag} {m : List Addr} {H : Hp} : ∀ ys : List Str, RL K m H (ys.map W.str) (ys.map V.str)
  | [] => .nil
  | y :: ys => .cons (.str y) (rl_strs ys)
def gSplit := gStr fun z ws s => match ws with
  | [.str b] => if (b.length == 0) = false ∧ z.length + 2 ≤ sizeLine then some (.ref s.length, s ++ [.lst ((Txt.split z b).map W.str)]) else none
  | [] => if z.length + 2 ≤ sizeLine then some (.ref s.length, s ++ [.lst ((Txt.words z).map W.str)]) else none
  | _ => none
theorem f_split {K : PySem.W.Frag} : MtF K (fun x xs H Q => (∃ a b, x = .str a ∧ xs = [.str b] ∧ (b.length == 0) = false ∧ a.length + 2 ≤ sizeLine ∧ rNewStrs (Txt.split a b) H Q) ∨ (∃ a, x = .str a ∧ xs = [] ∧ a.length + 2 ≤ sizeLine ∧ rNewStrs (Txt.words a) H Q)) gSplit := by
  intro m H s x v ws vs Q S rx r h
  cases rx with
  | str z =>
    cases r with
    | nil =>
      by_cases hz : z.length + 2 ≤ sizeLine
      · simp only [gSplit, gStr, hz, if_true] at h
        obtain ⟨w, s', e, q⟩ := h
        cases e
        exact .inr ⟨z, rfl, rfl, hz, fun p hp => new_lst S (rl_strs _) hp q⟩
      · exact nopeE' h (by simp only [gSplit, gStr, hz, if_false])
    | @cons y _ _ _ r1 r2 =>
      cases r2 with
      | cons _ _ => cases r1 <;> exact nopeE h
      | nil =>
        cases r1 with
        | str b =>
          by_cases hz : (b.length == 0) = false ∧ z.length + 2 ≤ sizeLine
          · simp only [gSplit, gStr, hz, and_self, if_true] at h
            obtain ⟨w, s', e, q⟩ := h
            cases e
            exact .inl ⟨z, b, rfl, rfl, hz.1, hz.2, fun p hp => new_lst S (rl_strs _) hp q⟩
          · exact nopeE' h (by simp only [gSplit, gStr, hz, if_false])
        | _ => exact nopeE h
  | _ => exact nopeE h
/-! ### t[::-1], slices by values -/
def gSlA : W → Option Int → Option Int → Sto → Rz W := fun x lo hi s => match x with
  | .str z => if z.length ≤ sizeLine then some (.str (cutS z lo hi), s) else none
  | .tup ws => some (.tup ((ws.drop (HT.sIx ws.length 0 lo)).take (HT.sIx ws.length ws.length hi - HT.sIx ws.length 0 lo)), s)
  | x => match lstOf x s with
    | some ws => some (.ref s.length, s ++ [.lst ((ws.drop (HT.sIx ws.length 0 lo)).take (HT.sIx ws.length ws.length hi - HT.sIx ws.length 0 lo))])
    | none => none
def rSlAny (K : PySem.W.Frag) : V → Option Int → Option Int → Hp → VK → Prop := fun x lo hi H Q => rSlS x lo hi H Q ∨ rSlA K x lo hi H Q ∨ rSlL K x lo hi H Q
theorem sl_any : SlR X (rSlAny X.K) := sl_str.or (sl_tupA.or sl_list)
theorem f_sl {K : PySem.W.Frag} : SlF K (rSlAny K) gSlA := by
  intro m H s x v lo hi Q S rx h
  have lst : ∀ {ws}, lstOf x s = some ws → wE K m H (some (.ref s.length, s ++ [.lst ((ws.drop (HT.sIx ws.length 0 lo)).take (HT.sIx ws.length ws.length hi - HT.sIx ws.length 0 lo))])) Q → rSlAny K v lo hi H Q := fun {ws} hl h => by
    obtain ⟨p, vs, rfl, h1, h2⟩ := lst_of S rx hl
    obtain ⟨w, s', e, q⟩ := h
    cases e
    exact .inr (.inr ⟨p, vs, rfl, h1, fun l hl => new_lst S (h2.cut lo hi) hl q⟩)
  cases rx with
  | str z =>
    by_cases hz : z.length ≤ sizeLine
    · simp only [gSlA, hz, if_true] at h
      exact .inl ⟨z, rfl, hz, h.val S _ (.str _)⟩
    · exact nopeE' h (by simp only [gSlA, hz, if_false])
  | @tup p vs ws h1 h2 =>
    have rc := h2.cut lo hi
    refine .inr (.inl ⟨p, vs, rfl, h1.sq, fun hw => ?_, fun hw q hq => ?_⟩)
    · refine h.val S _ (.tup h1 ?_)
      unfold cutV at rc
      rw [hw.1, hw.2, List.drop_zero, Nat.sub_zero, List.take_length] at rc
      exact rc
    · obtain ⟨w, s', e, q⟩ := h
      cases e
      exact new_tup S rc hq q
  | @ref n a h1 =>
    cases hl : lstOf (.ref n) s with
    | none => exact nopeE' h (by simp only [gSlA, hl])
    | some ws =>
      have e : gSlA (.ref n) lo hi s = some (.ref s.length, s ++ [.lst ((ws.drop (HT.sIx ws.length 0 lo)).take (HT.sIx ws.length ws.length hi - HT.sIx ws.length 0 lo))]) := by simp only [gSlA, hl]
      rw [e] at h
      exact lst hl h
  | @lro p vs ws h1 h2 =>
    have e : gSlA (.lro ws) lo hi s = some (.ref s.length, s ++ [.lst ((ws.drop (HT.sIx ws.length 0 lo)).take (HT.sIx ws.length ws.length hi - HT.sIx ws.length 0 lo))]) := by simp only [gSlA, lstOf]
    rw [e] at h
    exact lst rfl h
  | _ => exact nopeE h
def gRevL : W → Sto → Rz W := fun x s => match lstOf x s with
  | some ws => some (.ref s.length, s ++ [.lst ws.reverse])
  | none => none
def gRevT : W → Sto → Rz W := fun x s => match x with
  | .tup ws => some (.tup ws.reverse, s)
  | _ => none
theorem m_revL {fe : FE} {k : Nat} {p1 p2 p3 : Pos} (he : PE X e (tF X.K fe)) : PE X (.Subscript e (.Slice none none (some (.UnaryOp .USub (.Constant (.int 1) k p1) p2)) p3) pos) (tF X.K (eUn gRevL fe)) :=
  (pe_revL he).imp fun σ H Q ⟨m, ρ, s, er, sr, w, s', e, q⟩ => by
    obtain ⟨x, s1, e1, e⟩ := bd_inv e
    refine ⟨m, ρ, s, er, sr, x, s1, e1, fun m1 H1 v A1 S1 r1 => ?_⟩
    cases hl : lstOf x s1 with
    | none => simp only [gRevL, hl] at e; cases e
    | some ws =>
      simp only [gRevL, hl] at e
      cases e
      obtain ⟨p, vs, rfl, h1, h2⟩ := lst_of S1 r1 hl
      exact ⟨p, vs, rfl, h1, fun l hl => new_lst S1 h2.rev hl fun m2 H2 v A2 => q m2 H2 v (A1.trans A2)⟩
theorem m_revT {fe : FE} {k : Nat} {p1 p2 p3 : Pos} (he : PE X e (tF X.K fe)) : PE X (.Subscript e (.Slice none none (some (.UnaryOp .USub (.Constant (.int 1) k p1) p2)) p3) pos) (tF X.K (eUn gRevT fe)) :=
  (Vr.pe_revT he).imp fun σ H Q ⟨m, ρ, s, er, sr, w, s', e, q⟩ => by
    obtain ⟨x, s1, e1, e⟩ := bd_inv e
    refine ⟨m, ρ, s, er, sr, x, s1, e1, fun m1 H1 v A1 S1 r1 => ?_⟩
    cases r1 with
    | tup h1 h2 =>
      cases e
      exact ⟨_, _, rfl, h1.sq, fun l hl => new_tup S1 h2.rev hl fun m2 H2 v A2 => q m2 H2 v (A1.trans A2)⟩
    | _ => cases e
/-! ### f'..' -/
def eFmt (f : FE) : FE := fun ρ s => bd (f ρ s) fun x s1 => match x with
  | .str y => if y.length ≤ sizeLine then some (.str y, s1) else none
  | .int i => if i.natAbs.log2 < 1920 then some (.str (toString i), s1) else none
  | _ => none
theorem m_fmt {fe : FE} (he : PE X e (tF X.K fe)) : PE X (.FormattedValue e (-1) none pos) (tF X.K (eFmt fe)) :=
  (pe_fmt he).imp fun σ H Q ⟨m, ρ, s, er, sr, w, s', e, q⟩ => by
    obtain ⟨x, s1, e1, e⟩ := bd_inv e
    refine ⟨m, ρ, s, er, sr, x, s1, e1, fun m1 H1 v A1 S1 r1 => ?_⟩
    cases r1 with
    | str y =>
      by_cases hy : y.length ≤ sizeLine
      · simp only [hy, if_true] at e
        cases e
        exact .inl ⟨y, rfl, hy, q m1 H1 _ A1 S1 (.str _)⟩
      · simp only [hy, if_false] at e; cases e
    | int y =>
      by_cases hy : y.natAbs.log2 < 1920
      · simp only [hy, if_true] at e
        cases e
        exact .inr ⟨y, rfl, hy, q m1 H1 _ A1 S1 (.str _)⟩
      · simp only [hy, if_false] at e; cases e
    | _ => cases e
def joinF : List FE → Str → EnvM → Sto → Rz Str
  | [], acc, _, s => some (acc, s)
  | f :: fs, acc, ρ, s => bd (f ρ s) fun x s1 => match x with
    | .str y => if (acc ++ y).length ≤ sizeLine then joinF fs (acc ++ y) ρ s1 else none
    | _ => none
def eJoin (fs : List FE) : FE := fun ρ s => bd (joinF fs Str.empty ρ s) fun y s1 => some (.str y, s1)
theorem tJs_of {σ : L2.St} : ∀ (fs : List FE) {acc : Str} {m : List Addr} {ρ : EnvM} {s : Sto} {H : Hp} {y : Str} {s' : Sto} {Q : Str → Hp → Prop}, ER X.K m H ρ σ → SR X.K m H s → joinF fs acc ρ s = some (y, s') → (∀ m' H', Adv m H m' H' → SR X.K m' H' s' → Q y H') → tJs (fs.map (tF X.K)) acc σ H Q
  | [], acc, m, ρ, s, H, y, s', Q, er, sr, e, q => by
    cases e
    exact q m H (Adv.refl m H) sr
  | f :: fs, acc, m, ρ, s, H, y, s', Q, er, sr, e, q => by
    obtain ⟨x, s1, e1, e⟩ := bd_inv e
    refine ⟨m, ρ, s, er, sr, x, s1, e1, fun m1 H1 v A1 S1 r1 => ?_⟩
    cases r1 with
    | str z =>
      by_cases hz : (acc ++ z).length ≤ sizeLine
      · simp only [hz, if_true] at e
        exact ⟨z, rfl, hz, tJs_of fs (er.adv A1) S1 e fun m2 H2 A2 => q m2 H2 (A1.trans A2)⟩
      · simp only [hz, if_false] at e; cases e
    | _ => cases e
theorem m_joined {v1 v2 : Expr} {rest : List Expr} {fs : List FE} (h : PJ X (v1 :: v2 :: rest) (fs.map (tF X.K))) : PE X (.JoinedStr (v1 :: v2 :: rest) pos) (tF X.K (eJoin fs)) :=
  (pe_joined h).imp fun σ H Q ⟨m, ρ, s, er, sr, w, s', e, q⟩ => by
    obtain ⟨y, s1, e1, e⟩ := bd_inv e
    cases e
    exact tJs_of fs er sr e1 fun m1 H1 A1 S1 => q m1 H1 _ A1 S1 (.str _)
theorem m_joined1 {fe : FE} (he : PE X e (tF X.K fe)) : PE X (.JoinedStr [e] pos) (tF X.K fe) := pe_joined1 he
end
end Mir

set_option Elab.async false
set_option linter.all false
set_option maxRecDepth 100000
namespace Mir
open PySem PySem.Spec PyProof.Rows L2
section
variable {K : PySem.W.Frag}
/-! ### isinstance(x, T), T a built-in type -/
def tyW (x : W) (s : Sto) : Option String := match x with
  | .non => some "NoneType"
  | .bl _ => some "bool"
  | .int _ => some "int"
  | .str _ => some "str"
  | .tup _ => some "tuple"
  | .lro _ => some "list"
  | .ref n => match s[n]? with
    | some (.lst _) => some "list"
    | some (.dct _) => some "dict"
    | _ => none
  | .fn _ => none
theorem tyW_of {m : List Addr} {H : Hp} {s : Sto} {x : W} {v : V} {t : String} (S : SR K m H s) (r : R K m H x v) (h : tyW x s = some t) : TyX K H v (.type t) := by
  cases r with
  | non => cases h; exact .base .non
  | fn => cases h
  | bl b => cases h; exact .base (.bl b)
  | int i => cases h; exact .base (.int i)
  | str y => cases h; exact .base (.str y)
  | tup h1 h2 =>
    cases h
    rcases h1 with h1 | ⟨o, its, n, l, c, _⟩
    · exact .base (.tup h1)
    · exact .kTuple l c
  | lro h1 h2 =>
    cases h
    rcases h1 with ⟨o, h1⟩ | ⟨o, its, n, l, c, _⟩
    · exact .base (.frz h1)
    · exact .kList l c
  | @ref n a h1 =>
    cases e : s[n]? with
    | none => simp only [tyW, e] at h; cases h
    | some o =>
      obtain ⟨a', h2, h3⟩ := S.at e
      rw [h1] at h2; cases h2
      cases o with
      | lst ws =>
        simp only [tyW, e] at h
        cases h
        obtain ⟨vs, h3, _⟩ := h3
        exact .base (.lst h3)
      | dct ws =>
        simp only [tyW, e] at h
        cases h
        obtain ⟨vs, h3, _⟩ := h3
        exact .base (.dK h3)
      | _ => simp only [tyW, e] at h; cases h
/-- the answer, by the names of the types -/
def isiT (a b : String) : Bool := (a == b) || (a == "bool" && b == "int")
def eIsi (T : String) (f : FE) : FE := fun ρ s => bd (f ρ s) fun x s1 => match tyW x s1 with
  | some t => some (.bl (isiT t T), s1)
  | none => none

def tyNames : List String := ["NoneType", "bool", "int", "str", "tuple", "list", "dict"]
theorem tyW_in {x : W} {s : Sto} {t : String} (h : tyW x s = some t) : t ∈ tyNames := by
  cases x with
  | ref n =>
    simp only [tyW] at h
    split at h <;> (cases h <;> decide)
  | fn => cases h
  | _ => cases h; decide
theorem kit_int : ∀ t ∈ tyNames, kitB t "int" = some (isiT t "int") := by decide +kernel
theorem kit_str : ∀ t ∈ tyNames, kitB t "str" = some (isiT t "str") := by decide +kernel
theorem kit_bool : ∀ t ∈ tyNames, kitB t "bool" = some (isiT t "bool") := by decide +kernel
theorem kit_tuple : ∀ t ∈ tyNames, kitB t "tuple" = some (isiT t "tuple") := by decide +kernel
theorem kit_list : ∀ t ∈ tyNames, kitB t "list" = some (isiT t "list") := by decide +kernel
theorem kit_dict : ∀ t ∈ tyNames, kitB t "dict" = some (isiT t "dict") := by decide +kernel
end
section
variable {X : Cx} {a b c e e2 : Expr} {pos : Pos}
theorem m_isi {f : FE} {T : String} {p p2 : Pos} {x : Str} (hk : ∀ t ∈ tyNames, kitB t T = some (isiT t T)) (hg : Gl X "isinstance") (hm : X.mg "isinstance" = none) (hg2 : Gl X x) (hm2 : X.mg x = none) (hb : bootBuiltins x = some (.type T)) (he : PE X e (tF X.K f)) (hn : x ≠ "__name__" := by decide) (hd : (x == ("__debug__" : Str)) = false := by decide)
    (hs1 : starEach [e, .Name x p2] X.env = (false, eval e X.env) :: starEach [.Name x p2] X.env := by rfl) (hs2 : starEach [.Name x p2] X.env = (false, eval (.Name x p2) X.env) :: starEach [] X.env := by rfl) (hpl : (backTo pos (starEach [.Name x p2] X.env)).any (·.1) = false := by rfl) :
    PE X (.Call (.Name "isinstance" p) [e, .Name x p2] [] pos) (tF X.K (eIsi T f)) :=
  (pe_callB call_isi hg hm PyProof.Rows.boot_isinstance (pa_cons he (pa_cons (pe_bltn (v := .ty T) hg2 hm2 hb rfl hn hd) pa_nil hs2) hs1) (by decide) (by decide) hs1 hpl).imp fun σ H Q ⟨m, ρ, s, er, sr, w, s', e, q⟩ => by
    obtain ⟨x, s1, e1, e⟩ := bd_inv e
    cases ht : tyW x s1 with
    | none => simp only [ht] at e; cases e
    | some t =>
      simp only [ht] at e
      cases e
      exact ⟨m, ρ, s, er, sr, x, _, e1, fun m1 H1 v A1 S1 r1 => ⟨v, .ty T, .type t, .type T, _, rfl, .ty T, tyW_of S1 r1 ht, kit_ty (hk t (tyW_in ht)), q m1 H1 _ A1 S1 (.bl _)⟩⟩
/-! ### a < b < c -/
def eChain (g g' : W → W → Sto → Rz W) (fa fb fc : FE) : FE := fun ρ s => bd (fa ρ s) fun x s1 => bd (fb ρ s1) fun y s2 => bd (g x y s2) fun z s3 => match z with
  | .bl k => if k = true then bd (fc ρ s3) fun w s4 => g' y w s4 else some (.bl false, s3)
  | _ => none
theorem chain_of {r r' : R2} {g g' : W → W → Sto → Rz W} {fa fb fc : FE} (hg : OpF X.K r g) (hg' : OpF X.K r' g') : ∀ σ H Q, tF X.K (eChain g g' fa fb fc) σ H Q → tChain r r' (tF X.K fa) (tF X.K fb) (tF X.K fc) σ H Q := fun σ H Q ⟨m, ρ, s, er, sr, w, s', e, q⟩ => by
  obtain ⟨x, s1, e1, e⟩ := bd_inv e
  obtain ⟨y, s2, e2, e⟩ := bd_inv e
  obtain ⟨z, s3, e3, e⟩ := bd_inv e
  refine ⟨m, ρ, s, er, sr, x, s1, e1, fun m1 H1 v A1 S1 r1 => ⟨m1, ρ, s1, er.adv A1, S1, y, s2, e2, fun m2 H2 u A2 S2 r2 => hg m2 H2 s2 x y v u _ S2 (r1.adv A2) r2 ⟨z, s3, e3, fun m3 H3 zv A3 S3 r3 => ?_⟩⟩⟩
  cases r3 with
  | bl k =>
    refine ⟨k, rfl, ?_⟩
    cases k with
    | true =>
      simp only [if_true] at e
      rw [if_pos rfl]
      obtain ⟨w4, s4, e4, e⟩ := bd_inv e
      exact ⟨m3, ρ, s3, ((er.adv A1).adv A2).adv A3, S3, w4, s4, e4, fun m4 H4 v4 A4 S4 r4 => hg' m4 H4 s4 y w4 u v4 Q S4 ((r2.adv A3).adv A4) r4 ⟨w, s', e, fun m5 H5 v5 A5 => q m5 H5 v5 ((((A1.trans A2).trans A3).trans A4).trans A5)⟩⟩
    | false =>
      simp only [if_neg Bool.false_ne_true] at e
      rw [if_neg Bool.false_ne_true]
      cases e
      exact q m3 H3 _ ((A1.trans A2).trans A3) S3 (.bl false)
  | _ => cases e
theorem m_chain {op op' : CmpOp} {r r' : R2} {g g' : W → W → Sto → Rz W} {fa fb fc : FE} (ho : OpR X (compareOp op) r) (ho' : OpR X (compareOp op') r') (hg : OpF X.K r g) (hg' : OpF X.K r' g') (ha : PE X a (tF X.K fa)) (hb : PE X b (tF X.K fb)) (hc : PE X c (tF X.K fc))
    (hm : lastMarks [op, op'] [b, c] = false := by with_unfolding_all rfl) : PE X (.Compare a [op, op'] [b, c] pos) (tF X.K (eChain g g' fa fb fc)) := (pe_chain ho ho' ha hb hc hm).imp (chain_of hg hg')
theorem mt_chain {op op' : CmpOp} {r r' : R2} {g g' : W → W → Sto → Rz W} {fa fb fc : FE} (ho : OpR X (compareOp op) r) (ho' : OpR X (compareOp op') r') (hg : OpF X.K r g) (hg' : OpF X.K r' g') (ha : PE X a (tF X.K fa)) (hb : PE X b (tF X.K fb)) (hc : PE X c (tF X.K fc))
    (hm : lastMarks [op, op'] [b, c] = false := by with_unfolding_all rfl) : PT X (.Compare a [op, op'] [b, c] pos) (tT X.K (bTest (eChain g g' fa fb fc))) := (pt_chain ho ho' ha hb hc hm).imp fun σ H Q h => chain_of hg hg' σ H _ (tT_test σ H Q h)
/-! ### tuple(a dict), t * k -/
def gTupleD : List W → Sto → Rz W := fun ws s => match ws with
  | [x] => match dcOf x s with
    | some (_, kvs) => some (.tup (kvs.map fun kv => match kv.1 with | .inl i => W.int i | .inr z => W.str z), s)
    | none => none
  | _ => none
theorem keys_rl {K : PySem.W.Frag} {m : List Addr} {H : Hp} : ∀ {kvs : List (Key × W)} {vs : List (Key × V)}, RK K m H kvs vs → RL K m H (kvs.map fun kv => match kv.1 with | .inl i => W.int i | .inr z => W.str z) (vs.map fun kv => kV kv.1)
  | [], _, r => by cases r; exact .nil
  | (k, w) :: kvs, _, r => by
    cases r with
    | cons h1 h2 =>
      refine .cons ?_ (keys_rl h2)
      cases k with
      | inl i => exact .int i
      | inr z => exact .str z
theorem f_tupleD {K : PySem.W.Frag} : CallF K (fun xs H Q => ∃ (a : Addr) (kvs : List (Key × V)), xs = [.ref a] ∧ Rd H a (.dK kvs) ∧ ∀ p, H p = none → Q (.ref p) (upd H p (.tup (kvs.map fun kv => kV kv.1)))) gTupleD := by
  intro m H s ws vs Q S r h
  cases r with
  | nil => exact nopeE h
  | @cons x v _ _ r1 r2 =>
    cases r2 with
    | cons _ _ => exact nopeE h
    | nil =>
      cases ed : dcOf x s with
      | none => exact nopeE' h (by simp only [gTupleD, ed])
      | some p =>
        obtain ⟨n, kvs⟩ := p
        simp only [gTupleD, ed] at h
        obtain ⟨a, us, rfl, _, _, hd, rk⟩ := dc_of S r1 ed
        obtain ⟨w, s', e, q⟩ := h
        cases e
        exact ⟨a, us, rfl, .inl hd, fun p hp => new_tup S (keys_rl rk) hp q⟩
def gMul : W → W → Sto → Rz W := fun x y s => match x, y with
  | .int i, .int j => if (-(2 ^ 64) < i ∧ i < 2 ^ 64) ∨ (-(2 ^ 64) < j ∧ j < 2 ^ 64) then some (.int (i * j), s) else none
  | .tup ws, .int k => if ws ≠ [] ∧ 2 ≤ k ∧ k ≤ 1000 ∧ ws.length ≤ 1000 then some (.tup (List.replicate k.toNat ws).flatten, s) else none
  | _, _ => none
def rMulA (K : PySem.W.Frag) : R2 := fun x y H Q => rI CMul (fun i j => .int (i * j)) x y H Q ∨ rRepT K x y H Q
theorem op_mulA : OpR X (binaryOp .Mult) (rMulA X.K) := op_mul.or op_repT
theorem f_mul {K : PySem.W.Frag} : OpF K (rMulA K) gMul := by
  intro m H s x y v u Q S rx ry h
  cases rx with
  | int i =>
    cases ry with
    | int j =>
      by_cases q : (-(2 ^ 64) < i ∧ i < 2 ^ 64) ∨ (-(2 ^ 64) < j ∧ j < 2 ^ 64)
      · simp only [gMul, q, if_true] at h
        exact .inl ⟨i, j, rfl, rfl, q, h.val S _ (.int _)⟩
      · exact nopeE' h (by simp only [gMul, q, if_false])
    | _ => exact nopeE h
  | @tup p vs ws h1 h2 =>
    cases ry with
    | int k =>
      by_cases q : ws ≠ [] ∧ 2 ≤ k ∧ k ≤ 1000 ∧ ws.length ≤ 1000
      · obtain ⟨w, s', e, qq⟩ := h
        simp only [gMul] at e
        rw [if_pos q] at e
        cases e
        refine .inr ⟨p, k, vs, rfl, rfl, h1.sq, fun e => q.1 ?_, q.2.1, q.2.2.1, by rw [h2.len]; exact q.2.2.2, fun z hz => new_tup S (h2.rep k.toNat) hz qq⟩
        subst e
        cases h2
        rfl
      · exact nopeE' h (by simp only [gMul]; rw [if_neg q])
    | _ => exact nopeE h
  | _ => cases ry <;> exact nopeE h
/-! ### a, b = x, y -/
def sPar (i j : Nat) (f : FA) : FS := fun ρ s => bd (f ρ s) fun ws s1 => match ws with
  | [v, w] => some (.nx ((ρ.set i (some v)).set j (some w)), s1)
  | _ => none
theorem ms_par {i j : Nat} {x y : Str} {fa : FA} {px py pt : Pos} {kt k2 pt2} (hc : X.calm = true) (hN : X.N.Nodup) (hi : X.N[i]? = some x) (hj : X.N[j]? = some y) (hij : i ≠ j)
    (hx : X.env.scope.names.lookup x = some .local) (hy : X.env.scope.names.lookup y = some .local) (ha : PA X [a, b] (tA X.K fa))
    (hw : swappedStores [.Tuple [.Name x px, .Name y py] kt pt] (.Tuple [a, b] k2 pt2) X.env = pure (some [x, y]))
    (hs : swapsWithSole [.Tuple [.Name x px, .Name y py] kt pt] (.Tuple [a, b] k2 pt2) pos.line X.env = pure false := by rfl) :
    PS X (.Assign [.Tuple [.Name x px, .Name y py] kt pt] (.Tuple [a, b] k2 pt2) pos) (tS X.K (sPar i j fa)) :=
  (ps_par hc hN hi hj hij hx hy ha hw hs).imp fun D σ H ⟨m, ρ, s, er, sr, o, s', e, q⟩ => by
    obtain ⟨ws, s1, e1, e⟩ := bd_inv e
    refine ⟨m, ρ, s, er, sr, ws, s1, e1, fun m1 H1 vs A1 S1 r1 => ?_⟩
    cases r1 with
    | nil => cases e
    | cons h1 h2 =>
      cases h2 with
      | nil => cases e
      | cons h2 h3 =>
        cases h3 with
        | cons _ _ => cases e
        | nil =>
          cases e
          exact ⟨_, _, rfl, q m1 H1 _ A1 S1 (((er.adv A1).set i h1).set j h2)⟩
/-! ### x += e -/
theorem ip_addA : PIp X .Add (fun x y H Q => rI0 (fun i j => .int (i + j)) x y H Q ∨ ∃ i j, x = .str i ∧ y = .str j ∧ i.length + j.length ≤ sizeLine ∧ Q (.str (i ++ j)) H) := OpR.or iop_add iop_add_str
def gIAdd : W → W → Sto → Rz W := fun x y s => match x, y with
  | .int i, .int j => some (.int (i + j), s)
  | .str a, .str b => if a.length + b.length ≤ 100000 then some (.str (a ++ b), s) else none
  | _, _ => none
theorem f_iadd {K : PySem.W.Frag} : OpF K (fun x y H Q => rI0 (fun i j => .int (i + j)) x y H Q ∨ ∃ i j, x = .str i ∧ y = .str j ∧ i.length + j.length ≤ sizeLine ∧ Q (.str (i ++ j)) H) gIAdd := by
  intro m H s x y v u Q S rx ry h
  cases rx with
  | int i =>
    cases ry with
    | int j => exact .inl ⟨i, j, rfl, rfl, h.val S _ (.int _)⟩
    | _ => exact nopeE h
  | str a =>
    cases ry with
    | str b =>
      by_cases q : a.length + b.length ≤ 100000
      · simp only [gIAdd, q, if_pos] at h
        exact .inr ⟨a, b, rfl, rfl, szl q, h.val S _ (.str _)⟩
      · exact nopeE' h (by simp only [gIAdd, q, if_false])
    | _ => exact nopeE h
  | _ => cases ry <;> exact nopeE h
/-! ### the script -/
theorem ints_rl {K : PySem.W.Frag} {m : List Addr} {H : Hp} : ∀ ns : List Int, RL K m H (ns.map W.int) (ns.map V.int)
  | [] => .nil
  | n :: ns => .cons (.int n) (ints_rl ns)
theorem law_sp {K : PySem.W.Frag} {F : List W → Sto → Rz W} {H : Hp} {a : Addr} {ns : List Int} (hO : Only H) (hS : SqL K H a (ns.map V.int)) (h : ∃ s, F [.lro (ns.map W.int)] [] = some (.bl true, s)) : spF K 1 F [.ref a] H (fun v _ => v = .bl true) (fun _ _ _ => False) := by
  obtain ⟨s, e⟩ := h
  refine ⟨rfl, [], [], [.lro (ns.map W.int)], .cons (.lro ?_ (ints_rl ns)) .nil, ⟨rfl, List.nodup_nil, fun n a o h _ => by cases h⟩, .bl true, s, e, fun m' H' v _ _ r => by cases r; rfl⟩
  rcases hS with (h | h) | h
  · exfalso
    rcases hO a with q | ⟨o, xs, q⟩
    · rw [q] at h; cases h
    · rw [q] at h; cases h
  · exact .inl h
  · exact .inr h
end
end Mir
namespace Mir
open PySem L2
theorem ofString_inj {a b : String} : (Str.ofString a = Str.ofString b) ↔ a = b := by
  refine ⟨fun h => ?_, fun h => by rw [h]⟩
  have h1 : Str.ofStringByList a = Str.ofStringByList b := by rw [← Str.ofString_eq_byList]; exact h
  unfold Str.ofStringByList at h1
  injection h1 with h1
  have h2 : a.toList.map Char.toNat = b.toList.map Char.toNat := by simpa using congrArg Array.toList h1
  have inj : ∀ l m : List Char, l.map Char.toNat = m.map Char.toNat → l = m := by
    intro l
    induction l with
    | nil => intro m e; cases m with | nil => rfl | cons _ _ => cases e
    | cons x l ih =>
      intro m e
      cases m with
      | nil => cases e
      | cons y m =>
        injection e with e1 e2
        rw [ih m e2, Char.toNat_inj.mp e1]
  have h3 : a.toList = b.toList := inj _ _ h2
  exact String.toList_inj.mp h3
theorem hu65 {A : Around} {k : Nat} (hr : Room k A) : A.units + 65 < cLine := by
  have := hr.un
  omega
end Mir
namespace Mir
open PySem PySem.Spec PyProof.Rows L2
theorem cst_int {K : PySem.W.Frag} {mg : Str → Option Value} {x : Str} {i : Int} {t : Tok} (h : mg x = some (.int i t)) : Cst K mg x (.int i) := ⟨.int i, _, h, ⟨t, rfl⟩, fun _ _ => .int i⟩
theorem cst_str {K : PySem.W.Frag} {mg : Str → Option Value} {x : Str} {i : Str} {t : Tok} (h : mg x = some (.str i t)) : Cst K mg x (.str i) := ⟨.str i, _, h, ⟨t, rfl⟩, fun _ _ => .str i⟩
theorem cst_tup {K : PySem.W.Frag} {m : List Addr} {H : Hp} {a : Addr} {od : Option Addr} {its : Array Value} {n : Nat} {sl : Array (Option Value)} {vs : List V} {ws : List W} (h : K.lookup a = some ⟨.type "tuple", od, .seq its n, sl⟩) (hz : its.size ≤ 100000) (hv : Vals vs its.toList) (r : RL K m H ws vs) : R K m H (.tup ws) (.ref a) :=
  .tup (.inr ⟨_, its, n, h, rfl, rfl, szl hz, hv⟩) r
end Mir
namespace Mir
theorem bd_ite {α β : Type} {c : Prop} [Decidable c] {x y : Rz α} {f : α → Sto → Rz β} : bd (if c then x else y) f = if c then bd x f else bd y f := by split <;> rfl
theorem getapp {α : Type} (s : List α) (a : α) : (s ++ [a])[s.length]? = some a := by simp
theorem setapp {α : Type} (s : List α) (a b : α) : (s ++ [a]).set s.length b = s ++ [b] := by simp
end Mir
namespace Mir
theorem bd_congr {α β : Type} {x x' : Rz α} {f : α → Sto → Rz β} (h : x = x') : bd x f = bd x' f := by rw [h]
end Mir
namespace Mir
theorem tgM_name {i : Nat} {w : W} {ρ : EnvM} : tgM (.name i) w ρ = some (ρ.set i (some w)) := by rw [tgM]
theorem tgM_tup {ts : List Tg} {ws : List W} {ρ : EnvM} : tgM (.tup ts) (.tup ws) ρ = tgMs ts ws ρ := by rw [tgM]
theorem tgMs_nil {ρ : EnvM} : tgMs [] [] ρ = some ρ := by rw [tgMs]
theorem tgMs_name {i : Nat} {ts : List Tg} {w : W} {ws : List W} {ρ : EnvM} : tgMs (.name i :: ts) (w :: ws) ρ = tgMs ts ws (ρ.set i (some w)) := by rw [tgMs, tgM]
theorem tgMs_tup {us ts : List Tg} {vs ws : List W} {ρ ρ' : EnvM} (h : tgMs us vs ρ = some ρ') : tgMs (.tup us :: ts) (.tup vs :: ws) ρ = tgMs ts ws ρ' := by rw [tgMs, tgM, h]
end Mir

set_option Elab.async false
set_option linter.all false
namespace Mir
open PySem PySem.Spec PyProof.Rows L2
theorem lookup_rel {env : Env} {x : Str} : ∀ {names : List (Str × NameKind)}, names.lookup x = some .cell ∨ names.lookup x = some .free →
    (names.map fun (n, k) => if (k == NameKind.free && env.scope.kind == .function && env.kindOf n == some .cell) then (n, NameKind.cell) else (n, k)).lookup x = some .cell ∨
    (names.map fun (n, k) => if (k == NameKind.free && env.scope.kind == .function && env.kindOf n == some .cell) then (n, NameKind.cell) else (n, k)).lookup x = some .free
  | [], h => by simp at h
  | (n, k) :: r, h => by
    have ih := @lookup_rel env x r
    rw [List.map_cons]
    show List.lookup x ((if (k == NameKind.free && env.scope.kind == .function && env.kindOf n == some .cell) = true then (n, NameKind.cell) else (n, k)) :: _) = _ ∨ List.lookup x ((if (k == NameKind.free && env.scope.kind == .function && env.kindOf n == some .cell) = true then (n, NameKind.cell) else (n, k)) :: _) = _
    cases hx : x == n with
    | true =>
      simp only [List.lookup_cons, hx] at h
      by_cases hc : (k == NameKind.free && env.scope.kind == .function && env.kindOf n == some .cell) = true
      · rw [if_pos hc]; simp only [List.lookup_cons, hx]; exact .inl trivial
      · rw [if_neg hc]; simp only [List.lookup_cons, hx]; exact h
    | false =>
      simp only [List.lookup_cons, hx] at h
      by_cases hc : (k == NameKind.free && env.scope.kind == .function && env.kindOf n == some .cell) = true
      · rw [if_pos hc]; simp only [List.lookup_cons, hx]; exact ih h
      · rw [if_neg hc]; simp only [List.lookup_cons, hx]; exact ih h
theorem blk_in {X : Cx} {s : Shared} {H : Hp} {scope scope2 : Scope} {E : Env} {fp : List Addr} {cl : List (Str × Addr)} {C : Addr} {N : List Str} {own : List (Str × Nat)} (h : BlkOk N scope scope2 own) : BlkOk N (X.blk s H scope (compEnvC scope cl C E) fp).env.scope scope2 own :=
  ⟨h.kind, h.uniq, h.ix, fun y hy e => lookup_rel (h.free y hy e), h.own⟩
end Mir

set_option Elab.async false
set_option linter.all false
set_option maxRecDepth 100000
namespace Mir
open PySem PySem.Spec PyProof.Rows L2
section
variable {K : PySem.W.Frag}
/-! ### sorted(a list of ints) -/
def insI (x : Int) : List Int → List Int
  | [] => [x]
  | y :: r => if x ≤ y then x :: y :: r else y :: insI x r
def sortI : List Int → List Int
  | [] => []
  | x :: r => insI x (sortI r)
theorem insI_perm (x : Int) : ∀ l, (insI x l).Perm (x :: l)
  | [] => .refl _
  | y :: r => by
    rw [insI]
    split
    · exact .refl _
    · exact ((insI_perm x r).cons y).trans (.swap x y r)
theorem sortI_perm : ∀ l, (sortI l).Perm l
  | [] => .refl _
  | x :: r => (insI_perm x _).trans ((sortI_perm r).cons x)
theorem insI_up (x : Int) : ∀ {l : List Int}, l.Pairwise (· ≤ ·) → (insI x l).Pairwise (· ≤ ·)
  | [], _ => by rw [insI]; simp
  | y :: r, h => by
    rw [insI]
    rw [List.pairwise_cons] at h
    split
    · rename_i q
      rw [List.pairwise_cons]
      refine ⟨fun z hz => ?_, List.pairwise_cons.mpr h⟩
      rcases List.mem_cons.mp hz with rfl | hz
      · exact q
      · exact Int.le_trans q (h.1 z hz)
    · rename_i q
      rw [List.pairwise_cons]
      refine ⟨fun z hz => ?_, insI_up x h.2⟩
      rcases List.mem_cons.mp ((insI_perm x r).mem_iff.mp hz) with rfl | hz
      · omega
      · exact h.1 z hz
theorem sortI_up : ∀ l, (sortI l).Pairwise (· ≤ ·)
  | [] => .nil
  | x :: r => insI_up x (sortI_up r)
theorem up_perm : ∀ {a b : List Int}, a.Perm b → a.Pairwise (· ≤ ·) → b.Pairwise (· ≤ ·) → a = b
  | [], b, p, _, _ => (List.nil_perm.mp p).symm
  | x :: a, [], p, _, _ => (by have := p.length_eq; simp at this)
  | x :: a, y :: b, p, ha, hb => by
    rw [List.pairwise_cons] at ha hb
    have h1 : x = y ∨ y ≤ x := by
      rcases List.mem_cons.mp (p.mem_iff.mp (List.mem_cons_self (a := x) (l := a))) with e | e
      · exact .inl e
      · exact .inr (hb.1 x e)
    have h2 : y = x ∨ x ≤ y := by
      rcases List.mem_cons.mp (p.mem_iff.mpr (List.mem_cons_self (a := y) (l := b))) with e | e
      · exact .inl e
      · exact .inr (ha.1 y e)
    have e : x = y := by omega
    subst e
    rw [up_perm ((List.perm_cons x).mp p) ha.2 hb.2]
theorem sortI_uniq {a l : List Int} (p : a.Perm l) (h : a.Pairwise (· ≤ ·)) : a = sortI l := up_perm (p.trans (sortI_perm l).symm) h (sortI_up l)
theorem RL.ints {m : List Addr} {H : Hp} : ∀ l : List Int, RL K m H (l.map W.int) (l.map V.int)
  | [] => .nil
  | x :: r => .cons (.int x) (RL.ints r)
def gSorted : List W → Sto → Rz W := fun ws s => match ws with
  | [x] => match lstOf x s with
    | some xs => match intsOf xs with
      | some is => some (.ref s.length, s ++ [.lst ((sortI is).map W.int)])
      | none => none
    | none => none
  | _ => none
theorem f_sorted : CallF K (rSortedI K) gSorted := by
  intro m H s ws vs Q S r h
  cases r with
  | nil => exact nopeE h
  | @cons x v ws vs r1 r2 =>
    cases r2 with
    | cons _ _ => exact nopeE h
    | nil =>
      cases es : lstOf x s with
      | none => exact nopeE' h (by simp only [gSorted, es])
      | some xs =>
        cases eb : intsOf xs with
        | none => exact nopeE' h (by simp only [gSorted, es, eb])
        | some is =>
          simp only [gSorted, es, eb] at h
          obtain ⟨p, ys, rfl, hs, r⟩ := lst_of S r1 es
          rw [ints_of r eb] at hs
          refine ⟨p, is, rfl, hs, fun ns' q hp hu hq => ?_⟩
          obtain ⟨w, s', e2, q2⟩ := h
          cases e2
          rw [sortI_uniq hp hu]
          exact new_lst S (RL.ints _) hq q2
end
end Mir

set_option Elab.async false
set_option linter.all false
set_option maxRecDepth 100000
namespace Mir
open PySem PySem.Spec PyProof.Rows L2
/-! ### written dicts with text keys -/
def CDct (K : PySem.W.Frag) (w : World) (mg : Str → Option Value) (x : Str) (tbl : List (Str × Option W)) : Prop :=
  ∃ (d : Addr) (es : Array DictEntry) (n : Nat), mg x = some (.ref d) ∧ KDict K w d es n ∧ ∀ z o, (z, o) ∈ tbl → match o with
    | some wv => ∃ u v, PySem.W.nsIn K d z = some (some u) ∧ RelV v u ∧ ∀ m H, R K m H wv v
    | none => PySem.W.nsIn K d z = some none
def tl (tbl : List (Str × Option W)) (z : Str) : Option (Option W) := (tbl.find? fun p => decide (p.1 = z)).map (·.2)
theorem tl_mem {tbl : List (Str × Option W)} {z : Str} {o : Option W} (h : tl tbl z = some o) : (z, o) ∈ tbl := by
  unfold tl at h
  cases e : tbl.find? (fun p => decide (p.1 = z)) with
  | none => rw [e] at h; cases h
  | some p =>
    rw [e] at h
    have h1 := List.find?_some e
    have h2 := List.mem_of_find?_eq_some e
    cases h
    have : p.1 = z := of_decide_eq_true h1
    rw [← this]
    exact h2
def tKGet2 (K : PySem.W.Frag) (d : Addr) (td ty tx : TE) : TE := fun σ H Q => td σ H fun x H1 => x = .ref d ∧ ty σ H1 fun y H2 => tx σ H2 fun z H3 =>
  ∃ (k : Str) (r : Option Value), y = .str k ∧ PySem.W.nsIn K d k = some r ∧ (∀ u, r = some u → ∃ v, RelV v u ∧ Q v H3) ∧ (r = none → Q z H3)
section
variable {X : Cx} {o e f a b i : Expr} {apos cpos pos : Pos} {td ty tx : TE} {d : Addr} {es : Array DictEntry} {n : Nat}
theorem pe_kget2 (D : KDict X.K X.w d es n) (ho : PE X o td) (he : PE X e ty) (hf : PE X f tx) (m : M2 X o "get" apos e f cpos) : PE X (.Call (.Attribute o "get" apos) [e, f] [] cpos) (tKGet2 X.K d td ty tx) := by
  refine ⟨fun pins s σ H Q I h => ?_⟩
  refine wpAny_Call_method m.base m.few m.line PySem.F.plainAttrs_dict PySem.F.slot_dict_get PySem.F.type_dict_get (thn (ho.run pins s σ H _ I h) fun u s1 ⟨x, H1, I1, rx, ex, q1⟩ => ?_)
  subst ex
  obtain rfl : u = Value.ref d := rx
  refine ⟨kd_type D I1, fun b eb => ?_, ?_⟩
  · cases eb
    exact ⟨_, I1.kIn _ _ D.at_, rfl⟩
  rw [m.trees]
  refine Calls.callWith_builtin rfl (Calls.evalArgs_plain (Calls.spliced_cons (thn (he.run pins s1 σ H1 _ I1 q1) fun iv s2 ⟨y, H2, I2, ry, q2⟩ =>
    Calls.spliced_cons (thn (hf.run pins s2 σ H2 _ I2 q2) fun fv s3 ⟨z, H3, I3, rz, k, r, ey, er, q3, q4⟩ => Calls.spliced_nil ?_))))
  subst ey
  obtain ⟨t, rfl⟩ := (show ∃ t, iv = Value.str k t from ry)
  refine call_meetsIn PySem.F.slot_dict_get (kd_type D I3) PySem.F.entry_dict_get (PySem.F.args_dict_get_3 _ _ _) (meets_dict_get_default (PySem.strKind X.prog X.w) d (PySem.strKind_is X.prog X.w k t) D.low fv)
    ⟨_, PySem.W.mapOf_K (prog := X.prog) (w := X.w) I3.kIn D.at_ D.lit, ?_⟩
  rw [PySem.W.find_K D.at_ er]
  cases r with
  | none => exact ⟨z, H3, I3.tok _, rz, q4 rfl⟩
  | some u =>
    obtain ⟨v, rv, qv⟩ := q3 u rfl
    exact ⟨v, H3, I3.tok _, rv, qv⟩
/-- C[k] -/
def eCget (tbl : List (Str × Option W)) (f : FE) : FE := fun ρ s => bd (f ρ s) fun x s1 => match x with
  | .str z => match tl tbl z with
    | some (some w) => some (w, s1)
    | _ => none
  | _ => none
theorem m_cget {x : Str} {tbl : List (Str × Option W)} {fb : FE} {p : Pos} (h : CDct X.K X.w X.mg x tbl) (hg : Gl X x) (hb : PE X b (tF X.K fb)) (hs : PlainIx b) (hd : (x == ("__debug__" : Str)) = false := by decide) : PE X (.Subscript (.Name x p) b pos) (tF X.K (eCget tbl fb)) := by
  obtain ⟨d, es, n, h1, D, ht⟩ := h
  refine (pe_ix ix_kdict (pe_glob (v := .ref d) hg h1 rfl hd) hb hs).imp fun σ H Q ⟨m, ρ, s, er, sr, w, s', e, q⟩ => ?_
  obtain ⟨y, s1, e1, e⟩ := bd_inv e
  refine ⟨m, ρ, s, er, sr, y, s1, e1, fun m1 H1 v A1 S1 r1 => ?_⟩
  cases r1 with
  | str z =>
    simp only [] at e
    cases et : tl tbl z with
    | none => rw [et] at e; cases e
    | some o =>
      cases o with
      | none => rw [et] at e; cases e
      | some w' =>
        rw [et] at e
        cases e
        obtain ⟨u, v, h2, h3, h4⟩ := ht z _ (tl_mem et)
        exact ⟨d, z, v, rfl, rfl, ⟨es, n, u, D.at_, D.lit, h2, h3⟩, q m1 H1 v A1 S1 (h4 m1 H1)⟩
  | _ => cases e
/-- C.get(k, x) -/
def eCget2 (tbl : List (Str × Option W)) (f g : FE) : FE := fun ρ s => bd (f ρ s) fun x s1 => bd (g ρ s1) fun y s2 => match x with
  | .str z => match tl tbl z with
    | some (some w) => some (w, s2)
    | some none => some (y, s2)
    | _ => none
  | _ => none
theorem m_cget2 {x : Str} {tbl : List (Str × Option W)} {fe ff : FE} {p : Pos} (h : CDct X.K X.w X.mg x tbl) (hg : Gl X x) (he : PE X e (tF X.K fe)) (hf : PE X f (tF X.K ff)) (M : M2 X (.Name x p) "get" apos e f cpos) (hd : (x == ("__debug__" : Str)) = false := by decide) : PE X (.Call (.Attribute (.Name x p) "get" apos) [e, f] [] cpos) (tF X.K (eCget2 tbl fe ff)) := by
  obtain ⟨d, es, n, h1, D, ht⟩ := h
  refine (pe_kget2 D (pe_glob (v := .ref d) hg h1 rfl hd) he hf M).imp fun σ H Q ⟨m, ρ, s, er, sr, w, s', e, q⟩ => ?_
  obtain ⟨y, s1, e1, e⟩ := bd_inv e
  obtain ⟨z, s2, e2, e⟩ := bd_inv e
  refine ⟨rfl, m, ρ, s, er, sr, y, s1, e1, fun m1 H1 v A1 S1 r1 => ⟨m1, ρ, s1, er.adv A1, S1, z, s2, e2, fun m2 H2 u A2 S2 r2 => ?_⟩⟩
  cases r1 with
  | str k =>
    simp only [] at e
    cases et : tl tbl k with
    | none => rw [et] at e; cases e
    | some o =>
      rw [et] at e
      have hm := ht k o (tl_mem et)
      cases o with
      | none =>
        cases e
        exact ⟨k, none, rfl, hm, fun _ h => (by cases h), fun _ => q m2 H2 _ (A1.trans A2) S2 r2⟩
      | some w' =>
        cases e
        obtain ⟨u', v', h2, h3, h4⟩ := hm
        exact ⟨k, some u', rfl, h2, fun _ h => by cases h; exact ⟨v', h3, q m2 H2 _ (A1.trans A2) S2 (h4 m2 H2)⟩, fun h => (by cases h)⟩
  | _ => cases e
/-- k in C, k not in C -/
def eCin (neg : Bool) (tbl : List (Str × Option W)) (f : FE) : FE := fun ρ s => bd (f ρ s) fun x s1 => match x with
  | .str z => match tl tbl z with
    | some o => some (.bl (if neg then !o.isSome else o.isSome), s1)
    | none => none
  | _ => none
theorem cin_of {K : PySem.W.Frag} {w : World} {neg : Bool} {d : Addr} {es : Array DictEntry} {n : Nat} {tbl : List (Str × Option W)} {f : FE}
    (ht : ∀ z o, (z, o) ∈ tbl → match o with
    | some wv => ∃ u v, PySem.W.nsIn K d z = some (some u) ∧ RelV v u ∧ ∀ m H, R K m H wv v
    | none => PySem.W.nsIn K d z = some none) : ∀ σ H Q, tF K (eCin neg tbl f) σ H Q → (tF K f) σ H fun x H1 => ∃ (z : Str) (r : Option Value), x = .str z ∧ PySem.W.nsIn K d z = some r ∧ Q (.bl (if neg then !r.isSome else r.isSome)) H1 := by
  rintro σ H Q ⟨m, ρ, s, er, sr, w', s', e, q⟩
  obtain ⟨y, s1, e1, e⟩ := bd_inv e
  refine ⟨m, ρ, s, er, sr, y, s1, e1, fun m1 H1 v A1 S1 r1 => ?_⟩
  cases r1 with
  | str z =>
    simp only [] at e
    cases et : tl tbl z with
    | none => rw [et] at e; cases e
    | some o =>
      rw [et] at e
      cases e
      have hm := ht z o (tl_mem et)
      cases o with
      | none => exact ⟨z, none, rfl, hm, q m1 H1 _ A1 S1 (.bl _)⟩
      | some wv =>
        obtain ⟨u, v, h2, _⟩ := hm
        exact ⟨z, some u, rfl, h2, q m1 H1 _ A1 S1 (.bl _)⟩
  | _ => cases e
theorem m_cin {x : Str} {tbl : List (Str × Option W)} {fa : FE} {p : Pos} (h : CDct X.K X.w X.mg x tbl) (hg : Gl X x) (ha : PE X a (tF X.K fa)) (hm : behindInMarks .In (.Name x p) = false := by first | exact nobehind _ (by decide) (by decide) | rfl) (hd : (x == ("__debug__" : Str)) = false := by decide) : PE X (.Compare a [.In] [.Name x p] pos) (tF X.K (eCin false tbl fa)) := by
  obtain ⟨d, es, n, h1, D, ht⟩ := h
  refine (pe_cmpR (op_in_kd D) ha (pe_glob (v := .ref d) hg h1 rfl hd) hm).imp fun σ H Q h => ?_
  obtain ⟨m, ρ, s, er, sr, y, s1, e1, q⟩ := cin_of (w := X.w) (es := es) (n := n) ht σ H Q h
  refine ⟨m, ρ, s, er, sr, y, s1, e1, fun m1 H1 v A1 S1 r1 => ?_⟩
  obtain ⟨z, r, rfl, h2, q⟩ := q m1 H1 v A1 S1 r1
  exact ⟨z, r, rfl, rfl, h2, q⟩
theorem m_cnotin {x : Str} {tbl : List (Str × Option W)} {fa : FE} {p : Pos} (h : CDct X.K X.w X.mg x tbl) (hg : Gl X x) (ha : PE X a (tF X.K fa)) (hm : behindInMarks .NotIn (.Name x p) = false := by first | exact nobehind _ (by decide) (by decide) | rfl) (hd : (x == ("__debug__" : Str)) = false := by decide) : PE X (.Compare a [.NotIn] [.Name x p] pos) (tF X.K (eCin true tbl fa)) := by
  obtain ⟨d, es, n, h1, D, ht⟩ := h
  refine (pe_cmpR (op_notIn_kd D) ha (pe_glob (v := .ref d) hg h1 rfl hd) hm).imp fun σ H Q h => ?_
  obtain ⟨m, ρ, s, er, sr, y, s1, e1, q⟩ := cin_of (w := X.w) (es := es) (n := n) ht σ H Q h
  refine ⟨m, ρ, s, er, sr, y, s1, e1, fun m1 H1 v A1 S1 r1 => ?_⟩
  obtain ⟨z, r, rfl, h2, q⟩ := q m1 H1 v A1 S1 r1
  exact ⟨z, r, rfl, rfl, h2, q⟩
theorem mt_cin {x : Str} {tbl : List (Str × Option W)} {fa : FE} {p : Pos} (h : CDct X.K X.w X.mg x tbl) (hg : Gl X x) (ha : PE X a (tF X.K fa)) (hm : behindInMarks .In (.Name x p) = false := by first | exact nobehind _ (by decide) (by decide) | rfl) (hd : (x == ("__debug__" : Str)) = false := by decide) : PT X (.Compare a [.In] [.Name x p] pos) (tT X.K (bTest (eCin false tbl fa))) := by
  obtain ⟨d, es, n, h1, D, ht⟩ := h
  refine (pt_cmpR (op_in_kd D) ha (pe_glob (v := .ref d) hg h1 rfl hd) hm).imp fun σ H Q h => ?_
  obtain ⟨m, ρ, s, er, sr, y, s1, e1, q⟩ := cin_of (w := X.w) (es := es) (n := n) ht σ H _ (tT_test σ H Q h)
  refine ⟨m, ρ, s, er, sr, y, s1, e1, fun m1 H1 v A1 S1 r1 => ?_⟩
  obtain ⟨z, r, rfl, h2, q⟩ := q m1 H1 v A1 S1 r1
  exact ⟨z, r, rfl, rfl, h2, q⟩
theorem mt_cnotin {x : Str} {tbl : List (Str × Option W)} {fa : FE} {p : Pos} (h : CDct X.K X.w X.mg x tbl) (hg : Gl X x) (ha : PE X a (tF X.K fa)) (hm : behindInMarks .NotIn (.Name x p) = false := by first | exact nobehind _ (by decide) (by decide) | rfl) (hd : (x == ("__debug__" : Str)) = false := by decide) : PT X (.Compare a [.NotIn] [.Name x p] pos) (tT X.K (bTest (eCin true tbl fa))) := by
  obtain ⟨d, es, n, h1, D, ht⟩ := h
  refine (pt_cmpR (op_notIn_kd D) ha (pe_glob (v := .ref d) hg h1 rfl hd) hm).imp fun σ H Q h => ?_
  obtain ⟨m, ρ, s, er, sr, y, s1, e1, q⟩ := cin_of (w := X.w) (es := es) (n := n) ht σ H _ (tT_test σ H Q h)
  refine ⟨m, ρ, s, er, sr, y, s1, e1, fun m1 H1 v A1 S1 r1 => ?_⟩
  obtain ⟨z, r, rfl, h2, q⟩ := q m1 H1 v A1 S1 r1
  exact ⟨z, r, rfl, rfl, h2, q⟩
/-! ### xs.index(y), data of any depth -/
def isLl (x : W) (s : Sto) : Bool := (lstOf x s).isSome
theorem isLl_ty {K : PySem.W.Frag} {m : List Addr} {H : Hp} {s : Sto} {x : W} {v : V} (S : SR K m H s) (r : R K m H x v) (h : isLl x s = true) : tyV K "list" v H := by
  unfold isLl at h
  cases e : lstOf x s with
  | none => rw [e] at h; cases h
  | some ws =>
    obtain ⟨p, vs, rfl, h1, _⟩ := lst_of S r e
    exact .inl ⟨rfl, vs, h1⟩
def gIndex : W → List W → Sto → Rz W := fun x as s => match as with
  | [y] => match pyS s 3 x, pyS s 3 y with
    | some (.list ds), some d => if SeqAt.shaped (.list ds) = true ∧ SeqAt.shaped d = true then match ds.findIdx? (fun z => PyData.eqv z d) with
        | some j => some (.int (j : Int), s)
        | none => none
      else none
    | _, _ => none
  | _ => none
theorem f_index {K : PySem.W.Frag} : MtF K (rIndexD K) gIndex := by
  intro m H s x v ws vs Q S rx rs h
  cases rs with
  | nil => exact nopeE h
  | @cons y u ws vs r1 r2 =>
    cases r2 with
    | cons _ _ => exact nopeE h
    | nil =>
      cases e1 : pyS s 3 x with
      | none => exact nopeE' h (by simp only [gIndex, e1])
      | some dx =>
        cases e2 : pyS s 3 y with
        | none => exact nopeE' h (by cases dx <;> simp only [gIndex, e1, e2])
        | some d =>
          cases dx with
          | list ds =>
            by_cases hs : SeqAt.shaped (.list ds) = true ∧ SeqAt.shaped d = true
            · cases ef : ds.findIdx? (fun z => PyData.eqv z d) with
              | none => exact nopeE' h (by simp only [gIndex, e1, e2, hs, and_self, if_true, ef])
              | some j =>
                simp only [gIndex, e1, e2, hs, and_self, if_true, ef] at h
                have hx := dpS_of S rx e1
                have hy := dpS_of S r1 e2
                obtain ⟨hj, hz, hb⟩ := List.findIdx?_eq_some_iff_getElem.mp ef
                have vx : ∃ a, v = V.ref a := by cases hx; exact ⟨_, rfl⟩
                obtain ⟨a, rfl⟩ := vx
                refine ⟨a, u, d, ds, j, ds[j], rfl, rfl, hx, hy, hs.1, hs.2, List.getElem?_eq_getElem hj, hz, fun m' z' hm ez => ?_, h.val S _ (.int _)⟩
                have hl := (List.getElem?_eq_some_iff.mp ez).1
                have := hb m' hm
                obtain ⟨_, e⟩ := List.getElem?_eq_some_iff.mp ez
                rw [e] at this
                simpa using this
            · exact nopeE' h (by simp only [gIndex, e1, e2, hs, if_false])
          | _ => exact nopeE' h (by simp only [gIndex, e1, e2])
/-! ### what is never reached -/
def sNever : FS := fun _ _ => none
theorem ms_never {st : Stmt} : PS X st (tS X.K sNever) := ps_never.imp fun D σ H ⟨m, ρ, s, er, sr, o, s', e, q⟩ => by cases e
end
end Mir

set_option Elab.async false
set_option linter.all false
set_option maxRecDepth 100000
namespace Mir
open PySem PySem.Spec PyProof.Rows L2
/-! ### what a run of a mirror promises -/
def Wp {α : Type} (x : Rz α) (Q : α → Sto → Prop) : Prop := ∃ a s, x = some (a, s) ∧ Q a s
theorem Wp.mono {α : Type} {x : Rz α} {Q Q' : α → Sto → Prop} (h : Wp x Q) (q : ∀ a s, Q a s → Q' a s) : Wp x Q' := by
  obtain ⟨a, s, e, h⟩ := h
  exact ⟨a, s, e, q a s h⟩
theorem Wp.of {α : Type} {x : Rz α} {Q : α → Sto → Prop} {a : α} {s : Sto} (e : x = some (a, s)) (h : Q a s) : Wp x Q := ⟨a, s, e, h⟩
theorem wp_some {α : Type} {a : α} {s : Sto} {Q : α → Sto → Prop} : Wp (some (a, s)) Q = Q a s := propext ⟨fun ⟨_, _, e, h⟩ => by cases e; exact h, fun h => ⟨_, _, rfl, h⟩⟩
theorem wp_none {α : Type} {Q : α → Sto → Prop} : Wp (none : Rz α) Q = False := propext ⟨fun ⟨_, _, e, _⟩ => (by cases e), fun h => h.elim⟩
theorem wp_bd {α β : Type} {x : Rz α} {f : α → Sto → Rz β} {Q : β → Sto → Prop} : Wp (bd x f) Q = Wp x (fun a s => Wp (f a s) Q) := propext ⟨fun ⟨b, s, e, h⟩ => by
    obtain ⟨a, s1, e1, e2⟩ := bd_inv e
    exact ⟨a, s1, e1, b, s, e2, h⟩, fun ⟨a, s1, e1, b, s, e2, h⟩ => ⟨b, s, by rw [e1, bd_some, e2], h⟩⟩
theorem wp_ite {α : Type} {c : Prop} [Decidable c] {x y : Rz α} {Q : α → Sto → Prop} : Wp (if c then x else y) Q = if c then Wp x Q else Wp y Q := by split <;> rfl
/-! ### statements -/
/-- the statements of a list, one after the other -/
def runS : List FS → FS
  | [] => sNil
  | f :: r => sCons f (runS r)
def WpS (fs : List FS) (ρ : EnvM) (s : Sto) (Q : Out → Sto → Prop) : Prop := Wp (runS fs ρ s) Q
section
variable {fs : List FS} {f g : FS} {ρ : EnvM} {s : Sto} {Q : Out → Sto → Prop} {i j : Nat} {e : FE} {t : FT}
theorem wps_nil : WpS [] ρ s Q = Q (.nx ρ) s := wp_some
theorem wps_cut : WpS (f :: fs) ρ s Q = Wp (f ρ s) (fun o s1 => match o with | .nx ρ1 => WpS fs ρ1 s1 Q | o => Q o s1) := by
  unfold WpS
  rw [runS]
  unfold sCons
  rw [wp_bd]
  congr
  funext o s1
  cases o <;> first | rfl | simp only [wp_some]
theorem wps_one : WpS [f] ρ s Q = Wp (f ρ s) Q := by
  rw [wps_cut]
  congr
  funext o s1
  cases o <;> simp only [wps_nil]
theorem wps_cons : WpS (sCons f g :: fs) ρ s Q = WpS (f :: g :: fs) ρ s Q := by
  rw [wps_cut, wps_cut]
  unfold sCons
  rw [wp_bd]
  congr
  funext o s1
  cases o with
  | nx ρ1 => show Wp (g ρ1 s1) _ = WpS (g :: fs) ρ1 s1 Q; rw [wps_cut]
  | _ => simp only [wp_some]
theorem wps_pass : WpS (sNil :: fs) ρ s Q = WpS fs ρ s Q := by rw [wps_cut]; unfold sNil; rw [wp_some]
theorem wps_set : WpS (sSet i e :: fs) ρ s Q = Wp (e ρ s) (fun w s1 => WpS fs (ρ.set i (some w)) s1 Q) := by
  rw [wps_cut]; unfold sSet; rw [wp_bd]; simp only [wp_some]
theorem wps_do : WpS (sDo e :: fs) ρ s Q = Wp (e ρ s) (fun _ s1 => WpS fs ρ s1 Q) := by
  rw [wps_cut]; unfold sDo; rw [wp_bd]; simp only [wp_some]
theorem wps_ret : WpS (sRet e :: fs) ρ s Q = Wp (e ρ s) (fun w s1 => Q (.rt w) s1) := by
  rw [wps_cut]; unfold sRet; rw [wp_bd]; simp only [wp_some]
theorem wps_retN : WpS (sRetN :: fs) ρ s Q = Q (.rt .non) s := by
  rw [wps_cut]; unfold sRetN; rw [wp_some]
theorem wps_brk : WpS (sBrk :: fs) ρ s Q = Q (.bk ρ) s := by
  rw [wps_cut]; unfold sBrk; rw [wp_some]
theorem wps_cnt : WpS (sCnt :: fs) ρ s Q = Q (.ct ρ) s := by
  rw [wps_cut]; unfold sCnt; rw [wp_some]
theorem wps_if : WpS (sIf t f g :: fs) ρ s Q = Wp (t ρ s) (fun k s1 => if k = true then WpS (f :: fs) ρ s1 Q else WpS (g :: fs) ρ s1 Q) := by
  rw [wps_cut]; unfold sIf; rw [wp_bd]
  congr
  funext k s1
  rw [wp_ite, wps_cut, wps_cut]
theorem wps_asg {t : Tg} : WpS (sAsg t e :: fs) ρ s Q = Wp (e ρ s) (fun w s1 => match tgM t w ρ with | some ρ1 => WpS fs ρ1 s1 Q | none => False) := by
  rw [wps_cut]; unfold sAsg; rw [wp_bd]
  congr
  funext w s1
  cases tgM t w ρ with
  | none => simp only [wp_none]
  | some ρ1 => simp only [wp_some]
theorem wps_put {o i v : FE} : WpS (sPut o i v :: fs) ρ s Q = Wp (v ρ s) (fun w s1 => Wp (o ρ s1) (fun x s2 => Wp (i ρ s2) (fun y s3 => match setAt x y w s3 with | some s4 => WpS fs ρ s4 Q | none => False))) := by
  rw [wps_cut]; unfold sPut; simp only [wp_bd]
  congr; funext w s1; congr; funext x s2; congr; funext y s3
  cases setAt x y w s3 with
  | none => simp only [wp_none]
  | some ρ1 => simp only [wp_some]
theorem wps_dput {o i v : FE} : WpS (sDput o i v :: fs) ρ s Q = Wp (v ρ s) (fun w s1 => Wp (o ρ s1) (fun x s2 => Wp (i ρ s2) (fun y s3 => match dcOf x s3, keyW y with | some (n, kvs), some k => kvs.length ≤ 100000 ∧ WpS fs ρ (s3.set n (.dct (put kvs k w))) Q | _, _ => False))) := by
  rw [wps_cut]; unfold sDput; simp only [wp_bd]
  congr; funext w s1; congr; funext x s2; congr; funext y s3
  cases dcOf x s3 with
  | none => simp only [wp_none]
  | some p =>
    cases keyW y with
    | none => simp only [wp_none]
    | some k =>
      simp only [wp_ite, wp_some, wp_none]
      split
      · rename_i h; exact propext ⟨fun q => ⟨h, q⟩, fun q => q.2⟩
      · rename_i h; exact propext ⟨fun q => q.elim, fun q => h q.1⟩
theorem wps_aug {g : W → W → Sto → Rz W} : WpS (sAug i g e :: fs) ρ s Q = (match ρ[i]? with | some (some x) => Wp (e ρ s) (fun y s1 => Wp (g x y s1) (fun z s2 => WpS fs (ρ.set i (some z)) s2 Q)) | _ => False) := by
  rw [wps_cut]; unfold sAug
  cases hx : ρ[i]? with
  | none => simp only [hx, wp_none]
  | some o =>
    cases o with
    | none => simp only [hx, wp_none]
    | some x => simp only [hx, wp_bd, wp_some]
theorem wps_par {a : FA} : WpS (sPar i j a :: fs) ρ s Q = Wp (a ρ s) (fun ws s1 => match ws with | [v, w] => WpS fs ((ρ.set i (some v)).set j (some w)) s1 Q | _ => False) := by
  rw [wps_cut]; unfold sPar; rw [wp_bd]
  congr; funext ws s1
  split <;> simp only [wp_some, wp_none]
theorem wps_mid {M : EnvM → Sto → Prop} (h1 : WpS [f] ρ s (fun o s1 => match o with | .nx ρ1 => M ρ1 s1 | o => Q o s1)) (h2 : ∀ ρ1 s1, M ρ1 s1 → WpS fs ρ1 s1 Q) : WpS (f :: fs) ρ s Q := by
  rw [wps_one] at h1
  rw [wps_cut]
  refine h1.mono fun o s1 q => ?_
  cases o with
  | nx ρ1 => exact h2 ρ1 s1 q
  | _ => exact q
/-- a walk -/
def QL (fs : List FS) (I : EnvM → Sto → Prop) (Q : Out → Sto → Prop) : Out → Sto → Prop := fun o s => match o with
  | .nx ρ => I ρ s
  | .ct ρ => I ρ s
  | .bk ρ => WpS fs ρ s Q
  | .rt w => Q (.rt w) s
theorem ql_nx {I : EnvM → Sto → Prop} : QL fs I Q (.nx ρ) s = I ρ s := rfl
theorem ql_ct {I : EnvM → Sto → Prop} : QL fs I Q (.ct ρ) s = I ρ s := rfl
theorem ql_bk {I : EnvM → Sto → Prop} : QL fs I Q (.bk ρ) s = WpS fs ρ s Q := rfl
theorem ql_rt {I : EnvM → Sto → Prop} {w : W} : QL fs I Q (.rt w) s = Q (.rt w) s := rfl
theorem wps_for {it : FI} {t : Tg} : WpS (sFor it t f :: fs) ρ s Q = Wp (it ρ s) (fun x s1 => Wp (fo t f x.2 x.1 ρ s1) (fun o s2 => match o with | .nx ρ1 => WpS fs ρ1 s2 Q | o => Q o s2)) := by
  rw [wps_cut]; unfold sFor; rw [wp_bd]
theorem wp_fo {t : Tg} {c : Option (Nat × List W)} (I : Nat → EnvM → Sto → Prop) : ∀ (xs : List W) (k : Nat) (ρ : EnvM) (s : Sto), I k ρ s →
    (∀ (i : Nat) (x : W) (ρ : EnvM) (s : Sto), xs[i]? = some x → I (k + i) ρ s → okc c s ∧ ∃ ρ1, tgM t x ρ = some ρ1 ∧ WpS [f] ρ1 s (QL fs (fun ρ2 s2 => I (k + i + 1) ρ2 s2) Q)) →
    (∀ ρ s, I (k + xs.length) ρ s → okc c s ∧ WpS fs ρ s Q) → Wp (fo t f c xs ρ s) (fun o s2 => match o with | .nx ρ1 => WpS fs ρ1 s2 Q | o => Q o s2)
  | [], k, ρ, s, h0, _, he => by
    obtain ⟨h1, h2⟩ := he ρ s h0
    rw [fo, if_pos h1, wp_some]
    exact h2
  | x :: xs, k, ρ, s, h0, hs, he => by
    obtain ⟨h1, ρ1, h2, h3⟩ := hs 0 x ρ s rfl h0
    rw [fo, if_pos h1, h2]
    simp only [wp_bd]
    rw [wps_one] at h3
    refine h3.mono fun o s2 q => ?_
    have go : ∀ ρ2, I (k + 1) ρ2 s2 → Wp (fo t f c xs ρ2 s2) (fun o s2 => match o with | .nx ρ1 => WpS fs ρ1 s2 Q | o => Q o s2) := fun ρ2 q =>
      wp_fo I xs (k + 1) ρ2 s2 q (fun i y ρ s hy hi => by
        have e : k + 1 + i = k + (i + 1) := by omega
        rw [e] at hi ⊢
        exact hs (i + 1) y ρ s hy hi) fun ρ s hi => he ρ s (by rw [List.length_cons]; rw [show k + (xs.length + 1) = k + 1 + xs.length by omega]; exact hi)
    cases o with
    | nx ρ2 => exact go ρ2 q
    | ct ρ2 => exact go ρ2 q
    | bk ρ2 => simp only [wp_some]; exact q
    | rt w => simp only [wp_some]; exact q
theorem wps_wh {n : EnvM → Sto → Nat} : WpS (sWh n t f :: fs) ρ s Q = Wp (wh t f (n ρ s) ρ s) (fun o s2 => match o with | .nx ρ1 => WpS fs ρ1 s2 Q | o => Q o s2) := by
  rw [wps_cut]; unfold sWh; rfl
/-- while, with a number that goes down -/
theorem wp_wh (I : Nat → EnvM → Sto → Prop) (hs : ∀ (m : Nat) (ρ : EnvM) (s : Sto), I m ρ s → Wp (t ρ s) (fun k s1 => if k = true then WpS [f] ρ s1 (QL fs (fun ρ2 s2 => ∃ m', m' < m ∧ I m' ρ2 s2) Q) else WpS fs ρ s1 Q)) :
    ∀ (n m : Nat) (ρ : EnvM) (s : Sto), m < n → I m ρ s → Wp (wh t f n ρ s) (fun o s2 => match o with | .nx ρ1 => WpS fs ρ1 s2 Q | o => Q o s2)
  | 0, m, ρ, s, h, _ => absurd h (Nat.not_lt_zero m)
  | n + 1, m, ρ, s, h, h0 => by
    rw [wh, wp_bd]
    refine (hs m ρ s h0).mono fun k s1 q => ?_
    cases k with
    | false => simp only [Bool.false_eq_true, if_false, wp_some] at q ⊢; exact q
    | true =>
      simp only [if_true, wp_bd] at q ⊢
      rw [wps_one] at q
      refine q.mono fun o s2 q => ?_
      have go : ∀ ρ2, (∃ m', m' < m ∧ I m' ρ2 s2) → Wp (wh t f n ρ2 s2) (fun o s2 => match o with | .nx ρ1 => WpS fs ρ1 s2 Q | o => Q o s2) := fun ρ2 ⟨m', h', q⟩ => wp_wh I hs n m' ρ2 s2 (by omega) q
      cases o with
      | nx ρ2 => exact go ρ2 q
      | ct ρ2 => exact go ρ2 q
      | bk ρ2 => simp only [wp_some]; exact q
      | rt w => simp only [wp_some]; exact q
/-! ### displays -/
theorem wp_tupG {f : FA} {ρ : EnvM} {s : Sto} {Q : W → Sto → Prop} : Wp (eTup f ρ s) Q = Wp (f ρ s) (fun ws s1 => ws.length ≤ 100000 ∧ Q (.tup ws) s1) := by
  unfold eTup
  rw [wp_bd]
  congr; funext ws s1
  rw [wp_ite, wp_some, wp_none]
  split
  · rename_i h; exact propext ⟨fun q => ⟨h, q⟩, fun q => q.2⟩
  · rename_i h; exact propext ⟨fun q => q.elim, fun q => h q.1⟩
theorem wp_lstG {f : FA} {ρ : EnvM} {s : Sto} {Q : W → Sto → Prop} : Wp (eLst f ρ s) Q = Wp (f ρ s) (fun ws s1 => ws.length ≤ 100000 ∧ Q (.ref s1.length) (s1 ++ [.lst ws])) := by
  unfold eLst
  rw [wp_bd]
  congr; funext ws s1
  rw [wp_ite, wp_some, wp_none]
  split
  · rename_i h; exact propext ⟨fun q => ⟨h, q⟩, fun q => q.2⟩
  · rename_i h; exact propext ⟨fun q => q.elim, fun q => h q.1⟩
theorem wp_tup0 {ρ : EnvM} {s : Sto} {Q : W → Sto → Prop} : Wp (eTup aNil ρ s) Q = Q (.tup []) s := by
  have h : (([] : List W).length ≤ 100000) = True := eq_true (Nat.zero_le _)
  rw [wp_tupG]
  simp only [aCons, aNil, wp_bd, wp_some, h, true_and]
theorem wp_tup1 {f0 : FE} {ρ : EnvM} {s : Sto} {Q : W → Sto → Prop} : Wp (eTup (aCons f0 aNil) ρ s) Q = Wp (f0 ρ s) (fun a0 s0 => Q (.tup [a0]) s0) := by
  have h : ∀ a0 : W, (([a0] : List W).length ≤ 100000) = True := fun a0 => eq_true (Nat.le_of_ble_eq_true rfl)
  rw [wp_tupG]
  simp only [aCons, aNil, wp_bd, wp_some, h, true_and]
theorem wp_tup2 {f0 f1 : FE} {ρ : EnvM} {s : Sto} {Q : W → Sto → Prop} : Wp (eTup (aCons f0 (aCons f1 aNil)) ρ s) Q = Wp (f0 ρ s) (fun a0 s0 => Wp (f1 ρ s0) (fun a1 s1 => Q (.tup [a0, a1]) s1)) := by
  have h : ∀ a0 a1 : W, (([a0, a1] : List W).length ≤ 100000) = True := fun a0 a1 => eq_true (Nat.le_of_ble_eq_true rfl)
  rw [wp_tupG]
  simp only [aCons, aNil, wp_bd, wp_some, h, true_and]
theorem wp_tup3 {f0 f1 f2 : FE} {ρ : EnvM} {s : Sto} {Q : W → Sto → Prop} : Wp (eTup (aCons f0 (aCons f1 (aCons f2 aNil))) ρ s) Q = Wp (f0 ρ s) (fun a0 s0 => Wp (f1 ρ s0) (fun a1 s1 => Wp (f2 ρ s1) (fun a2 s2 => Q (.tup [a0, a1, a2]) s2))) := by
  have h : ∀ a0 a1 a2 : W, (([a0, a1, a2] : List W).length ≤ 100000) = True := fun a0 a1 a2 => eq_true (Nat.le_of_ble_eq_true rfl)
  rw [wp_tupG]
  simp only [aCons, aNil, wp_bd, wp_some, h, true_and]
theorem wp_tup4 {f0 f1 f2 f3 : FE} {ρ : EnvM} {s : Sto} {Q : W → Sto → Prop} : Wp (eTup (aCons f0 (aCons f1 (aCons f2 (aCons f3 aNil)))) ρ s) Q = Wp (f0 ρ s) (fun a0 s0 => Wp (f1 ρ s0) (fun a1 s1 => Wp (f2 ρ s1) (fun a2 s2 => Wp (f3 ρ s2) (fun a3 s3 => Q (.tup [a0, a1, a2, a3]) s3)))) := by
  have h : ∀ a0 a1 a2 a3 : W, (([a0, a1, a2, a3] : List W).length ≤ 100000) = True := fun a0 a1 a2 a3 => eq_true (Nat.le_of_ble_eq_true rfl)
  rw [wp_tupG]
  simp only [aCons, aNil, wp_bd, wp_some, h, true_and]
theorem wp_tup5 {f0 f1 f2 f3 f4 : FE} {ρ : EnvM} {s : Sto} {Q : W → Sto → Prop} : Wp (eTup (aCons f0 (aCons f1 (aCons f2 (aCons f3 (aCons f4 aNil))))) ρ s) Q = Wp (f0 ρ s) (fun a0 s0 => Wp (f1 ρ s0) (fun a1 s1 => Wp (f2 ρ s1) (fun a2 s2 => Wp (f3 ρ s2) (fun a3 s3 => Wp (f4 ρ s3) (fun a4 s4 => Q (.tup [a0, a1, a2, a3, a4]) s4))))) := by
  have h : ∀ a0 a1 a2 a3 a4 : W, (([a0, a1, a2, a3, a4] : List W).length ≤ 100000) = True := fun a0 a1 a2 a3 a4 => eq_true (Nat.le_of_ble_eq_true rfl)
  rw [wp_tupG]
  simp only [aCons, aNil, wp_bd, wp_some, h, true_and]
theorem wp_tup6 {f0 f1 f2 f3 f4 f5 : FE} {ρ : EnvM} {s : Sto} {Q : W → Sto → Prop} : Wp (eTup (aCons f0 (aCons f1 (aCons f2 (aCons f3 (aCons f4 (aCons f5 aNil)))))) ρ s) Q = Wp (f0 ρ s) (fun a0 s0 => Wp (f1 ρ s0) (fun a1 s1 => Wp (f2 ρ s1) (fun a2 s2 => Wp (f3 ρ s2) (fun a3 s3 => Wp (f4 ρ s3) (fun a4 s4 => Wp (f5 ρ s4) (fun a5 s5 => Q (.tup [a0, a1, a2, a3, a4, a5]) s5)))))) := by
  have h : ∀ a0 a1 a2 a3 a4 a5 : W, (([a0, a1, a2, a3, a4, a5] : List W).length ≤ 100000) = True := fun a0 a1 a2 a3 a4 a5 => eq_true (Nat.le_of_ble_eq_true rfl)
  rw [wp_tupG]
  simp only [aCons, aNil, wp_bd, wp_some, h, true_and]
theorem wp_tup7 {f0 f1 f2 f3 f4 f5 f6 : FE} {ρ : EnvM} {s : Sto} {Q : W → Sto → Prop} : Wp (eTup (aCons f0 (aCons f1 (aCons f2 (aCons f3 (aCons f4 (aCons f5 (aCons f6 aNil))))))) ρ s) Q = Wp (f0 ρ s) (fun a0 s0 => Wp (f1 ρ s0) (fun a1 s1 => Wp (f2 ρ s1) (fun a2 s2 => Wp (f3 ρ s2) (fun a3 s3 => Wp (f4 ρ s3) (fun a4 s4 => Wp (f5 ρ s4) (fun a5 s5 => Wp (f6 ρ s5) (fun a6 s6 => Q (.tup [a0, a1, a2, a3, a4, a5, a6]) s6))))))) := by
  have h : ∀ a0 a1 a2 a3 a4 a5 a6 : W, (([a0, a1, a2, a3, a4, a5, a6] : List W).length ≤ 100000) = True := fun a0 a1 a2 a3 a4 a5 a6 => eq_true (Nat.le_of_ble_eq_true rfl)
  rw [wp_tupG]
  simp only [aCons, aNil, wp_bd, wp_some, h, true_and]
theorem wp_lst0 {ρ : EnvM} {s : Sto} {Q : W → Sto → Prop} : Wp (eLst aNil ρ s) Q = Q (.ref s.length) (s ++ [.lst []]) := by
  have h : (([] : List W).length ≤ 100000) = True := eq_true (Nat.zero_le _)
  rw [wp_lstG]
  simp only [aCons, aNil, wp_bd, wp_some, h, true_and]
theorem wp_lst1 {f0 : FE} {ρ : EnvM} {s : Sto} {Q : W → Sto → Prop} : Wp (eLst (aCons f0 aNil) ρ s) Q = Wp (f0 ρ s) (fun a0 s0 => Q (.ref s0.length) (s0 ++ [.lst [a0]])) := by
  have h : ∀ a0 : W, (([a0] : List W).length ≤ 100000) = True := fun a0 => eq_true (Nat.le_of_ble_eq_true rfl)
  rw [wp_lstG]
  simp only [aCons, aNil, wp_bd, wp_some, h, true_and]
theorem wp_lst2 {f0 f1 : FE} {ρ : EnvM} {s : Sto} {Q : W → Sto → Prop} : Wp (eLst (aCons f0 (aCons f1 aNil)) ρ s) Q = Wp (f0 ρ s) (fun a0 s0 => Wp (f1 ρ s0) (fun a1 s1 => Q (.ref s1.length) (s1 ++ [.lst [a0, a1]]))) := by
  have h : ∀ a0 a1 : W, (([a0, a1] : List W).length ≤ 100000) = True := fun a0 a1 => eq_true (Nat.le_of_ble_eq_true rfl)
  rw [wp_lstG]
  simp only [aCons, aNil, wp_bd, wp_some, h, true_and]
theorem wp_lst3 {f0 f1 f2 : FE} {ρ : EnvM} {s : Sto} {Q : W → Sto → Prop} : Wp (eLst (aCons f0 (aCons f1 (aCons f2 aNil))) ρ s) Q = Wp (f0 ρ s) (fun a0 s0 => Wp (f1 ρ s0) (fun a1 s1 => Wp (f2 ρ s1) (fun a2 s2 => Q (.ref s2.length) (s2 ++ [.lst [a0, a1, a2]])))) := by
  have h : ∀ a0 a1 a2 : W, (([a0, a1, a2] : List W).length ≤ 100000) = True := fun a0 a1 a2 => eq_true (Nat.le_of_ble_eq_true rfl)
  rw [wp_lstG]
  simp only [aCons, aNil, wp_bd, wp_some, h, true_and]
theorem wp_lst4 {f0 f1 f2 f3 : FE} {ρ : EnvM} {s : Sto} {Q : W → Sto → Prop} : Wp (eLst (aCons f0 (aCons f1 (aCons f2 (aCons f3 aNil)))) ρ s) Q = Wp (f0 ρ s) (fun a0 s0 => Wp (f1 ρ s0) (fun a1 s1 => Wp (f2 ρ s1) (fun a2 s2 => Wp (f3 ρ s2) (fun a3 s3 => Q (.ref s3.length) (s3 ++ [.lst [a0, a1, a2, a3]]))))) := by
  have h : ∀ a0 a1 a2 a3 : W, (([a0, a1, a2, a3] : List W).length ≤ 100000) = True := fun a0 a1 a2 a3 => eq_true (Nat.le_of_ble_eq_true rfl)
  rw [wp_lstG]
  simp only [aCons, aNil, wp_bd, wp_some, h, true_and]
theorem wp_lst5 {f0 f1 f2 f3 f4 : FE} {ρ : EnvM} {s : Sto} {Q : W → Sto → Prop} : Wp (eLst (aCons f0 (aCons f1 (aCons f2 (aCons f3 (aCons f4 aNil))))) ρ s) Q = Wp (f0 ρ s) (fun a0 s0 => Wp (f1 ρ s0) (fun a1 s1 => Wp (f2 ρ s1) (fun a2 s2 => Wp (f3 ρ s2) (fun a3 s3 => Wp (f4 ρ s3) (fun a4 s4 => Q (.ref s4.length) (s4 ++ [.lst [a0, a1, a2, a3, a4]])))))) := by
  have h : ∀ a0 a1 a2 a3 a4 : W, (([a0, a1, a2, a3, a4] : List W).length ≤ 100000) = True := fun a0 a1 a2 a3 a4 => eq_true (Nat.le_of_ble_eq_true rfl)
  rw [wp_lstG]
  simp only [aCons, aNil, wp_bd, wp_some, h, true_and]
theorem wp_lst6 {f0 f1 f2 f3 f4 f5 : FE} {ρ : EnvM} {s : Sto} {Q : W → Sto → Prop} : Wp (eLst (aCons f0 (aCons f1 (aCons f2 (aCons f3 (aCons f4 (aCons f5 aNil)))))) ρ s) Q = Wp (f0 ρ s) (fun a0 s0 => Wp (f1 ρ s0) (fun a1 s1 => Wp (f2 ρ s1) (fun a2 s2 => Wp (f3 ρ s2) (fun a3 s3 => Wp (f4 ρ s3) (fun a4 s4 => Wp (f5 ρ s4) (fun a5 s5 => Q (.ref s5.length) (s5 ++ [.lst [a0, a1, a2, a3, a4, a5]]))))))) := by
  have h : ∀ a0 a1 a2 a3 a4 a5 : W, (([a0, a1, a2, a3, a4, a5] : List W).length ≤ 100000) = True := fun a0 a1 a2 a3 a4 a5 => eq_true (Nat.le_of_ble_eq_true rfl)
  rw [wp_lstG]
  simp only [aCons, aNil, wp_bd, wp_some, h, true_and]
theorem wp_lst7 {f0 f1 f2 f3 f4 f5 f6 : FE} {ρ : EnvM} {s : Sto} {Q : W → Sto → Prop} : Wp (eLst (aCons f0 (aCons f1 (aCons f2 (aCons f3 (aCons f4 (aCons f5 (aCons f6 aNil))))))) ρ s) Q = Wp (f0 ρ s) (fun a0 s0 => Wp (f1 ρ s0) (fun a1 s1 => Wp (f2 ρ s1) (fun a2 s2 => Wp (f3 ρ s2) (fun a3 s3 => Wp (f4 ρ s3) (fun a4 s4 => Wp (f5 ρ s4) (fun a5 s5 => Wp (f6 ρ s5) (fun a6 s6 => Q (.ref s6.length) (s6 ++ [.lst [a0, a1, a2, a3, a4, a5, a6]])))))))) := by
  have h : ∀ a0 a1 a2 a3 a4 a5 a6 : W, (([a0, a1, a2, a3, a4, a5, a6] : List W).length ≤ 100000) = True := fun a0 a1 a2 a3 a4 a5 a6 => eq_true (Nat.le_of_ble_eq_true rfl)
  rw [wp_lstG]
  simp only [aCons, aNil, wp_bd, wp_some, h, true_and]
theorem wp_lst8 {f0 f1 f2 f3 f4 f5 f6 f7 : FE} {ρ : EnvM} {s : Sto} {Q : W → Sto → Prop} : Wp (eLst (aCons f0 (aCons f1 (aCons f2 (aCons f3 (aCons f4 (aCons f5 (aCons f6 (aCons f7 aNil)))))))) ρ s) Q = Wp (f0 ρ s) (fun a0 s0 => Wp (f1 ρ s0) (fun a1 s1 => Wp (f2 ρ s1) (fun a2 s2 => Wp (f3 ρ s2) (fun a3 s3 => Wp (f4 ρ s3) (fun a4 s4 => Wp (f5 ρ s4) (fun a5 s5 => Wp (f6 ρ s5) (fun a6 s6 => Wp (f7 ρ s6) (fun a7 s7 => Q (.ref s7.length) (s7 ++ [.lst [a0, a1, a2, a3, a4, a5, a6, a7]]))))))))) := by
  have h : ∀ a0 a1 a2 a3 a4 a5 a6 a7 : W, (([a0, a1, a2, a3, a4, a5, a6, a7] : List W).length ≤ 100000) = True := fun a0 a1 a2 a3 a4 a5 a6 a7 => eq_true (Nat.le_of_ble_eq_true rfl)
  rw [wp_lstG]
  simp only [aCons, aNil, wp_bd, wp_some, h, true_and]
theorem wp_lst9 {f0 f1 f2 f3 f4 f5 f6 f7 f8 : FE} {ρ : EnvM} {s : Sto} {Q : W → Sto → Prop} : Wp (eLst (aCons f0 (aCons f1 (aCons f2 (aCons f3 (aCons f4 (aCons f5 (aCons f6 (aCons f7 (aCons f8 aNil))))))))) ρ s) Q = Wp (f0 ρ s) (fun a0 s0 => Wp (f1 ρ s0) (fun a1 s1 => Wp (f2 ρ s1) (fun a2 s2 => Wp (f3 ρ s2) (fun a3 s3 => Wp (f4 ρ s3) (fun a4 s4 => Wp (f5 ρ s4) (fun a5 s5 => Wp (f6 ρ s5) (fun a6 s6 => Wp (f7 ρ s6) (fun a7 s7 => Wp (f8 ρ s7) (fun a8 s8 => Q (.ref s8.length) (s8 ++ [.lst [a0, a1, a2, a3, a4, a5, a6, a7, a8]])))))))))) := by
  have h : ∀ a0 a1 a2 a3 a4 a5 a6 a7 a8 : W, (([a0, a1, a2, a3, a4, a5, a6, a7, a8] : List W).length ≤ 100000) = True := fun a0 a1 a2 a3 a4 a5 a6 a7 a8 => eq_true (Nat.le_of_ble_eq_true rfl)
  rw [wp_lstG]
  simp only [aCons, aNil, wp_bd, wp_some, h, true_and]
theorem wp_lst10 {f0 f1 f2 f3 f4 f5 f6 f7 f8 f9 : FE} {ρ : EnvM} {s : Sto} {Q : W → Sto → Prop} : Wp (eLst (aCons f0 (aCons f1 (aCons f2 (aCons f3 (aCons f4 (aCons f5 (aCons f6 (aCons f7 (aCons f8 (aCons f9 aNil)))))))))) ρ s) Q = Wp (f0 ρ s) (fun a0 s0 => Wp (f1 ρ s0) (fun a1 s1 => Wp (f2 ρ s1) (fun a2 s2 => Wp (f3 ρ s2) (fun a3 s3 => Wp (f4 ρ s3) (fun a4 s4 => Wp (f5 ρ s4) (fun a5 s5 => Wp (f6 ρ s5) (fun a6 s6 => Wp (f7 ρ s6) (fun a7 s7 => Wp (f8 ρ s7) (fun a8 s8 => Wp (f9 ρ s8) (fun a9 s9 => Q (.ref s9.length) (s9 ++ [.lst [a0, a1, a2, a3, a4, a5, a6, a7, a8, a9]]))))))))))) := by
  have h : ∀ a0 a1 a2 a3 a4 a5 a6 a7 a8 a9 : W, (([a0, a1, a2, a3, a4, a5, a6, a7, a8, a9] : List W).length ≤ 100000) = True := fun a0 a1 a2 a3 a4 a5 a6 a7 a8 a9 => eq_true (Nat.le_of_ble_eq_true rfl)
  rw [wp_lstG]
  simp only [aCons, aNil, wp_bd, wp_some, h, true_and]
theorem wp_lst11 {f0 f1 f2 f3 f4 f5 f6 f7 f8 f9 f10 : FE} {ρ : EnvM} {s : Sto} {Q : W → Sto → Prop} : Wp (eLst (aCons f0 (aCons f1 (aCons f2 (aCons f3 (aCons f4 (aCons f5 (aCons f6 (aCons f7 (aCons f8 (aCons f9 (aCons f10 aNil))))))))))) ρ s) Q = Wp (f0 ρ s) (fun a0 s0 => Wp (f1 ρ s0) (fun a1 s1 => Wp (f2 ρ s1) (fun a2 s2 => Wp (f3 ρ s2) (fun a3 s3 => Wp (f4 ρ s3) (fun a4 s4 => Wp (f5 ρ s4) (fun a5 s5 => Wp (f6 ρ s5) (fun a6 s6 => Wp (f7 ρ s6) (fun a7 s7 => Wp (f8 ρ s7) (fun a8 s8 => Wp (f9 ρ s8) (fun a9 s9 => Wp (f10 ρ s9) (fun a10 s10 => Q (.ref s10.length) (s10 ++ [.lst [a0, a1, a2, a3, a4, a5, a6, a7, a8, a9, a10]])))))))))))) := by
  have h : ∀ a0 a1 a2 a3 a4 a5 a6 a7 a8 a9 a10 : W, (([a0, a1, a2, a3, a4, a5, a6, a7, a8, a9, a10] : List W).length ≤ 100000) = True := fun a0 a1 a2 a3 a4 a5 a6 a7 a8 a9 a10 => eq_true (Nat.le_of_ble_eq_true rfl)
  rw [wp_lstG]
  simp only [aCons, aNil, wp_bd, wp_some, h, true_and]
theorem wp_lst12 {f0 f1 f2 f3 f4 f5 f6 f7 f8 f9 f10 f11 : FE} {ρ : EnvM} {s : Sto} {Q : W → Sto → Prop} : Wp (eLst (aCons f0 (aCons f1 (aCons f2 (aCons f3 (aCons f4 (aCons f5 (aCons f6 (aCons f7 (aCons f8 (aCons f9 (aCons f10 (aCons f11 aNil)))))))))))) ρ s) Q = Wp (f0 ρ s) (fun a0 s0 => Wp (f1 ρ s0) (fun a1 s1 => Wp (f2 ρ s1) (fun a2 s2 => Wp (f3 ρ s2) (fun a3 s3 => Wp (f4 ρ s3) (fun a4 s4 => Wp (f5 ρ s4) (fun a5 s5 => Wp (f6 ρ s5) (fun a6 s6 => Wp (f7 ρ s6) (fun a7 s7 => Wp (f8 ρ s7) (fun a8 s8 => Wp (f9 ρ s8) (fun a9 s9 => Wp (f10 ρ s9) (fun a10 s10 => Wp (f11 ρ s10) (fun a11 s11 => Q (.ref s11.length) (s11 ++ [.lst [a0, a1, a2, a3, a4, a5, a6, a7, a8, a9, a10, a11]]))))))))))))) := by
  have h : ∀ a0 a1 a2 a3 a4 a5 a6 a7 a8 a9 a10 a11 : W, (([a0, a1, a2, a3, a4, a5, a6, a7, a8, a9, a10, a11] : List W).length ≤ 100000) = True := fun a0 a1 a2 a3 a4 a5 a6 a7 a8 a9 a10 a11 => eq_true (Nat.le_of_ble_eq_true rfl)
  rw [wp_lstG]
  simp only [aCons, aNil, wp_bd, wp_some, h, true_and]
/-! ### calls -/
theorem wp_mkF {n N : Nat} {ws : List W} {R : W → Sto → Prop} (h : ws.length = n) : Wp (mkF n N f ws s) R = WpS [f] (ws.map some ++ List.replicate (N - ws.length) none) s (fun o s1 => match o with | .rt w => R w s1 | .nx _ => R .non s1 | _ => False) := by
  unfold mkF
  rw [if_pos h, wp_bd, wps_one]
  congr; funext o s1
  cases o <;> simp only [wp_some, wp_none]
/-! ### list comprehensions -/
theorem wp_lcf {t : Tg} {u : FT} {c : Option (Nat × List W)} {R : List W → Sto → Prop} (I : Nat → List W → Sto → Prop) : ∀ (xs : List W) (k : Nat) (acc : List W) (s : Sto), I k acc s →
    (∀ (i : Nat) (x : W) (acc : List W) (s : Sto), xs[i]? = some x → I (k + i) acc s → okc c s ∧ ∃ ρ1, tgM t x ρ = some ρ1 ∧ Wp (u ρ1 s) (fun b s1 => if b = true then Wp (e ρ1 s1) (fun w s2 => I (k + i + 1) (acc ++ [w]) s2) else I (k + i + 1) acc s1)) →
    (∀ acc' s, I (k + xs.length) acc' s → okc c s ∧ ∀ ws, acc' = acc ++ ws → R ws s) → Wp (lcf t u e c ρ xs s) R
  | [], k, acc, s, h0, _, he => by
    obtain ⟨h1, h2⟩ := he acc s h0
    rw [lcf, if_pos h1, wp_some]
    exact h2 [] (List.append_nil _).symm
  | x :: xs, k, acc, s, h0, hs, he => by
    obtain ⟨h1, ρ1, h2, h3⟩ := hs 0 x acc s rfl h0
    rw [lcf, if_pos h1, h2]
    simp only [wp_bd]
    have st : ∀ (i : Nat) (x : W) (acc : List W) (s : Sto), xs[i]? = some x → I (k + 1 + i) acc s → okc c s ∧ ∃ ρ1, tgM t x ρ = some ρ1 ∧ Wp (u ρ1 s) (fun b s1 => if b = true then Wp (e ρ1 s1) (fun w s2 => I (k + 1 + i + 1) (acc ++ [w]) s2) else I (k + 1 + i + 1) acc s1) := fun i y acc s hy hi => by
      have e : k + 1 + i = k + (i + 1) := by omega
      rw [e] at hi ⊢
      exact hs (i + 1) y acc s hy hi
    have hl : ∀ acc' s, I (k + 1 + xs.length) acc' s → okc c s ∧ ∀ ws, acc' = acc ++ ws → R ws s := fun a s hi => he a s (by rw [List.length_cons]; rw [show k + (xs.length + 1) = k + 1 + xs.length by omega]; exact hi)
    refine h3.mono fun b s1 q => ?_
    cases b with
    | false =>
      simp only [Bool.false_eq_true, if_false] at q ⊢
      exact wp_lcf I xs (k + 1) acc s1 q st hl
    | true =>
      simp only [if_true, wp_bd] at q ⊢
      refine q.mono fun w s2 q => ?_
      refine wp_lcf I xs (k + 1) (acc ++ [w]) s2 q st fun a s hi => ?_
      obtain ⟨h1, h2⟩ := hl a s hi
      refine ⟨h1, fun ws e => ?_⟩
      rw [wp_some]
      exact h2 (w :: ws) (by rw [e, List.append_assoc]; rfl)
theorem wp_lc {vs : List Nat} {it : FI} {t : Tg} {u : FT} {R : W → Sto → Prop} : Wp (eLc vs it t u e ρ s) R = Wp (it ρ s) (fun x s1 => x.1.length ≤ 100000 ∧ Wp (lcf t u e x.2 (wipeM ρ vs) x.1 s1) (fun ws s2 => R (.ref s2.length) (s2 ++ [.lst ws]))) := by
  unfold eLc
  rw [wp_bd]
  congr; funext x s1
  rw [wp_ite, wp_none, wp_bd]
  simp only [wp_some]
  split
  · rename_i h; exact propext ⟨fun q => ⟨h, q⟩, fun q => q.2⟩
  · rename_i h; exact propext ⟨fun q => q.elim, fun q => h q.1⟩
end
end Mir

set_option Elab.async false
set_option linter.all false
set_option maxRecDepth 100000
namespace Mir
open PySem PySem.Spec PyProof.Rows L2
/-! ### what a run leaves as it was -/
structure Fr (L : List Nat) (s s' : Sto) : Prop where
  len : s.length ≤ s'.length
  at_ : ∀ i o, i ∉ L → s[i]? = some o → s'[i]? = some o
theorem Fr.refl {L : List Nat} {s : Sto} : Fr L s s := ⟨Nat.le_refl _, fun _ _ _ h => h⟩
theorem Fr.trans {L : List Nat} {s s' s'' : Sto} (h : Fr L s s') (h' : Fr L s' s'') : Fr L s s'' := ⟨Nat.le_trans h.len h'.len, fun i o hi e => h'.at_ i o hi (h.at_ i o hi e)⟩
theorem Fr.mono {L L' : List Nat} {s s' : Sto} (h : Fr L s s') (q : ∀ i ∈ L, i ∈ L') : Fr L' s s' := ⟨h.len, fun i o hi e => h.at_ i o (fun z => hi (q i z)) e⟩
theorem Fr.app {L : List Nat} {s t : Sto} : Fr L s (s ++ t) := ⟨by simp, fun i o _ e => by rw [List.getElem?_append_left (List.getElem?_eq_some_iff.mp e).1]; exact e⟩
theorem Fr.set {L : List Nat} {s : Sto} {n : Nat} {o : O} (h : n ∈ L) : Fr L s (s.set n o) := ⟨by simp, fun i o' hi e => by rw [List.getElem?_set_ne (fun z => hi (by rw [← z]; exact h))]; exact e⟩
/-- what is newer than s may change at will -/
theorem Fr.new {L L' : List Nat} {s s1 s2 : Sto} (h : Fr L s s1) (h' : Fr (L' ++ L) s1 s2) (q : ∀ i ∈ L', s.length ≤ i) : Fr L s s2 :=
  ⟨Nat.le_trans h.len h'.len, fun i o hi e => h'.at_ i o (fun z => by
    rcases List.mem_append.mp z with z | z
    · have := (List.getElem?_eq_some_iff.mp e).1
      have := q i z
      omega
    · exact hi z) (h.at_ i o hi e)⟩
theorem getset {s : Sto} {r : Nat} {o o' : O} (h : s[r]? = some o) : (s.set r o')[r]? = some o' := by
  rw [List.getElem?_set_self (List.getElem?_eq_some_iff.mp h).1]
theorem getne {s : Sto} {r i : Nat} {o' : O} (h : i ≠ r) : (s.set r o')[i]? = s[i]? := List.getElem?_set_ne (fun e => h e.symm)
theorem setset {s : Sto} {r : Nat} {o o' : O} : (s.set r o).set r o' = s.set r o' := List.set_set ..
theorem gapp {s t : Sto} {r : Nat} {o : O} (h : s[r]? = some o) : (s ++ t)[r]? = some o := by
  rw [List.getElem?_append_left (List.getElem?_eq_some_iff.mp h).1]
  exact h
theorem gnew {s t : Sto} {o : O} : (s ++ o :: t)[s.length]? = some o := by simp
theorem gltn {s : Sto} {r : Nat} {o : O} (h : s[r]? = some o) : r < s.length := (List.getElem?_eq_some_iff.mp h).1
theorem gne {s : Sto} {r i : Nat} {o o' : O} (h : s[r]? = some o) (h' : s[i]? = some o') (n : o ≠ o') : r ≠ i := fun e => by subst e; rw [h] at h'; exact n (Option.some.inj h')
/-! ### operators at known values -/
theorem ii {f : Int → Int → W} {i j : Int} {s : Sto} : gII f (.int i) (.int j) s = some (f i j, s) := rfl
theorem mulR {i j : Int} {s : Sto} (h1 : -(2 ^ 64) < j) (h2 : j < 2 ^ 64) : Mir.gMul (.int i) (.int j) s = some (.int (i * j), s) := by
  simp only [Mir.gMul]
  rw [if_pos (.inr ⟨h1, h2⟩)]
theorem mulL {i j : Int} {s : Sto} (h1 : -(2 ^ 64) < i) (h2 : i < 2 ^ 64) : Mir.gMul (.int i) (.int j) s = some (.int (i * j), s) := by
  simp only [Mir.gMul]
  rw [if_pos (.inl ⟨h1, h2⟩)]
theorem modR {i j : Int} {s : Sto} (h1 : 0 < j) : gMod (.int i) (.int j) s = some (.int (i % j), s) := by
  simp only [gIIc, decide_eq_true h1, if_true]
theorem divR {i j : Int} {s : Sto} (h1 : 0 < j) (h2 : j < 1073741824) : gDiv (.int i) (.int j) s = some (.int (i / j), s) := by
  have h : decide (0 < j ∧ j < 1073741824) = true := decide_eq_true ⟨h1, h2⟩
  simp only [gIIc, h, if_true]
theorem divRW {i j : Int} {s : Sto} (h1 : 0 < j) (h2 : j < 4611686018427387904) : gDivW (.int i) (.int j) s = some (.int (i / j), s) := by
  have h3 : j.natAbs < 2 ^ 62 := by omega
  have h : decide (0 < j ∧ j.natAbs.log2 < 9000) = true := decide_eq_true ⟨h1, Nat.lt_trans ((Nat.log2_lt (by omega)).mpr h3) (by decide)⟩
  simp only [gIIc, h, if_true]
theorem addI {i j : Int} {s : Sto} : gAdd (.int i) (.int j) s = some (.int (i + j), s) := rfl
theorem subI {i j : Int} {s : Sto} : Mir.gSub (.int i) (.int j) s = some (.int (i - j), s) := rfl
theorem int1 {i : Int} {s : Sto} : gInt1 [.int i] s = some (.int i, s) := rfl
theorem negI {i : Int} {s : Sto} : gNeg (.int i) s = some (.int (-i), s) := rfl
theorem eqI {i j : Int} {s : Sto} : gEq (.int i) (.int j) s = some (.bl (decide (i = j)), s) := rfl
theorem neI {i j : Int} {s : Sto} : gNe (.int i) (.int j) s = some (.bl (!decide (i = j)), s) := rfl
theorem eqS {a b : Str} {s : Sto} : gEq (.str a) (.str b) s = some (.bl (decide (a = b)), s) := rfl
theorem neS {a b : Str} {s : Sto} : gNe (.str a) (.str b) s = some (.bl (!decide (a = b)), s) := rfl
theorem isN {x : W} {s : Sto} : gIs x .non s = some (.bl (Mir.isNon x), s) := by cases x <;> rfl
theorem isnN {x : W} {s : Sto} : gIsNot x .non s = some (.bl (!Mir.isNon x), s) := by cases x <;> rfl
theorem ix0 {a : W} {r : List W} {s : Sto} : gIx (.tup (a :: r)) (.int 0) s = some (a, s) := by
  have h : atI (a :: r) ((0 : Nat) : Int) = some a := atI_nat rfl
  have h : atI (a :: r) 0 = some a := h
  simp only [gIx, seqOf, h]
theorem ix1 {a b : W} {r : List W} {s : Sto} : gIx (.tup (a :: b :: r)) (.int 1) s = some (b, s) := by
  have h : atI (a :: b :: r) ((1 : Nat) : Int) = some b := atI_nat rfl
  have h : atI (a :: b :: r) 1 = some b := h
  simp only [gIx, seqOf, h]
theorem ix2 {a b c : W} {r : List W} {s : Sto} : gIx (.tup (a :: b :: c :: r)) (.int 2) s = some (c, s) := by
  have h : atI (a :: b :: c :: r) ((2 : Nat) : Int) = some c := atI_nat rfl
  have h : atI (a :: b :: c :: r) 2 = some c := h
  simp only [gIx, seqOf, h]
theorem ix3 {a b c d : W} {r : List W} {s : Sto} : gIx (.tup (a :: b :: c :: d :: r)) (.int 3) s = some (d, s) := by
  have h : atI (a :: b :: c :: d :: r) ((3 : Nat) : Int) = some d := atI_nat rfl
  have h : atI (a :: b :: c :: d :: r) 3 = some d := h
  simp only [gIx, seqOf, h]
theorem ixT {ws : List W} {i : Nat} {w : W} {s : Sto} (h : ws[i]? = some w) : gIx (.tup ws) (.int (i : Int)) s = some (w, s) := by
  simp only [gIx, seqOf, atI_nat h]
theorem ixL {n i : Nat} {ws : List W} {w : W} {s : Sto} (h : s[n]? = some (.lst ws)) (hi : ws[i]? = some w) : gIx (.ref n) (.int (i : Int)) s = some (w, s) := by
  simp only [gIx, seqOf, h, atI_nat hi]
theorem ixR {ws : List W} {i : Nat} {w : W} {s : Sto} (h : ws[i]? = some w) : gIx (.lro ws) (.int (i : Int)) s = some (w, s) := by
  simp only [gIx, seqOf, atI_nat h]
theorem lstR {n : Nat} {ws : List W} {s : Sto} (h : s[n]? = some (.lst ws)) : lstOf (.ref n) s = some ws := by simp only [lstOf, h]
theorem chkR {n : Nat} {ws : List W} : chkOf (.ref n) ws = some (n, ws) := rfl
theorem chkT {us ws : List W} : chkOf (.tup us) ws = none := rfl
theorem chkO {us ws : List W} : chkOf (.lro us) ws = none := rfl
theorem lstO {ws : List W} {s : Sto} : lstOf (.lro ws) s = some ws := rfl
theorem lenL {n : Nat} {ws : List W} {s : Sto} (h : s[n]? = some (.lst ws)) : gLen [.ref n] s = some (.int (ws.length : Int), s) := by
  simp only [gLen, lenW, h]
theorem lenT {ws : List W} {s : Sto} : gLen [.tup ws] s = some (.int (ws.length : Int), s) := rfl
theorem lenR {ws : List W} {s : Sto} : gLen [.lro ws] s = some (.int (ws.length : Int), s) := rfl
theorem listL {n : Nat} {ws : List W} {s : Sto} (h : s[n]? = some (.lst ws)) : gList [.ref n] s = some (.ref s.length, s ++ [.lst ws]) := by
  simp only [gList, seqOf, h]
theorem tupL {n : Nat} {ws : List W} {s : Sto} (h : s[n]? = some (.lst ws)) : gTuple [.ref n] s = some (.tup ws, s) := by
  simp only [gTuple, seqOf, h]
theorem isLR {n : Nat} {s : Sto} {ws : List W} (h : s[n]? = some (.lst ws)) : isL (.ref n) s = true := by simp only [isL, h]
theorem appL {n : Nat} {s : Sto} {ws : List W} {w : W} (h : s[n]? = some (.lst ws)) (hl : ws.length ≤ 100000) : gAppend (.ref n) [w] s = some (.non, s.set n (.lst (ws ++ [w]))) := by
  simp only [gLm, h, fAppend, hl, if_true]
theorem extL {n k : Nat} {s : Sto} {ws us : List W} (h : s[n]? = some (.lst ws)) (hk : s[k]? = some (.lst us)) (hl : ws.length + us.length ≤ 100000) : gExtend (.ref n) [.ref k] s = some (.non, s.set n (.lst (ws ++ us))) := by
  simp only [gLm, h, fExtend, hk, hl, if_true]
theorem popL {n : Nat} {s : Sto} {ws : List W} {w : W} (h : s[n]? = some (.lst (ws ++ [w]))) : gPop (.ref n) [] s = some (w, s.set n (.lst ws)) := by
  have e : (ws ++ [w])[(ws ++ [w]).length - 1]? = some w := by simp
  simp only [gLm, h, fPop, e, List.dropLast_concat]
theorem truL {n : Nat} {s : Sto} {ws : List W} (h : s[n]? = some (.lst ws)) : truW (.ref n) s = some (!ws.isEmpty) := by
  simp only [truW, h]
theorem nc0 : ((0 : Nat) : Int) = 0 := rfl
theorem nc1 : ((1 : Nat) : Int) = 1 := rfl
theorem nc2 : ((2 : Nat) : Int) = 2 := rfl
theorem nc3 : ((3 : Nat) : Int) = 3 := rfl
theorem truB {b : Bool} {s : Sto} : truW (.bl b) s = some b := rfl
theorem truN {s : Sto} : truW .non s = some false := rfl
theorem truT {ws : List W} {s : Sto} : truW (.tup ws) s = some (!ws.isEmpty) := rfl
theorem truI {i : Int} {s : Sto} : truW (.int i) s = some (i != 0) := rfl
theorem ixN_nat {n i : Nat} (h : i < n) : ixN n (i : Int) = some i := by
  unfold ixN
  rw [if_pos (by omega), if_pos (by omega)]
  simp
theorem putL {n i : Nat} {s : Sto} {ws : List W} {w : W} (h : s[n]? = some (.lst ws)) (hi : i < ws.length) : setAt (.ref n) (.int (i : Int)) w s = some (s.set n (.lst (ws.set i w))) := by
  simp only [setAt, h, ixN_nat hi]
theorem rngL {n : Nat} {s : Sto} (h : n ≤ 100000) : (if -(2 ^ 62) ≤ (n : Int) ∧ (n : Int) < 2 ^ 62 then some (((List.range (n : Int).toNat).map fun (i : Nat) => W.int (0 + (i : Int)), (none : Option (Nat × List W))), s) else none) = some (((List.range n).map fun (i : Nat) => W.int (i : Int), none), s) := by
  have key : ∀ j : Int, 0 ≤ j → j ≤ 100000 → (-(2 ^ 62) ≤ j ∧ j < 2 ^ 62) := fun j h0 h1 => by omega
  rw [if_pos (key (n : Int) (by omega) (by omega)), Int.toNat_natCast]
  simp only [Int.zero_add]
theorem rng1 {f : FE} {ρ : EnvM} {s s1 : Sto} {n : Nat} (e : f ρ s = some (.int (n : Int), s1)) (h : n ≤ 100000) : Mir.iRng1 f ρ s = some (((List.range n).map fun (i : Nat) => W.int (i : Int), none), s1) := by
  unfold Mir.iRng1
  rw [e, bd_some]
  exact rngL h
theorem wp_rng1 {f : FE} {ρ : EnvM} {s : Sto} {R : (List W × Option (Nat × List W)) → Sto → Prop} (h : Wp (f ρ s) (fun w s1 => ∃ n : Nat, w = .int (n : Int) ∧ n ≤ 100000 ∧ R ((List.range n).map fun (i : Nat) => W.int (i : Int), none) s1)) : Wp (Mir.iRng1 f ρ s) R := by
  obtain ⟨w, s1, e, n, rfl, hn, h⟩ := h
  exact ⟨_, _, rng1 e hn, h⟩
theorem wp_rng2 {f g : FE} {ρ : EnvM} {s : Sto} {R : (List W × Option (Nat × List W)) → Sto → Prop} (h : Wp (f ρ s) (fun w s1 => Wp (g ρ s1) (fun w' s2 => ∃ a b : Nat, w = .int (a : Int) ∧ w' = .int (b : Int) ∧ a ≤ 100000 ∧ b ≤ 100000 ∧ R ((List.range (b - a)).map fun (i : Nat) => W.int ((a : Int) + (i : Int)), none) s2))) : Wp (Mir.iRng2 f g ρ s) R := by
  obtain ⟨w, s1, e, w', s2, e', a, b, rfl, rfl, ha, hb, h⟩ := h
  have key : ∀ j : Int, 0 ≤ j → j ≤ 100000 → (-(2 ^ 62) ≤ j ∧ j < 2 ^ 62) := fun j h0 h1 => by omega
  refine ⟨_, _, ?_, h⟩
  unfold Mir.iRng2
  rw [e, bd_some, e', bd_some]
  have h1 := key (a : Int) (by omega) (by omega)
  have h2 := key (b : Int) (by omega) (by omega)
  simp only []
  rw [if_pos ⟨h1.1, h1.2, h2.1, h2.2⟩]
  have e3 : ((b : Int) - (a : Int)).toNat = b - a := by omega
  rw [e3]
/-! ### lists of ints, dicts, slices -/
abbrev wi (l : List Int) : List W := l.map W.int
theorem ixI {n i : Nat} {l : List Int} {v : Int} {s : Sto} (h : s[n]? = some (.lst (wi l))) (hi : l[i]? = some v) : gIx (.ref n) (.int (i : Int)) s = some (.int v, s) := ixL h (by rw [List.getElem?_map, hi]; rfl)
theorem look_some_of {kvs : List (Key × W)} {k k' : Key} {w v : W} (h : look kvs k' = some v) : look (kvs ++ [(k, w)]) k' = some v := by
  unfold look at h ⊢
  rw [List.find?_append]
  cases e : kvs.find? (fun kv => decide (kv.1 = k')) with
  | none => rw [e] at h; cases h
  | some x => rw [e] at h; exact h
theorem look_none_of {kvs : List (Key × W)} {k k' : Key} {w : W} (h : look kvs k' = none) : look (kvs ++ [(k, w)]) k' = if k = k' then some w else none := by
  unfold look at h ⊢
  rw [List.find?_append]
  cases e : kvs.find? (fun kv => decide (kv.1 = k')) with
  | some x => rw [e] at h; cases h
  | none =>
    by_cases q : k = k'
    · simp [List.find?, q]
    · simp [List.find?, q]
theorem put_new {kvs : List (Key × W)} {k : Key} {w : W} (h : look kvs k = none) : put kvs k w = kvs ++ [(k, w)] := by
  unfold put
  rw [if_neg]
  intro q
  obtain ⟨x, hx, e⟩ := List.any_eq_true.mp q
  unfold look at h
  cases e2 : kvs.find? (fun kv => decide (kv.1 = k)) with
  | some x => rw [e2] at h; cases h
  | none => exact absurd e (by simpa using List.find?_eq_none.mp e2 x hx)
theorem dcR {n : Nat} {s : Sto} {kvs : List (Key × W)} (h : s[n]? = some (.dct kvs)) : dcOf (.ref n) s = some (n, kvs) := by simp only [dcOf, h]
theorem keyI {i : Int} : keyW (.int i) = some (.inl i) := rfl
theorem keyS {i : Str} : keyW (.str i) = some (.inr i) := rfl
theorem slL {n a b : Nat} {ws : List W} {s : Sto} (h : s[n]? = some (.lst ws)) : gSlA (.ref n) (some (a : Int)) (some (b : Int)) s = some (.ref s.length, s ++ [.lst ((ws.drop a).take (b - a))]) := by
  have e : lstOf (.ref n) s = some ws := by simp only [lstOf, h]
  have key : (ws.drop (min a ws.length)).take (min b ws.length - min a ws.length) = (ws.drop a).take (b - a) := by
    apply List.ext_getElem?
    intro i
    simp only [List.getElem?_take, List.getElem?_drop]
    by_cases h : i < b - a ∧ a + i < ws.length
    · have e1 : min a ws.length = a := by omega
      rw [e1, if_pos (by omega), if_pos h.1]
    · have e2 : (if i < b - a then ws[a + i]? else none) = none := by
        split
        · exact List.getElem?_eq_none (by omega)
        · rfl
      rw [e2]
      split
      · exact List.getElem?_eq_none (by omega)
      · rfl
  simp only [gSlA, e, HT.sIx_nat]
  rw [key]
theorem eqv_ints : ∀ a b : List Int, PyData.eqvAll (a.map PyData.int) (b.map PyData.int) = decide (a = b)
  | [], [] => rfl
  | [], _ :: _ => rfl
  | _ :: _, [] => rfl
  | x :: a, y :: b => by
    simp only [List.map_cons, PyData.eqvAll, PyData.eqv, eqv_ints a b]
    by_cases h : x = y
    · by_cases q : a = b <;> simp [h, q]
    · simp [h]
theorem lay_ints : ∀ ns : List Int, PyData.canLayAll0 (ns.map PyData.int) = true
  | [] => rfl
  | n :: ns => by simp only [List.map_cons, PyData.canLayAll0, PyData.canLay0, lay_ints ns, Bool.and_self]
theorem dep_ints : ∀ ns : List Int, PyData.depthAll (ns.map PyData.int) ≤ 1
  | [] => by simp [PyData.depthAll]
  | n :: ns => by
    have := dep_ints ns
    simp only [List.map_cons, PyData.depthAll, PyData.depth]
    omega
theorem mapM_ints (s : Sto) : ∀ ns : List Int, (wi ns).mapM (pyS s 2) = some (ns.map PyData.int)
  | [] => rfl
  | n :: ns => by
    rw [wi, List.map_cons, List.mapM_cons, mapM_ints s ns]
    simp [pyS, pyW]
theorem shp_ints (ns : List Int) : SeqAt.shaped (.list (ns.map PyData.int)) = true := by
  have := dep_ints ns
  have hd : (PyData.list (ns.map PyData.int)).depth ≤ 64 := by rw [PyData.depth]; omega
  simp only [SeqAt.shaped, PyData.canLay0, lay_ints, Bool.true_and, decide_eq_true hd]
theorem eqw_ints {s : Sto} {a b : Nat} {x y : List Int} (ha : s[a]? = some (.lst (wi x))) (hb : s[b]? = some (.lst (wi y))) : eqW s (.ref a) (.ref b) = some (decide (x = y)) := by
  simp only [eqW, sEq, datEq, pyS, ha, hb, mapM_ints, Option.map_some, shp_ints, and_self, if_true, PyData.eqv, eqv_ints]
theorem ne_ints {s : Sto} {a b : Nat} {x y : List Int} (ha : s[a]? = some (.lst (wi x))) (hb : s[b]? = some (.lst (wi y))) : gNe (.ref a) (.ref b) s = some (.bl (!decide (x = y)), s) := by
  simp only [gNe, eqw_ints ha hb]
theorem eq_ints {s : Sto} {a b : Nat} {x y : List Int} (ha : s[a]? = some (.lst (wi x))) (hb : s[b]? = some (.lst (wi y))) : gEq (.ref a) (.ref b) s = some (.bl (decide (x = y)), s) := by
  simp only [gEq, eqw_ints ha hb]
theorem ints_wi : ∀ l : List Int, intsOf (wi l) = some l
  | [] => rfl
  | x :: r => by
    show intsOf (W.int x :: wi r) = _
    rw [intsOf, ints_wi r]
theorem sumL {n : Nat} {l : List Int} {s : Sto} (h : s[n]? = some (.lst (wi l))) : gSum [.ref n] s = some (.int l.sum, s) := by
  simp only [gSum, lstR h, ints_wi]
/-! ### the tape of the laws -/
noncomputable def BMix : FS := (sCons (sSet 0 (eOp gMod (eFn gInt1 (aCons (eOp gAdd (eOp gMul (eVar 0) (eC (.int 6364136223846793005))) (eC (.int 1442695040888963407))) aNil)) (eC (.int 18446744073709551616))))
    (sRet (eOp gMod (eFn gInt1 (aCons (eOp gAdd (eOp gDivW (eOp gMul (eVar 0) (eVar 0)) (eC (.int 4294967296))) (eOp gMul (eVar 0) (eC (.int 69621)))) aNil)) (eC (.int 18446744073709551557)))))
noncomputable def TMix : List W → Sto → Rz W := mkF 1 1 BMix
noncomputable def BTake : FS := (sCons (sIf (bTest (eOp gLt (eOp gIx (eVar 0) (eC (.int 2))) (eVar 1))) (sIf (bTest (eOp gLt (eOp gIx (eVar 0) (eC (.int 1))) (eFn gLen (aCons (eOp gIx (eVar 0) (eC (.int 0))) aNil)))) (sCons (sSet 2 (eOp gIx (eOp gIx (eVar 0) (eC (.int 0))) (eOp gIx (eVar 0) (eC (.int 1)))))
    (sCons (sSet 2 (eIf (bTest (eOp gGe (eVar 2) (eC (.int 0)))) (eOp gMul (eC (.int 2)) (eVar 2)) (eOp gSub (eOp gMul (eUn gNeg (eC (.int 2))) (eVar 2)) (eC (.int 1)))))
    (sCons (sPut (eVar 0) (eC (.int 1)) (eOp gAdd (eOp gIx (eVar 0) (eC (.int 1))) (eC (.int 1))))
    (sCons (sPut (eVar 0) (eC (.int 3)) (eFn TMix (aCons (eOp gAdd (eOp gIx (eVar 0) (eC (.int 3))) (eVar 2)) aNil)))
    (sPut (eVar 0) (eC (.int 2)) (eIf (bTest (eOp gGe (eVar 2) (eOp gPow (eC (.int 10)) (eC (.int 18))))) (eVar 2) (eFn TMix (aCons (eFn TMix (aCons (eVar 2) aNil)) aNil)))))))) (sCons (sPut (eVar 0) (eC (.int 3)) (eFn TMix (aCons (eOp gAdd (eOp gIx (eVar 0) (eC (.int 3))) (eC (.int 1))) aNil)))
    (sPut (eVar 0) (eC (.int 2)) (eOp gIx (eVar 0) (eC (.int 3)))))) sNil)
    (sCons (sSet 3 (eOp gMod (eFn gInt1 (aCons (eOp gIx (eVar 0) (eC (.int 2))) aNil)) (eVar 1)))
    (sCons (sPut (eVar 0) (eC (.int 2)) (eOp gDivW (eOp gIx (eVar 0) (eC (.int 2))) (eVar 1)))
    (sRet (eVar 3)))))
noncomputable def TTake : List W → Sto → Rz W := mkF 2 4 BTake
def mixM (n : Int) : Int := (n * 6364136223846793005 + 1442695040888963407) % 18446744073709551616
def mixI (n : Int) : Int := (mixM n * mixM n / 4294967296 + mixM n * 69621) % 18446744073709551557
theorem mix_ok {n : Int} {s : Sto} : TMix [.int n] s = some (.int (mixI n), s) := by
  have m1 : Mir.gMul (.int n) (.int 6364136223846793005) s = some (.int (n * 6364136223846793005), s) := mulR (by decide) (by decide)
  have m2 : gMod (.int (n * 6364136223846793005 + 1442695040888963407)) (.int 18446744073709551616) s = some (.int (mixM n), s) := modR (by decide)
  have h0 : 0 ≤ mixM n := Int.emod_nonneg _ (by decide)
  have h1 : mixM n < 18446744073709551616 := Int.emod_lt_of_pos _ (by decide)
  have m3 : Mir.gMul (.int (mixM n)) (.int (mixM n)) s = some (.int (mixM n * mixM n), s) := mulR (Int.lt_of_lt_of_le (by decide) h0) (by rw [show (2 : Int) ^ 64 = 18446744073709551616 by decide +kernel]; exact h1)
  have m4 : gDivW (.int (mixM n * mixM n)) (.int 4294967296) s = some (.int (mixM n * mixM n / 4294967296), s) := by
    have h : decide ((0 : Int) < 4294967296 ∧ (4294967296 : Int).natAbs.log2 < 9000) = true := by decide +kernel
    simp only [gIIc, h, if_true]
  have m5 : Mir.gMul (.int (mixM n)) (.int 69621) s = some (.int (mixM n * 69621), s) := mulR (by decide) (by decide)
  have m6 : gMod (.int (mixM n * mixM n / 4294967296 + mixM n * 69621)) (.int 18446744073709551557) s = some (.int (mixI n), s) := modR (by decide)
  unfold TMix BMix
  simp only [mkF, bd_some, bd_none, sCons, sNil, sSet, sAsg, sPar, sDo, sRet, sRetN, sIf, sPut, sAug, sBrk, sCnt, sFor, iSeq, iEnu, Mir.iRev, Mir.iRng1, Mir.iRng2, eVar, eC, eOp, eUn, eFn, eMt, aNil, aCons, eTup, eLst, eAnd, eOr, eNot, eIf, bTest, bTruth, bAnd, bOr, bNot, bYes, eSl, pNo, pAt, tgM_name, tgM_tup, tgMs_nil, tgMs_name, tgMs_tup, List.getElem?_cons_succ, List.getElem?_cons_zero, List.set_cons_succ, List.set_cons_zero, List.map_cons, List.map_nil, List.length_cons, List.length_nil, List.replicate, List.nil_append, List.cons_append, if_true, if_false, Bool.false_eq_true, Nat.reduceAdd, Nat.reduceSub, Nat.reduceLeDiff, Nat.zero_add, Bool.not_true, Bool.not_false, m1, addI, int1, m2, m3, m4, m5, m6]
/-- the tape in the store -/
structure Tape (s : Sto) (r rc : Nat) (cs : List Int) : Prop where
  tape : ∃ (a : Nat) (b c : Int) (w : W), s[r]? = some (.lst [.ref rc, .int (a : Int), .int b, .int c, w])
  cells : s[rc]? = some (.lst (cs.map W.int))
theorem Tape.ne {s : Sto} {r rc : Nat} {cs : List Int} (T : Tape s r rc cs) : rc ≠ r := fun h => by
  obtain ⟨a, b, c, w, e⟩ := T.tape
  have := T.cells
  rw [h, e] at this
  cases cs <;> simp at this



/-- the store with the tape written down -/
def tp (s : Sto) (r : Nat) (x0 x1 x2 x3 x4 : W) : Sto := s.set r (.lst [x0, x1, x2, x3, x4])
theorem tp_get {s : Sto} {r : Nat} {x0 x1 x2 x3 x4 : W} (h : r < s.length) : (tp s r x0 x1 x2 x3 x4)[r]? = some (.lst [x0, x1, x2, x3, x4]) := List.getElem?_set_self h
theorem tp_ne {s : Sto} {r i : Nat} {x0 x1 x2 x3 x4 : W} (h : i ≠ r) : (tp s r x0 x1 x2 x3 x4)[i]? = s[i]? := getne h
theorem s_tp {s : Sto} {r : Nat} {x0 x1 x2 x3 x4 : W} (e : s[r]? = some (.lst [x0, x1, x2, x3, x4])) : tp s r x0 x1 x2 x3 x4 = s := by
  apply List.ext_getElem?
  intro i
  by_cases h : i = r
  · subst h; rw [tp_get (List.getElem?_eq_some_iff.mp e).1, e]
  · exact tp_ne h
theorem take_core {s : Sto} {r rc : Nat} {cs : List Int} {m : Int} (h : r < s.length) (hne : rc ≠ r) (hrc : s[rc]? = some (.lst (cs.map W.int))) (h0 : 0 < m) (h1 : m < 4611686018427387904) (a : Nat) (b c : Int) (w : W) :
    ∃ (d : Int) (a' : Nat) (b' c' : Int), TTake [.ref r, .int m] (tp s r (.ref rc) (.int (a : Int)) (.int b) (.int c) w) = some (.int d, tp s r (.ref rc) (.int (a' : Int)) (.int b') (.int c') w) ∧ 0 ≤ d ∧ d < m := by
  have gi0 : ∀ x0 x1 x2 x3 x4 : W, gIx (.ref r) (.int 0) (tp s r x0 x1 x2 x3 x4) = some (x0, tp s r x0 x1 x2 x3 x4) := fun x0 x1 x2 x3 x4 => by simp only [gIx, seqOf, tp_get h]; rfl
  have gi1 : ∀ x0 x1 x2 x3 x4 : W, gIx (.ref r) (.int 1) (tp s r x0 x1 x2 x3 x4) = some (x1, tp s r x0 x1 x2 x3 x4) := fun x0 x1 x2 x3 x4 => by simp only [gIx, seqOf, tp_get h]; rfl
  have gi2 : ∀ x0 x1 x2 x3 x4 : W, gIx (.ref r) (.int 2) (tp s r x0 x1 x2 x3 x4) = some (x2, tp s r x0 x1 x2 x3 x4) := fun x0 x1 x2 x3 x4 => by simp only [gIx, seqOf, tp_get h]; rfl
  have gi3 : ∀ x0 x1 x2 x3 x4 : W, gIx (.ref r) (.int 3) (tp s r x0 x1 x2 x3 x4) = some (x3, tp s r x0 x1 x2 x3 x4) := fun x0 x1 x2 x3 x4 => by simp only [gIx, seqOf, tp_get h]; rfl
  have ix1 : ixN 5 1 = some 1 := by decide
  have ix2 : ixN 5 2 = some 2 := by decide
  have ix3 : ixN 5 3 = some 3 := by decide
  have st1 : ∀ x0 x1 x2 x3 x4 y : W, setAt (.ref r) (.int 1) y (tp s r x0 x1 x2 x3 x4) = some (tp s r x0 y x2 x3 x4) := fun x0 x1 x2 x3 x4 y => by
    simp only [setAt, tp_get h, List.length_cons, List.length_nil, Nat.zero_add, Nat.reduceAdd, ix1]
    simp only [tp, setset]
    rfl
  have st2 : ∀ x0 x1 x2 x3 x4 y : W, setAt (.ref r) (.int 2) y (tp s r x0 x1 x2 x3 x4) = some (tp s r x0 x1 y x3 x4) := fun x0 x1 x2 x3 x4 y => by
    simp only [setAt, tp_get h, List.length_cons, List.length_nil, Nat.zero_add, Nat.reduceAdd, ix2]
    simp only [tp, setset]
    rfl
  have st3 : ∀ x0 x1 x2 x3 x4 y : W, setAt (.ref r) (.int 3) y (tp s r x0 x1 x2 x3 x4) = some (tp s r x0 x1 x2 y x4) := fun x0 x1 x2 x3 x4 y => by
    simp only [setAt, tp_get h, List.length_cons, List.length_nil, Nat.zero_add, Nat.reduceAdd, ix3]
    simp only [tp, setset]
    rfl
  have gl : ∀ x0 x1 x2 x3 x4 : W, gLen [.ref rc] (tp s r x0 x1 x2 x3 x4) = some (.int (cs.length : Int), tp s r x0 x1 x2 x3 x4) := fun x0 x1 x2 x3 x4 => by simp [gLen, lenW, seqOf, tp_ne hne, hrc]
  have lo : ∀ x : Int, 0 ≤ x % m := fun x => Int.emod_nonneg _ (by omega)
  have hi : ∀ x : Int, x % m < m := fun x => Int.emod_lt_of_pos _ h0
  have ea : ((a : Int) + 1) = ((a + 1 : Nat) : Int) := by omega
  have e13 : ∀ s : Sto, gPow (.int 10) (.int 18) s = some (.int 1000000000000000000, s) := fun s => by
    have h : decide ((0 : Int) ≤ 18 ∧ (18 : Int) ≤ 1000000 ∧ (10 : Int).natAbs < 2 ^ 64) = true := by decide
    simp only [gIIc, h, if_true]
    rfl
  have neg2 : ∀ s : Sto, gNeg (.int 2) s = some (.int (-2), s) := fun s => rfl
  have mu2 : ∀ (x : Int) (s : Sto), Mir.gMul (.int 2) (.int x) s = some (.int (2 * x), s) := fun x s => by
    simp only [Mir.gMul]
    rw [if_pos (.inl ⟨by decide, by decide⟩)]
  have mun : ∀ (x : Int) (s : Sto), Mir.gMul (.int (-2)) (.int x) s = some (.int (-2 * x), s) := fun x s => by
    simp only [Mir.gMul]
    rw [if_pos (.inl ⟨by decide, by decide⟩)]
  unfold TTake BTake
  by_cases hb : b < m
  · have l1 : ∀ s, gLt (.int b) (.int m) s = some (.bl true, s) := fun s => by simp only [gII, decide_eq_true hb]
    by_cases ha : a < cs.length
    · have l2 : ∀ s, gLt (.int (a : Int)) (.int (cs.length : Int)) s = some (.bl true, s) := fun s => by simp only [gII, decide_eq_true (show (a : Int) < (cs.length : Int) by omega)]
      have gc : ∀ x0 x1 x2 x3 x4 : W, gIx (.ref rc) (.int (a : Int)) (tp s r x0 x1 x2 x3 x4) = some (.int cs[a], tp s r x0 x1 x2 x3 x4) := fun x0 x1 x2 x3 x4 => by
        have : (cs.map W.int)[a]? = some (.int cs[a]) := by simp [ha]
        simp only [gIx, seqOf, tp_ne hne, hrc, atI_nat this]
      have main : ∀ z : Int, (∀ s : Sto, bd (gGe (.int cs[a]) (.int 0) s) (fun x s1 => match x with
            | .bl k => some (k, s1)
            | _ => none) = some (decide (0 ≤ cs[a]), s)) → True := fun _ _ => trivial
      by_cases hz : 0 ≤ cs[a]
      · have g0 : ∀ s, gGe (.int cs[a]) (.int 0) s = some (.bl true, s) := fun s => by simp only [gII, decide_eq_true hz]
        by_cases hg : 1000000000000000000 ≤ 2 * cs[a]
        · have g1 : ∀ s, gGe (.int (2 * cs[a])) (.int 1000000000000000000) s = some (.bl true, s) := fun s => by simp only [gII, decide_eq_true hg]
          refine ⟨(2 * cs[a]) % m, a + 1, (2 * cs[a]) / m, mixI (c + 2 * cs[a]), ?_, lo _, hi _⟩
          simp only [mkF, bd_some, bd_none, sCons, sNil, sSet, sAsg, sPar, sDo, sRet, sRetN, sIf, sPut, sAug, sBrk, sCnt, sFor, iSeq, iEnu, Mir.iRev, Mir.iRng1, Mir.iRng2, eVar, eC, eOp, eUn, eFn, eMt, aNil, aCons, eTup, eLst, eAnd, eOr, eNot, eIf, bTest, bTruth, bAnd, bOr, bNot, bYes, eSl, pNo, pAt, tgM_name, tgM_tup, tgMs_nil, tgMs_name, tgMs_tup, List.getElem?_cons_succ, List.getElem?_cons_zero, List.set_cons_succ, List.set_cons_zero, List.map_cons, List.map_nil, List.length_cons, List.length_nil, List.replicate, List.nil_append, List.cons_append, if_true, if_false, Bool.false_eq_true, Nat.reduceAdd, Nat.reduceSub, Nat.reduceLeDiff, Nat.zero_add, Bool.not_true, Bool.not_false, gi0, gi1, gi2, gi3, l1, gl, l2, gc, g0, mu2, addI, ea, st1, st2, st3, mix_ok, e13, g1, int1, modR h0, divRW h0 h1]
        · have g1 : ∀ s, gGe (.int (2 * cs[a])) (.int 1000000000000000000) s = some (.bl false, s) := fun s => by simp only [gII, decide_eq_false hg]
          refine ⟨(mixI (mixI (2 * cs[a]))) % m, a + 1, (mixI (mixI (2 * cs[a]))) / m, mixI (c + 2 * cs[a]), ?_, lo _, hi _⟩
          simp only [mkF, bd_some, bd_none, sCons, sNil, sSet, sAsg, sPar, sDo, sRet, sRetN, sIf, sPut, sAug, sBrk, sCnt, sFor, iSeq, iEnu, Mir.iRev, Mir.iRng1, Mir.iRng2, eVar, eC, eOp, eUn, eFn, eMt, aNil, aCons, eTup, eLst, eAnd, eOr, eNot, eIf, bTest, bTruth, bAnd, bOr, bNot, bYes, eSl, pNo, pAt, tgM_name, tgM_tup, tgMs_nil, tgMs_name, tgMs_tup, List.getElem?_cons_succ, List.getElem?_cons_zero, List.set_cons_succ, List.set_cons_zero, List.map_cons, List.map_nil, List.length_cons, List.length_nil, List.replicate, List.nil_append, List.cons_append, if_true, if_false, Bool.false_eq_true, Nat.reduceAdd, Nat.reduceSub, Nat.reduceLeDiff, Nat.zero_add, Bool.not_true, Bool.not_false, gi0, gi1, gi2, gi3, l1, gl, l2, gc, g0, mu2, addI, ea, st1, st2, st3, mix_ok, e13, g1, int1, modR h0, divRW h0 h1]
      · have g0 : ∀ s, gGe (.int cs[a]) (.int 0) s = some (.bl false, s) := fun s => by simp only [gII, decide_eq_false hz]
        by_cases hg : 1000000000000000000 ≤ -2 * cs[a] - 1
        · have g1 : ∀ s, gGe (.int (-2 * cs[a] - 1)) (.int 1000000000000000000) s = some (.bl true, s) := fun s => by simp only [gII, decide_eq_true hg]
          refine ⟨(-2 * cs[a] - 1) % m, a + 1, (-2 * cs[a] - 1) / m, mixI (c + (-2 * cs[a] - 1)), ?_, lo _, hi _⟩
          simp only [mkF, bd_some, bd_none, sCons, sNil, sSet, sAsg, sPar, sDo, sRet, sRetN, sIf, sPut, sAug, sBrk, sCnt, sFor, iSeq, iEnu, Mir.iRev, Mir.iRng1, Mir.iRng2, eVar, eC, eOp, eUn, eFn, eMt, aNil, aCons, eTup, eLst, eAnd, eOr, eNot, eIf, bTest, bTruth, bAnd, bOr, bNot, bYes, eSl, pNo, pAt, tgM_name, tgM_tup, tgMs_nil, tgMs_name, tgMs_tup, List.getElem?_cons_succ, List.getElem?_cons_zero, List.set_cons_succ, List.set_cons_zero, List.map_cons, List.map_nil, List.length_cons, List.length_nil, List.replicate, List.nil_append, List.cons_append, if_true, if_false, Bool.false_eq_true, Nat.reduceAdd, Nat.reduceSub, Nat.reduceLeDiff, Nat.zero_add, Bool.not_true, Bool.not_false, gi0, gi1, gi2, gi3, l1, gl, l2, gc, g0, neg2, mun, subI, addI, ea, st1, st2, st3, mix_ok, e13, g1, int1, modR h0, divRW h0 h1]
        · have g1 : ∀ s, gGe (.int (-2 * cs[a] - 1)) (.int 1000000000000000000) s = some (.bl false, s) := fun s => by simp only [gII, decide_eq_false hg]
          refine ⟨(mixI (mixI (-2 * cs[a] - 1))) % m, a + 1, (mixI (mixI (-2 * cs[a] - 1))) / m, mixI (c + (-2 * cs[a] - 1)), ?_, lo _, hi _⟩
          simp only [mkF, bd_some, bd_none, sCons, sNil, sSet, sAsg, sPar, sDo, sRet, sRetN, sIf, sPut, sAug, sBrk, sCnt, sFor, iSeq, iEnu, Mir.iRev, Mir.iRng1, Mir.iRng2, eVar, eC, eOp, eUn, eFn, eMt, aNil, aCons, eTup, eLst, eAnd, eOr, eNot, eIf, bTest, bTruth, bAnd, bOr, bNot, bYes, eSl, pNo, pAt, tgM_name, tgM_tup, tgMs_nil, tgMs_name, tgMs_tup, List.getElem?_cons_succ, List.getElem?_cons_zero, List.set_cons_succ, List.set_cons_zero, List.map_cons, List.map_nil, List.length_cons, List.length_nil, List.replicate, List.nil_append, List.cons_append, if_true, if_false, Bool.false_eq_true, Nat.reduceAdd, Nat.reduceSub, Nat.reduceLeDiff, Nat.zero_add, Bool.not_true, Bool.not_false, gi0, gi1, gi2, gi3, l1, gl, l2, gc, g0, neg2, mun, subI, addI, ea, st1, st2, st3, mix_ok, e13, g1, int1, modR h0, divRW h0 h1]
    · have l2 : ∀ s, gLt (.int (a : Int)) (.int (cs.length : Int)) s = some (.bl false, s) := fun s => by simp only [gII, decide_eq_false (show ¬ (a : Int) < (cs.length : Int) by omega)]
      refine ⟨mixI (c + 1) % m, a, mixI (c + 1) / m, mixI (c + 1), ?_, lo _, hi _⟩
      simp only [mkF, bd_some, bd_none, sCons, sNil, sSet, sAsg, sPar, sDo, sRet, sRetN, sIf, sPut, sAug, sBrk, sCnt, sFor, iSeq, iEnu, Mir.iRev, Mir.iRng1, Mir.iRng2, eVar, eC, eOp, eUn, eFn, eMt, aNil, aCons, eTup, eLst, eAnd, eOr, eNot, eIf, bTest, bTruth, bAnd, bOr, bNot, bYes, eSl, pNo, pAt, tgM_name, tgM_tup, tgMs_nil, tgMs_name, tgMs_tup, List.getElem?_cons_succ, List.getElem?_cons_zero, List.set_cons_succ, List.set_cons_zero, List.map_cons, List.map_nil, List.length_cons, List.length_nil, List.replicate, List.nil_append, List.cons_append, if_true, if_false, Bool.false_eq_true, Nat.reduceAdd, Nat.reduceSub, Nat.reduceLeDiff, Nat.zero_add, Bool.not_true, Bool.not_false, gi0, gi1, gi2, gi3, l1, gl, l2, addI, st1, st2, st3, mix_ok, int1, modR h0, divRW h0 h1]
  · have l1 : ∀ s, gLt (.int b) (.int m) s = some (.bl false, s) := fun s => by simp only [gII, decide_eq_false hb]
    refine ⟨b % m, a, b / m, c, ?_, lo _, hi _⟩
    simp only [mkF, bd_some, bd_none, sCons, sNil, sSet, sAsg, sPar, sDo, sRet, sRetN, sIf, sPut, sAug, sBrk, sCnt, sFor, iSeq, iEnu, Mir.iRev, Mir.iRng1, Mir.iRng2, eVar, eC, eOp, eUn, eFn, eMt, aNil, aCons, eTup, eLst, eAnd, eOr, eNot, eIf, bTest, bTruth, bAnd, bOr, bNot, bYes, eSl, pNo, pAt, tgM_name, tgM_tup, tgMs_nil, tgMs_name, tgMs_tup, List.getElem?_cons_succ, List.getElem?_cons_zero, List.set_cons_succ, List.set_cons_zero, List.map_cons, List.map_nil, List.length_cons, List.length_nil, List.replicate, List.nil_append, List.cons_append, if_true, if_false, Bool.false_eq_true, Nat.reduceAdd, Nat.reduceSub, Nat.reduceLeDiff, Nat.zero_add, Bool.not_true, Bool.not_false, gi0, gi1, gi2, gi3, l1, st2, int1, modR h0, divRW h0 h1]

theorem Tape.fr {s s' : Sto} {r rc : Nat} {cs : List Int} {L : List Nat} (T : Tape s r rc cs) (h : Fr L s s') (h1 : r ∉ L) (h2 : rc ∉ L) : Tape s' r rc cs := by
  obtain ⟨a, b, c, w, e⟩ := T.tape
  exact ⟨⟨a, b, c, w, h.at_ _ _ h1 e⟩, h.at_ _ _ h2 T.cells⟩
theorem Tape.app {s : Sto} {r rc : Nat} {cs : List Int} (T : Tape s r rc cs) (t : Sto) : Tape (s ++ t) r rc cs := by
  obtain ⟨a, b, c, w, e⟩ := T.tape
  exact ⟨⟨a, b, c, w, gapp e⟩, gapp T.cells⟩
theorem Tape.lt {s : Sto} {r rc : Nat} {cs : List Int} (T : Tape s r rc cs) : r < s.length ∧ rc < s.length := by
  obtain ⟨a, b, c, w, e⟩ := T.tape
  exact ⟨gltn e, gltn T.cells⟩
theorem Tape.other {s : Sto} {r rc n : Nat} {cs : List Int} {ws : List W} (T : Tape s r rc cs) (h : s[n]? = some (.lst ws)) (hn : ∀ x y z : W, ∀ m, ws ≠ [.ref m, x, y, z, .int 0]) : True := trivial
theorem take_ok {s : Sto} {r rc : Nat} {cs : List Int} (T : Tape s r rc cs) (m : Int) (h0 : 0 < m) (h1 : m < 4611686018427387904) :
    ∃ (d : Int) (s' : Sto), TTake [.ref r, .int m] s = some (.int d, s') ∧ 0 ≤ d ∧ d < m ∧ Tape s' r rc cs ∧ Fr [r] s s' ∧ s'.length = s.length := by
  obtain ⟨a, b, c, w, e⟩ := T.tape
  have hl := (List.getElem?_eq_some_iff.mp e).1
  obtain ⟨d, a', b', c', e1, d0, d1⟩ := take_core hl T.ne T.cells h0 h1 a b c w
  rw [s_tp e] at e1
  exact ⟨d, _, e1, d0, d1, ⟨⟨a', b', c', w, tp_get hl⟩, by rw [tp_ne T.ne]; exact T.cells⟩, ⟨by simp [tp], fun i o hi eo => by rw [tp_ne (fun z => hi (by rw [z]; exact List.mem_singleton_self _))]; exact eo⟩, by simp [tp]⟩
/-- take, as a number below m -/
theorem take_wp {s : Sto} {r rc : Nat} {cs : List Int} {R : W → Sto → Prop} (T : Tape s r rc cs) (m : Nat) (h0 : 0 < m) (h1 : m ≤ 1000000000000) (h : ∀ (d : Nat) (s' : Sto), d < m → Tape s' r rc cs → Fr [r] s s' → s'.length = s.length → R (.int (d : Int)) s') : Wp (TTake [.ref r, .int (m : Int)] s) R := by
  obtain ⟨d, s', e, d0, d1, T', f, l⟩ := take_ok T (m : Int) (by omega) (by omega)
  obtain ⟨k, rfl⟩ : ∃ k : Nat, d = (k : Int) := ⟨d.toNat, by omega⟩
  exact ⟨_, _, e, h k s' (by omega) T' f l⟩
noncomputable def BTape : FS := (sRet (eLst (aCons (eFn gList (aCons (eVar 0) aNil)) (aCons (eC (.int 0)) (aCons (eC (.int 0)) (aCons (eC (.int 1)) (aCons (eVar 1) aNil)))))))
noncomputable def TTape : List W → Sto → Rz W := mkF 2 2 BTape
theorem tape_ok (ns : List Int) : TTape [.lro (ns.map W.int), .int 0] [] = some (.ref 1, [.lst (ns.map W.int), .lst [.ref 0, .int 0, .int 0, .int 1, .int 0]]) := by
  have gl : gList [.lro (ns.map W.int)] [] = some (.ref 0, [.lst (ns.map W.int)]) := rfl
  unfold TTape BTape
  simp only [mkF, bd_some, bd_none, sCons, sNil, sSet, sAsg, sPar, sDo, sRet, sRetN, sIf, sPut, sAug, sBrk, sCnt, sFor, iSeq, iEnu, Mir.iRev, Mir.iRng1, Mir.iRng2, eVar, eC, eOp, eUn, eFn, eMt, aNil, aCons, eTup, eLst, eAnd, eOr, eNot, eIf, bTest, bTruth, bAnd, bOr, bNot, bYes, eSl, pNo, pAt, tgM_name, tgM_tup, tgMs_nil, tgMs_name, tgMs_tup, List.getElem?_cons_succ, List.getElem?_cons_zero, List.set_cons_succ, List.set_cons_zero, List.map_cons, List.map_nil, List.length_cons, List.length_nil, List.replicate, List.nil_append, List.cons_append, if_true, if_false, Bool.false_eq_true, Nat.reduceAdd, Nat.reduceSub, Nat.reduceLeDiff, Nat.zero_add, Bool.not_true, Bool.not_false, gl]
theorem tape_T (ns : List Int) : Tape [.lst (ns.map W.int), .lst [.ref 0, .int 0, .int 0, .int 1, .int 0]] 1 0 ns := ⟨⟨0, 0, 1, .int 0, rfl⟩, rfl⟩
end Mir

set_option Elab.async false
set_option linter.all false
set_option maxRecDepth 100000
namespace Mir
open PySem PySem.Spec PyProof.Rows L2
/-! ### plain data that is compared -/
def PlW (n : Nat) (w : W) : Prop := ∃ d, pyW w = some d ∧ d.canLay0 = true ∧ d.depth ≤ n
def PlWs (n : Nat) (ws : List W) : Prop := ∃ ds, pyWs ws = some ds ∧ PyData.canLayAll0 ds = true ∧ PyData.depthAll ds ≤ n
theorem PlW.non {n : Nat} : PlW (n + 1) .non := ⟨.none, by rw [pyW], by rw [PyData.canLay0], by rw [PyData.depth]; omega⟩
theorem PlW.bl {n : Nat} {b : Bool} : PlW (n + 1) (.bl b) := ⟨.bool b, by rw [pyW], by rw [PyData.canLay0], by rw [PyData.depth]; omega⟩
theorem PlW.int {n : Nat} {i : Int} : PlW (n + 1) (.int i) := ⟨.int i, by rw [pyW], by rw [PyData.canLay0], by rw [PyData.depth]; omega⟩
theorem PlW.str {n : Nat} {z : Str} (h : PyData.strOk z = true) : PlW (n + 1) (.str z) := ⟨.str z, by rw [pyW], by rw [PyData.canLay0]; exact h, by rw [PyData.depth]; omega⟩
theorem PlWs.nil {n : Nat} : PlWs n [] := ⟨[], by rw [pyWs], by rw [PyData.canLayAll0], by rw [PyData.depthAll]; omega⟩
theorem PlWs.cons {n : Nat} {w : W} {ws : List W} (h : PlW n w) (q : PlWs n ws) : PlWs n (w :: ws) := by
  obtain ⟨d, h1, h2, h3⟩ := h
  obtain ⟨ds, q1, q2, q3⟩ := q
  exact ⟨d :: ds, by rw [pyWs, h1, q1], by rw [PyData.canLayAll0, h2, q2]; rfl, by rw [PyData.depthAll]; omega⟩
theorem PlW.tup {n : Nat} {ws : List W} (h : PlWs n ws) : PlW (n + 1) (.tup ws) := by
  obtain ⟨ds, h1, h2, h3⟩ := h
  exact ⟨.tuple ds, by rw [pyW, h1]; rfl, by rw [PyData.canLay0]; exact h2, by rw [PyData.depth]; omega⟩
theorem PlW.lro {n : Nat} {ws : List W} (h : PlWs n ws) : PlW (n + 1) (.lro ws) := by
  obtain ⟨ds, h1, h2, h3⟩ := h
  exact ⟨.list ds, by rw [pyW, h1]; rfl, by rw [PyData.canLay0]; exact h2, by rw [PyData.depth]; omega⟩
theorem PlWs.of {n : Nat} : ∀ {ws : List W}, (∀ w ∈ ws, PlW n w) → PlWs n ws
  | [], _ => .nil
  | w :: ws, h => .cons (h w List.mem_cons_self) (.of fun x hx => h x (List.mem_cons_of_mem _ hx))
theorem PlW.mono {n m : Nat} {w : W} (h : PlW n w) (q : n ≤ m) : PlW m w := by
  obtain ⟨d, h1, h2, h3⟩ := h
  exact ⟨d, h1, h2, by omega⟩
theorem PlWs.mono {n m : Nat} {w : List W} (h : PlWs n w) (q : n ≤ m) : PlWs m w := by
  obtain ⟨d, h1, h2, h3⟩ := h
  exact ⟨d, h1, h2, by omega⟩
theorem eqSame {w : W} {s : Sto} (h : PlW 64 w) : gEq w w s = some (.bl true, s) := by
  obtain ⟨d, h1, h2, h3⟩ := h
  have sh : SeqAt.shaped d = true := by simp only [SeqAt.shaped, h2, Bool.true_and, decide_eq_true h3]
  have he := SeqAt.eqv_refl d h2
  have key : eqW s w w = some true := by
    unfold eqW
    cases e : sEq w w with
    | some b => cases w <;> simp_all [sEq]
    | none =>
      have p : pyS s 3 w = some d := by cases w <;> first | exact h1 | (rw [pyW] at h1; cases h1)
      simp only [datEq, p, sh, and_self, if_true, he]
  simp only [gEq, key]
theorem neSm {w : W} {s : Sto} (h : PlW 64 w) : gNe w w s = some (.bl false, s) := by
  have e := eqSame (s := s) h
  unfold gEq at e
  unfold gNe
  cases q : eqW s w w with
  | none => rw [q] at e; cases e
  | some b => rw [q] at e; cases e; rfl
end Mir

set_option Elab.async false
set_option linter.all false
set_option maxRecDepth 100000
namespace Mir
open PySem PySem.Spec PyProof.Rows L2
/-! ### runs of loops over known values -/
section
variable {t : FT} {f : FS} {n : Nat} {ρ : EnvM} {s : Sto} {Q : Out → Sto → Prop}
def QW (t : FT) (f : FS) (n : Nat) (Q : Out → Sto → Prop) : Out → Sto → Prop := fun o s => match o with
  | .nx ρ => Wp (wh t f n ρ s) Q
  | .ct ρ => Wp (wh t f n ρ s) Q
  | .bk ρ => Q (.nx ρ) s
  | .rt w => Q (.rt w) s
theorem qw_nx : QW t f n Q (.nx ρ) s = Wp (wh t f n ρ s) Q := rfl
theorem qw_ct : QW t f n Q (.ct ρ) s = Wp (wh t f n ρ s) Q := rfl
theorem qw_bk : QW t f n Q (.bk ρ) s = Q (.nx ρ) s := rfl
theorem qw_rt {w : W} : QW t f n Q (.rt w) s = Q (.rt w) s := rfl
theorem wh_go (h : Wp (t ρ s) (fun k s1 => if k = true then WpS [f] ρ s1 (QW t f n Q) else Q (.nx ρ) s1)) : Wp (wh t f (n + 1) ρ s) Q := by
  rw [wh, wp_bd]
  refine h.mono fun k s1 q => ?_
  cases k with
  | false => simp only [Bool.false_eq_true, if_false, wp_some] at q ⊢; exact q
  | true =>
    simp only [if_true, wp_bd] at q ⊢
    rw [wps_one] at q
    refine q.mono fun o s2 q => ?_
    cases o with
    | nx ρ2 => exact q
    | ct ρ2 => exact q
    | bk ρ2 => simp only [wp_some]; exact q
    | rt w => simp only [wp_some]; exact q
def QF (t : Tg) (f : FS) (c : Option (Nat × List W)) (xs : List W) (Q : Out → Sto → Prop) : Out → Sto → Prop := fun o s => match o with
  | .nx ρ => Wp (fo t f c xs ρ s) Q
  | .ct ρ => Wp (fo t f c xs ρ s) Q
  | .bk ρ => Q (.nx ρ) s
  | .rt w => Q (.rt w) s
variable {tg : Tg} {c : Option (Nat × List W)} {x : W} {xs : List W}
theorem qf_nx : QF tg f c xs Q (.nx ρ) s = Wp (fo tg f c xs ρ s) Q := rfl
theorem qf_ct : QF tg f c xs Q (.ct ρ) s = Wp (fo tg f c xs ρ s) Q := rfl
theorem qf_bk : QF tg f c xs Q (.bk ρ) s = Q (.nx ρ) s := rfl
theorem qf_rt {w : W} : QF tg f c xs Q (.rt w) s = Q (.rt w) s := rfl
theorem fo_goN (h : okc c s ∧ Q (.nx ρ) s) : Wp (fo tg f c [] ρ s) Q := by
  rw [fo, if_pos h.1, wp_some]; exact h.2
theorem fo_goC (h : okc c s ∧ match tgM tg x ρ with | some ρ1 => WpS [f] ρ1 s (QF tg f c xs Q) | none => False) : Wp (fo tg f c (x :: xs) ρ s) Q := by
  obtain ⟨h1, h2⟩ := h
  rw [fo, if_pos h1]
  cases e : tgM tg x ρ with
  | none => rw [e] at h2; exact h2.elim
  | some ρ1 =>
    rw [e] at h2
    simp only [wp_bd] at h2 ⊢
    rw [wps_one] at h2
    refine h2.mono fun o s2 q => ?_
    cases o with
    | nx ρ2 => exact q
    | ct ρ2 => exact q
    | bk ρ2 => simp only [wp_some]; exact q
    | rt w => simp only [wp_some]; exact q
theorem okN : okc none s = True := rfl
theorem okR {n : Nat} {ws : List W} (h : s[n]? = some (.lst ws)) : okc (some (n, ws)) s = True := eq_true h
theorem lcf_goN {t : Tg} {u : FT} {f : FE} {R : List W → Sto → Prop} (h : okc c s) : Wp (lcf t u f c ρ [] s) R = R [] s := by rw [lcf, if_pos h, wp_some]
theorem lcf_goC {i : Nat} {f : FE} {R : List W → Sto → Prop} (h : okc c s) : Wp (lcf (.name i) bYes f c ρ (x :: xs) s) R = Wp (f (ρ.set i (some x)) s) (fun w s2 => Wp (lcf (.name i) bYes f c ρ xs s2) (fun ws s3 => R (w :: ws) s3)) := by
  rw [lcf, if_pos h]
  simp only [tgM_name, bYes, bd_some, if_true, wp_bd, wp_some]
theorem lcf_goT {ts : List Tg} {u : FT} {f : FE} {R : List W → Sto → Prop} (h : okc c s) : Wp (lcf (.tup ts) bYes f c ρ (x :: xs) s) R = match tgM (.tup ts) x ρ with
    | some ρ1 => Wp (f ρ1 s) (fun w s2 => Wp (lcf (.tup ts) bYes f c ρ xs s2) (fun ws s3 => R (w :: ws) s3))
    | none => False := by
  rw [lcf, if_pos h]
  cases tgM (.tup ts) x ρ with
  | none => simp only [wp_none]
  | some ρ1 => simp only [bYes, bd_some, if_true, wp_bd, wp_some]
theorem slT1 {ws : List W} {p : Nat} {s : Sto} : gSlA (.tup ws) none (some (p : Int)) s = some (.tup (ws.take p), s) := by
  have k0 : HT.sIx ws.length 0 none = 0 := rfl
  simp only [gSlA, HT.sIx_nat, k0, List.drop_zero, Nat.sub_zero]
  rcases Nat.le_total p ws.length with h | h
  · rw [Nat.min_eq_left h]
  · rw [Nat.min_eq_right h, List.take_length, List.take_of_length_le h]
theorem slT2 {ws : List W} {p : Nat} {s : Sto} : gSlA (.tup ws) (some (p : Int)) none s = some (.tup (ws.drop p), s) := by
  have k0 : HT.sIx ws.length ws.length none = ws.length := rfl
  simp only [gSlA, HT.sIx_nat, k0]
  rcases Nat.le_total p ws.length with h | h
  · rw [Nat.min_eq_left h, List.take_of_length_le (by rw [List.length_drop]; omega)]
  · rw [Nat.min_eq_right h, List.drop_length, List.drop_of_length_le h, List.take_nil]
theorem sl4 {a b c d : W} {ws : List W} {s : Sto} : gSlA (.tup (a :: b :: c :: d :: ws)) (some 4) none s = some (.tup ws, s) := slT2 (p := 4)
theorem sl1 {a : W} {ws : List W} {s : Sto} : gSlA (.tup (a :: ws)) (some 1) none s = some (.tup ws, s) := slT2 (p := 1)
theorem okL1 {ws : List W} : okc (some (s.length, ws)) (s ++ [.lst ws]) = True := okR gnew
theorem lstL1 {ws : List W} : lstOf (.ref s.length) (s ++ [.lst ws]) = some ws := lstR gnew
theorem ix4 {a b c d e : W} {r : List W} {s : Sto} : gIx (.tup (a :: b :: c :: d :: e :: r)) (.int 4) s = some (e, s) := ixT (i := 4) rfl
theorem ix5 {a b c d e f : W} {r : List W} {s : Sto} : gIx (.tup (a :: b :: c :: d :: e :: f :: r)) (.int 5) s = some (f, s) := ixT (i := 5) rfl
theorem ix6 {a b c d e f g : W} {r : List W} {s : Sto} : gIx (.tup (a :: b :: c :: d :: e :: f :: g :: r)) (.int 6) s = some (g, s) := ixT (i := 6) rfl
end
end Mir

set_option Elab.async false
set_option linter.all false
set_option maxRecDepth 100000
set_option maxHeartbeats 1000000
/-! list(zip(a, b)) of two tuples: zip after its first pair was handed out and kept. -/
namespace Vz
open PySem
open PySem.Sem (wp)
abbrev ZipB (h : Heap) (z TI TO T : Addr) (f : Bool) : Prop :=
  h.get? z = some { cls := .type "zip", dict := none, data := .fields #[rawInt T, .bool f, .bool false, .ref TI, .ref TO], slots := #[] }
section
variable {prog : Program} {w : World} {A : Around} {E : Value → Shared → Prop} {s : Shared}
theorem alive {a : Addr} {o : Obj} {Q : Option Obj → Shared → Prop} (ho : s.heap.get? a = some o) (h : Q (some o) s) : wpAny (model prog w) A (loadIfAlive a) Q E s := by
  have h' : Q (s.heap.get? a) s := by rw [ho]; exact h
  exact fun _ _ _ => h'
theorem busy_free {z TI TO T : Addr} {f : Bool} {oT : Obj} {Q : Bool → Shared → Prop} (hz : ZipB s.heap z TI TO T f) (hT : s.heap.get? T = some oT)
    (h : ∀ h0, ZipB h0 z TI TO T true → Heap.SameBut z s.heap h0 → Q false { s with heap := h0 }) : wpAny (model prog w) A (Builtin.SmallTypes.ownedTupleIsFree (.ref z)) Q E s := by
  unfold Builtin.SmallTypes.ownedTupleIsFree
  refine wpAny_bind (wpAny_field hz rfl (x := rawInt T) rfl ?_)
  show wpAny _ _ (loadIfAlive ((T : Int).toNat) >>= _) _ _ _
  rw [Int.toNat_natCast]
  refine wpAny_bind (alive hT ?_)
  simp only [Option.isNone_some, Bool.false_eq_true, if_false]
  refine wpAny_bind (wpAny_field hz rfl (x := .bool f) rfl ?_)
  cases f with
  | true =>
    rw [if_neg (show ¬ ((Value.bool true != Value.bool true) = true) from Bool.false_ne_true)]
    exact wpAny_pure (h _ hz (Heap.SameBut.refl _ _))
  | false =>
    rw [if_pos (show (Value.bool false != Value.bool true) = true from rfl)]
    refine wpAny_bind (wpAny_setField_rec hz (by simp) fun h₃ he₃ hs₃ => ?_)
    exact wpAny_pure (h h₃ he₃ hs₃)
theorem zipB_item {z TI TO T i1 i2 l1 l2 : Addr} {f : Bool} {oT : Obj} {k1 k2 : Nat} {xs ys : Array Value} {x y : Value} {Q : Value → Shared → Prop} (D : ZipApart z TI TO i1 i2 l1 l2)
    (hz : ZipB s.heap z TI TO T f) (hT : s.heap.get? T = some oT) (hTI : IsPair s.heap TI (.ref i1) (.ref i2))
    (h1 : s.heap.IsTupleIter i1 l1 k1) (h2 : s.heap.IsTupleIter i2 l2 k2) (hl1 : s.heap.IsTuple l1 xs) (hl2 : s.heap.IsTuple l2 ys) (hx : xs[k1]? = some x) (hy : ys[k2]? = some y)
    (hQ : ∀ h', ZipB h' z TI TO T true → h'.IsTupleIter i1 l1 (k1 + 1) → h'.IsTupleIter i2 l2 (k2 + 1) → IsPair h' s.heap.objs.size x y →
      (∀ c o, c ≠ z → c ≠ i1 → c ≠ i2 → s.heap.get? c = some o → h'.get? c = some o) → Q (.ref s.heap.objs.size) { s with heap := h' }) :
    wpAny (model prog w) A (Builtin.«zip.__next__» ⟨[.ref z], []⟩) (fun fin s' => ∃ v, fin = .done (.ret v) ∧ Q v s') E s := by
  show wpAny _ _ (field (.ref z) 2 >>= _) _ _ _
  refine wpAny_bind (wpAny_field hz rfl (x := .bool false) rfl ?_)
  show wpAny _ _ (field (.ref z) 3 >>= _) _ _ _
  refine wpAny_bind (wpAny_field hz rfl (x := .ref TI) rfl ?_)
  refine wpAny_bind (wpAny_seqItems hTI rfl ?_)
  show wpAny _ _ (Builtin.SmallTypes.ownedTupleIsFree (.ref z) >>= _) _ _ _
  refine wpAny_bind (busy_free hz hT fun h0 hz0 hs0 => ?_)
  simp only [Bool.false_eq_true, if_false]
  refine wpAny_bind ?_
  first
  | rw [List.forIn_toArray]
  | (rw [← Array.forIn_toList]; simp only [List.toList_toArray])
  | rw [← Array.forIn_toList]
  simp only [List.forIn_cons, List.forIn_nil]
  refine wpAny_bind (wpAny_bind (wpAny_holding ?_))
  show wpAny _ _ (Builtin.SmallTypes.nextOf (.ref i1) >>= _) _ _ _
  refine wpAny_bind (RZ.nextOf_tuple_item (h1.extBut hs0.extBut D.i1z) (hl1.extBut hs0.extBut D.l1z) hx fun h₂ h1₂ hs₂ => wpAny_pure ?_)
  refine wpAny_pure ?_
  refine wpAny_bind (wpAny_bind (wpAny_holding ?_))
  show wpAny _ _ (Builtin.SmallTypes.nextOf (.ref i2) >>= _) _ _ _
  refine wpAny_bind (RZ.nextOf_tuple_item ((h2.extBut hs0.extBut D.i2z).extBut hs₂.extBut D.i12.symm) ((hl2.extBut hs0.extBut D.l2z).extBut hs₂.extBut D.l2i1) hy fun h₄ h2₄ hs₄ => wpAny_pure ?_)
  refine wpAny_pure (wpAny_pure ?_)
  refine wpAny_bind (wpAny_newTuple ?_ (by show 2 ≤ sizeLine; decide))
  have hsz : h₄.objs.size = s.heap.objs.size := by rw [hs₄.1, hs₂.1, hs0.1]
  have k4 : ∀ c o, c ≠ z → c ≠ i1 → c ≠ i2 → s.heap.get? c = some o → h₄.get? c = some o := fun c o c1 c2 c3 e => hs₄.extBut _ _ c3 (hs₂.extBut _ _ c2 (hs0.extBut _ _ c1 e))
  have hz4 : ZipB h₄ z TI TO T true := hs₄.extBut _ _ D.i2z.symm (hs₂.extBut _ _ D.i1z.symm hz0)
  refine wpAny_pure ⟨_, rfl, ?_⟩
  show Q (.ref h₄.objs.size) _
  rw [hsz]
  refine hQ _ (Heap.get?_push_of_some _ hz4) (((h1₂.extBut hs₄.extBut D.i12)).at fun o e => Heap.get?_push_of_some _ e) (h2₄.at fun o e => Heap.get?_push_of_some _ e) ?_ fun c o c1 c2 c3 e => Heap.get?_push_of_some _ (k4 c o c1 c2 c3 e)
  rw [← hsz]
  exact Heap.get?_push_size _ rfl
theorem zipB_end {z TI TO T i1 i2 l1 l2 : Addr} {f : Bool} {oT : Obj} {k1 k2 : Nat} {xs ys : Array Value} {Q : Fin → Shared → Prop} (hh : A.handled = none) (D : ZipApart z TI TO i1 i2 l1 l2)
    (hz : ZipB s.heap z TI TO T f) (hT : s.heap.get? T = some oT) (hTI : IsPair s.heap TI (.ref i1) (.ref i2))
    (h1 : s.heap.IsTupleIter i1 l1 k1) (h2 : s.heap.IsTupleIter i2 l2 k2) (hl1 : s.heap.IsTuple l1 xs) (hl2 : s.heap.IsTuple l2 ys) (hend : xs[k1]? = none ∨ ys[k2]? = none)
    (hE : ∀ h' e, (∀ c o, c ≠ z → c ≠ i1 → c ≠ i2 → s.heap.get? c = some o → h'.get? c = some o) → (∃ o, h'.get? e = some o ∧ o.cls = .type "StopIteration") → E (.ref e) { s with heap := h' }) :
    wpAny (model prog w) A (Builtin.«zip.__next__» ⟨[.ref z], []⟩) Q E s := by
  show wpAny _ _ (field (.ref z) 2 >>= _) _ _ _
  refine wpAny_bind (wpAny_field hz rfl (x := .bool false) rfl ?_)
  show wpAny _ _ (field (.ref z) 3 >>= _) _ _ _
  refine wpAny_bind (wpAny_field hz rfl (x := .ref TI) rfl ?_)
  refine wpAny_bind (wpAny_seqItems hTI rfl ?_)
  show wpAny _ _ (Builtin.SmallTypes.ownedTupleIsFree (.ref z) >>= _) _ _ _
  refine wpAny_bind (busy_free hz hT fun h0 hz0 hs0 => ?_)
  simp only [Bool.false_eq_true, if_false]
  refine wpAny_bind ?_
  first
  | rw [List.forIn_toArray]
  | (rw [← Array.forIn_toList]; simp only [List.toList_toArray])
  | rw [← Array.forIn_toList]
  simp only [List.forIn_cons, List.forIn_nil]
  refine wpAny_bind (wpAny_bind (wpAny_holding ?_))
  show wpAny _ _ (Builtin.SmallTypes.nextOf (.ref i1) >>= _) _ _ _
  cases hx : xs[k1]? with
  | none =>
    refine wpAny_bind (RZ.nextOf_tuple_end hh (h1.extBut hs0.extBut D.i1z) (hl1.extBut hs0.extBut D.l1z) hx fun h₂ e hs₂ he => ?_)
    exact hE h₂ e (fun c o c1 c2 _ q => hs₂ _ _ c2 (hs0.extBut _ _ c1 q)) he
  | some x =>
    have hy : ys[k2]? = none := by rcases hend with h | h; rw [hx] at h; cases h; exact h
    refine wpAny_bind (RZ.nextOf_tuple_item (h1.extBut hs0.extBut D.i1z) (hl1.extBut hs0.extBut D.l1z) hx fun h₂ h1₂ hs₂ => wpAny_pure ?_)
    refine wpAny_pure ?_
    refine wpAny_bind (wpAny_bind (wpAny_holding ?_))
    show wpAny _ _ (Builtin.SmallTypes.nextOf (.ref i2) >>= _) _ _ _
    refine wpAny_bind (RZ.nextOf_tuple_end hh ((h2.extBut hs0.extBut D.i2z).extBut hs₂.extBut D.i12.symm) ((hl2.extBut hs0.extBut D.l2z).extBut hs₂.extBut D.l2i1) hy fun h₄ e hs₄ he => ?_)
    exact hE h₄ e (fun c o c1 c2 c3 q => hs₄ _ _ c3 (hs₂.extBut _ _ c2 (hs0.extBut _ _ c1 q))) he
theorem pyNext_zipB_item {z TI TO T i1 i2 l1 l2 : Addr} {f : Bool} {oT : Obj} {k1 k2 : Nat} {xs ys : Array Value} {x y : Value} {Q : Option Value → Shared → Prop} (D : ZipApart z TI TO i1 i2 l1 l2)
    (hz : ZipB s.heap z TI TO T f) (hT : s.heap.get? T = some oT) (hTI : IsPair s.heap TI (.ref i1) (.ref i2))
    (h1 : s.heap.IsTupleIter i1 l1 k1) (h2 : s.heap.IsTupleIter i2 l2 k2) (hl1 : s.heap.IsTuple l1 xs) (hl2 : s.heap.IsTuple l2 ys) (hx : xs[k1]? = some x) (hy : ys[k2]? = some y)
    (hQ : ∀ h', ZipB h' z TI TO T true → h'.IsTupleIter i1 l1 (k1 + 1) → h'.IsTupleIter i2 l2 (k2 + 1) → IsPair h' s.heap.objs.size x y →
      (∀ c o, c ≠ z → c ≠ i1 → c ≠ i2 → s.heap.get? c = some o → h'.get? c = some o) → Q (some (.ref s.heap.objs.size)) { s with heap := h' }) :
    wpAny (model prog w) A (pyNext (.ref z)) Q E s := by
  have hTy : s.TypeIs (.ref z) "zip" := ⟨_, hz, rfl⟩
  unfold pyNext
  exact wpAny_bind (wpAny_attempt (wpAny_callSpecial?_slot (name := Str.ofString "__next__") hTy F.slot_zip_next
    (wpAny_call_entry F.slot_zip_next hTy F.entry_zip_next
      (zipB_item D hz hT hTI h1 h2 hl1 hl2 hx hy fun h' a1 a2 a3 a4 a5 => wpAny_pure (hQ h' a1 a2 a3 a4 a5)) (F.args_zip_next_1 _))))
theorem pyNext_zipB_end {z TI TO T i1 i2 l1 l2 : Addr} {f : Bool} {oT : Obj} {k1 k2 : Nat} {xs ys : Array Value} {Q : Option Value → Shared → Prop} (hh : A.handled = none) (D : ZipApart z TI TO i1 i2 l1 l2)
    (hz : ZipB s.heap z TI TO T f) (hT : s.heap.get? T = some oT) (hTI : IsPair s.heap TI (.ref i1) (.ref i2))
    (h1 : s.heap.IsTupleIter i1 l1 k1) (h2 : s.heap.IsTupleIter i2 l2 k2) (hl1 : s.heap.IsTuple l1 xs) (hl2 : s.heap.IsTuple l2 ys) (hend : xs[k1]? = none ∨ ys[k2]? = none)
    (hQ : ∀ h', (∀ c o, c ≠ z → c ≠ i1 → c ≠ i2 → s.heap.get? c = some o → h'.get? c = some o) → Q none { s with heap := h' }) : wpAny (model prog w) A (pyNext (.ref z)) Q E s := by
  have hTy : s.TypeIs (.ref z) "zip" := ⟨_, hz, rfl⟩
  unfold pyNext
  refine wpAny_bind (wpAny_attempt (wpAny_callSpecial?_slot (name := Str.ofString "__next__") hTy F.slot_zip_next
    (wpAny_call_entry F.slot_zip_next hTy F.entry_zip_next (zipB_end hh D hz hT hTI h1 h2 hl1 hl2 hend fun h' e hk he => ?_) (F.args_zip_next_1 _))))
  obtain ⟨o, ho, hc⟩ := he
  refine wpAny_bind (wpAny_isInstance (T := "StopIteration") (b := true) ⟨o, ho, hc⟩ isSubtype_stop ?_)
  exact wpAny_pure (hQ _ hk)
theorem zip_no_len : typeLookup (.type "zip") "__len__" = pure none := by rw [typeLookup_type, builtinLookup_eq_fast]; kernel_rfl
theorem zip_no_hint : typeLookup (.type "zip") "__length_hint__" = pure none := by rw [typeLookup_type, builtinLookup_eq_fast]; kernel_rfl
end
end Vz

set_option Elab.async false
set_option linter.all false
set_option maxRecDepth 100000
set_option maxHeartbeats 1000000
namespace Vz
open PySem PySem.Spec PyProof.Rows L2
def ZS (z TI TO i1 i2 a b S : Addr) (i : Nat) (h : Heap) : Prop :=
  ((IsZip h z TI TO .none ∧ ∃ x y, IsPair h TO x y) ∨ ∃ T f oT, ZipB h z TI TO T f ∧ h.get? T = some oT ∧ T ∉ [z, TI, TO, i1, i2] ∧ T ≠ S) ∧ IsPair h TI (.ref i1) (.ref i2) ∧ h.IsTupleIter i1 a i ∧ h.IsTupleIter i2 b i ∧ ∃ oO, h.get? TO = some oO
theorem ZS.keep {z TI TO i1 i2 a b S : Addr} {i : Nat} {h h' : Heap} (st : ZS z TI TO i1 i2 a b S i h) (hS : S ∉ [z, TI, TO, i1, i2]) (k : ∀ c o, c ≠ S → h.get? c = some o → h'.get? c = some o) : ZS z TI TO i1 i2 a b S i h' := by
  obtain ⟨e, hTI, h1, h2, oO, hO⟩ := st
  have n : ∀ c, c ∈ [z, TI, TO, i1, i2] → c ≠ S := fun c hc q => hS (q ▸ hc)
  refine ⟨?_, k _ _ (n _ (by simp)) hTI, h1.at fun o q => k _ o (n _ (by simp)) q, h2.at fun o q => k _ o (n _ (by simp)) q, oO, k _ _ (n _ (by simp)) hO⟩
  rcases e with ⟨hz, x, y, hTO⟩ | ⟨T, f, oT, hz, hT, n1, n2⟩
  · exact .inl ⟨k _ _ (n _ (by simp)) hz, x, y, k _ _ (n _ (by simp)) hTO⟩
  · exact .inr ⟨T, f, oT, k _ _ (n _ (by simp)) hz, k _ _ n2 hT, n1, n2⟩
section
variable {prog : Program} {w : World} {A : Around} {E : Value → Shared → Prop} {s : Shared}
theorem zs_item {z TI TO i1 i2 a b S : Addr} {i : Nat} {xs ys : Array Value} {x y : Value} {Q : Option Value → Shared → Prop} (D : ZipApart z TI TO i1 i2 a b) (hS : S < s.heap.objs.size)
    (st : ZS z TI TO i1 i2 a b S i s.heap) (hl1 : s.heap.IsTuple a xs) (hl2 : s.heap.IsTuple b ys) (hx : xs[i]? = some x) (hy : ys[i]? = some y)
    (hQ : ∀ h', ZS z TI TO i1 i2 a b S (i + 1) h' → IsPair h' s.heap.objs.size x y → (∀ c o, c ∉ [z, TI, TO, i1, i2] → s.heap.get? c = some o → h'.get? c = some o) → Q (some (.ref s.heap.objs.size)) { s with heap := h' }) :
    wpAny (model prog w) A (pyNext (.ref z)) Q E s := by
  obtain ⟨e, hTI, h1, h2, oO, hO⟩ := st
  have l1 : i1 < s.heap.objs.size := by obtain ⟨_, q, _⟩ := h1; exact Heap.lt_size q
  have l2 : i2 < s.heap.objs.size := by obtain ⟨_, q, _⟩ := h2; exact Heap.lt_size q
  have l3 : TI < s.heap.objs.size := Heap.lt_size hTI
  rcases e with ⟨hz, x0, y0, hTO⟩ | ⟨T, f, oT, hz, hT, n1, n2⟩
  · refine RZ.pyNext_zipT_item D hz hTI hTO h1 h2 hl1 hl2 hx hy fun h' z' TO' h1' h2' hT hsz hk => ?_
    have l4 : z < s.heap.objs.size := Heap.lt_size hz
    have l5 : TO < s.heap.objs.size := Heap.lt_size hTO
    refine hQ h' ⟨.inr ⟨s.heap.objs.size, false, _, z', hT, ?_, Nat.ne_of_gt hS⟩, hk _ _ D.TIz D.TITO D.TIi1 D.TIi2 hTI, h1', h2', _, TO'⟩ hT fun c o hc q => ?_
    · intro hm
      simp only [List.mem_cons, List.not_mem_nil, or_false] at hm
      rcases hm with q | q | q | q | q
      · exact Nat.lt_irrefl _ (q ▸ l4)
      · exact Nat.lt_irrefl _ (q ▸ l3)
      · exact Nat.lt_irrefl _ (q ▸ l5)
      · exact Nat.lt_irrefl _ (q ▸ l1)
      · exact Nat.lt_irrefl _ (q ▸ l2)
    · simp only [List.mem_cons, List.not_mem_nil, or_false, not_or] at hc
      exact hk c o hc.1 hc.2.2.1 hc.2.2.2.1 hc.2.2.2.2 q
  · have n1' := n1
    simp only [List.mem_cons, List.not_mem_nil, or_false, not_or] at n1'
    refine pyNext_zipB_item D hz hT hTI h1 h2 hl1 hl2 hx hy fun h' z' h1' h2' hT' hk => ?_
    refine hQ h' ⟨.inr ⟨T, true, oT, z', hk _ _ n1'.1 n1'.2.2.2.1 n1'.2.2.2.2 hT, n1, n2⟩, hk _ _ D.TIz D.TIi1 D.TIi2 hTI, h1', h2', oO, hk _ _ D.TOz D.TOi1 D.TOi2 hO⟩ hT' fun c o hc q => ?_
    simp only [List.mem_cons, List.not_mem_nil, or_false, not_or] at hc
    exact hk c o hc.1 hc.2.2.2.1 hc.2.2.2.2 q
theorem zs_end {z TI TO i1 i2 a b S : Addr} {i : Nat} {xs ys : Array Value} {Q : Option Value → Shared → Prop} (hh : A.handled = none) (D : ZipApart z TI TO i1 i2 a b)
    (st : ZS z TI TO i1 i2 a b S i s.heap) (hl1 : s.heap.IsTuple a xs) (hl2 : s.heap.IsTuple b ys) (he : xs[i]? = none ∨ ys[i]? = none)
    (hQ : ∀ h', (∀ c o, c ∉ [z, TI, TO, i1, i2] → s.heap.get? c = some o → h'.get? c = some o) → Q none { s with heap := h' }) :
    wpAny (model prog w) A (pyNext (.ref z)) Q E s := by
  obtain ⟨e, hTI, h1, h2, oO, hO⟩ := st
  rcases e with ⟨hz, x0, y0, hTO⟩ | ⟨T, f, oT, hz, hT, n1, n2⟩
  · refine RZ.pyNext_zipT_end hh D hz hTI hTO h1 h2 hl1 hl2 he fun h' hk => hQ h' fun c o hc q => ?_
    simp only [List.mem_cons, List.not_mem_nil, or_false, not_or] at hc
    exact hk c o hc.1 hc.2.2.1 hc.2.2.2.1 hc.2.2.2.2 q
  · refine pyNext_zipB_end hh D hz hT hTI h1 h2 hl1 hl2 he fun h' hk => hQ h' fun c o hc q => ?_
    simp only [List.mem_cons, List.not_mem_nil, or_false, not_or] at hc
    exact hk c o hc.1 hc.2.2.2.1 hc.2.2.2.2 q
theorem zip_hint {z TI TO : Addr} {f0 : Value} {Q : Bool → Shared → Prop} (hz : IsZip s.heap z TI TO f0) (h : Q true s) : wpAny (model prog w) A (Builtin.List.listLengthHint (.ref z)) Q E s := by
  have hTy : s.TypeIs (.ref z) "zip" := ⟨_, hz, rfl⟩
  unfold Builtin.List.listLengthHint
  refine wpAny_bind (wpAny_specialOf hTy zip_no_len ?_)
  show wpAny _ A (specialOf (Value.ref z) (Str.ofString "__length_hint__") >>= _) _ _ _
  refine wpAny_bind (wpAny_specialOf hTy zip_no_hint ?_)
  exact wpAny_pure h
end
/-- the pairs made so far -/
structure Prs (G : Hp) (xs ys ts : List V) : Prop where
  x : ts.length ≤ xs.length
  y : ts.length ≤ ys.length
  at_ : ∀ (j : Nat) (v : V), ts[j]? = some v → ∃ (T : Addr) (p q : V), v = V.ref T ∧ xs[j]? = some p ∧ ys[j]? = some q ∧ G T = some (.tup [p, q])
theorem Prs.app {G : Hp} {xs ys ts : List V} {p q : V} {T : Addr} (P : Prs G xs ys ts) (hx : xs[ts.length]? = some p) (hy : ys[ts.length]? = some q) (hT : G T = none) : Prs (upd G T (.tup [p, q])) xs ys (ts ++ [.ref T]) := by
  refine ⟨?_, ?_, fun j v e => ?_⟩
  · rw [List.length_append, List.length_singleton]
    have := (List.getElem?_eq_some_iff.mp hx).1
    omega
  · rw [List.length_append, List.length_singleton]
    have := (List.getElem?_eq_some_iff.mp hy).1
    omega
  · rcases Nat.lt_trichotomy j ts.length with h | h | h
    · rw [List.getElem?_append_left h] at e
      obtain ⟨T', p', q', e1, e2, e3, e4⟩ := P.at_ j v e
      exact ⟨T', p', q', e1, e2, e3, by rw [upd_ne (ne_of_none e4 hT)]; exact e4⟩
    · subst h
      have : v = .ref T := by simpa using e.symm
      exact ⟨T, p, q, this, hx, hy, upd_same⟩
    · rw [List.getElem?_eq_none (by rw [List.length_append, List.length_singleton]; omega)] at e
      cases e
section
variable {X : Cx} {pins : List (Addr × Obj)} {σ : L2.St}
theorem upd_comm {H : Hp} {a b : Addr} {o u : HO} (h : a ≠ b) : upd (upd H a o) b u = upd (upd H b u) a o := by
  funext c
  by_cases h1 : c = a
  · subst h1
    rw [upd_ne h, upd_same, upd_same]
  · by_cases h2 : c = b
    · subst h2
      rw [upd_same, upd_ne h1, upd_same]
    · rw [upd_ne h2, upd_ne h1, upd_ne h1, upd_ne h2]
theorem lz_loop {A1 : Around} (hh : A1.in1.handled = none) {H : Hp} {z TI TO i1 i2 a b S : Addr} {xs ys : List V} {Rs : Result → Shared → Prop} (D : ZipApart z TI TO i1 i2 a b) (hSf : S ∉ [z, TI, TO, i1, i2]) (hx : SqT X.K H a xs) (hy : SqT X.K H b ys) (hHS : H S = none)
    (hdone : ∀ ts G s, Inv X pins σ (upd G S (.lst ts)) s → (∀ c o, H c = some o → G c = some o) → G S = none → Prs G xs ys ts → (xs.length ≤ ts.length ∨ ys.length ≤ ts.length) → Rs (.ok (.ret .none)) s) :
    ∀ (k : Nat) (ts : List V) (G : Hp) (s : Shared), xs.length - ts.length ≤ k → Inv X pins σ (upd G S (.lst ts)) s → ZS z TI TO i1 i2 a b S ts.length s.heap → (∀ c o, H c = some o → G c = some o) → G S = none → (∀ c ∈ [z, TI, TO, i1, i2], FpOk X pins (upd G S (.lst ts)) c) → Prs G xs ys ts →
      codeAny (model X.prog X.w) A1 (.builtin "list.extend.loop" ⟨[.ref S, .ref z, .none], []⟩) Rs s := by
  have up : ∀ {G : Hp} {ts : List V}, (∀ c o, H c = some o → G c = some o) → ∀ {c : Addr} {us : List V}, SqT X.K H c us → SqT X.K (upd G S (.lst ts)) c us := fun {G ts} hG {c us} h => by
    rcases h with h | h
    · refine .inl ?_
      rcases h with h | ⟨o, h⟩
      · exact .inl (by rw [upd_ne (ne_of_none h hHS)]; exact hG _ _ h)
      · exact .inr ⟨o, by rw [upd_ne (ne_of_none h hHS)]; exact hG _ _ h⟩
    · exact .inr h
  intro k
  induction k with
  | zero =>
    intro ts G s hk I st hG hGS hf P
    obtain ⟨its, rv, p, _⟩ := I.tuple (up hG hx)
    obtain ⟨its2, rv2, p2, _⟩ := I.tuple (up hG hy)
    refine codeAny_builtin PySem.F.entry_extend_loop ?_
    rw [Around.under_plainId PySem.F.plain_extend_loop _]
    show wpAny _ A1.in1 (pyNext (.ref z) >>= _) _ _ s
    have e1 := rv.length
    refine wpAny_bind (zs_end hh D st p p2 (.inl (by simp; omega)) fun h' hk' => wpAny_pure ?_)
    exact hdone ts G _ (I.turnedL (t' := s.toks) hk' hf) hG hGS P (.inl (by omega))
  | succ k ih =>
    intro ts G s hk I st hG hGS hf P
    obtain ⟨its, rv, p, zx⟩ := I.tuple (up hG hx)
    obtain ⟨its2, rv2, p2, _⟩ := I.tuple (up hG hy)
    have e1 := rv.length
    have e2 := rv2.length
    refine codeAny_builtin PySem.F.entry_extend_loop ?_
    rw [Around.under_plainId PySem.F.plain_extend_loop _]
    show wpAny _ A1.in1 (pyNext (.ref z) >>= _) _ _ s
    cases hp : xs[ts.length]? with
    | none =>
      have := List.getElem?_eq_none_iff.mp hp
      refine wpAny_bind (zs_end hh D st p p2 (.inl (by simp; omega)) fun h' hk' => wpAny_pure ?_)
      exact hdone ts G _ (I.turnedL (t' := s.toks) hk' hf) hG hGS P (.inl this)
    | some x =>
      cases hq : ys[ts.length]? with
      | none =>
        have := List.getElem?_eq_none_iff.mp hq
        refine wpAny_bind (zs_end hh D st p p2 (.inr (by simp; omega)) fun h' hk' => wpAny_pure ?_)
        exact hdone ts G _ (I.turnedL (t' := s.toks) hk' hf) hG hGS P (.inr this)
      | some y =>
        obtain ⟨u, hu, ru⟩ := rv.get hp
        obtain ⟨u2, hu2, ru2⟩ := rv2.get hq
        obtain ⟨_, its0, n0, _, _, e0⟩ := I.lstM (l := S) (xs := ts) upd_same
        have hSl : S < s.heap.objs.size := Heap.lt_size e0
        refine wpAny_bind (zs_item D hSl st p p2 (x := u) (y := u2) (by simpa using hu) (by simpa using hu2) fun h' st' hT hk' => ?_)
        have nT : upd G S (.lst ts) s.heap.objs.size = none := I.hok.fresh (Nat.le_refl _)
        have TS : s.heap.objs.size ≠ S := Nat.ne_of_gt hSl
        have GT : G s.heap.objs.size = none := by rw [upd_ne TS] at nT; exact nT
        have new : ObjOk X.prog X.w (upd (upd G S (.lst ts)) s.heap.objs.size (.tup [x, y])) h' s.heap.objs.size (.tup [x, y]) :=
          ⟨by show 2 ≤ sizeLine; decide, [u, u2], .cons ru (.cons ru2 .nil), ⟨_, hT, rfl, _, rfl⟩⟩
        have I1 : Inv X pins σ (upd (upd G S (.lst ts)) s.heap.objs.size (.tup [x, y])) { s with heap := h' } := I.turnedNew (t' := s.toks) hk' hf (Nat.le_refl _) new
        rw [upd_comm TS.symm] at I1
        obtain ⟨_, its1, n1, r1, hl1, e1'⟩ := I1.lstM (l := S) (xs := ts) upd_same
        have hlt := (List.getElem?_eq_some_iff.mp hp).1
        show wpAny _ A1.in1 (updateSeq S (·.push (Value.ref s.heap.objs.size)) >>= _) _ _ _
        have I2 := I1.lset (f := (·.push (Value.ref s.heap.objs.size))) (its' := its1 ++ [Value.ref s.heap.objs.size]) (ys := ts ++ [.ref s.heap.objs.size]) (t' := s.toks) upd_same e1' (by simp) (r1.append (.cons (show RelV (V.ref s.heap.objs.size) (Value.ref s.heap.objs.size) from rfl) .nil)) (by rw [List.length_append, List.length_singleton]; omega)
        rw [upd_upd] at I2
        have hf2 : ∀ c ∈ [z, TI, TO, i1, i2], FpOk X pins (upd (upd G s.heap.objs.size (.tup [x, y])) S (.lst (ts ++ [.ref s.heap.objs.size]))) c := fun c hc => by
          have := hf c hc
          have cS : c ≠ S := fun q => hSf (q ▸ hc)
          have hn := this.1
          rw [upd_ne cS] at hn
          refine ⟨?_, this.2⟩
          rw [upd_ne cS]
          have cl : c ≠ s.heap.objs.size := by
            obtain ⟨e, hTI, ⟨_, q1, _⟩, ⟨_, q2, _⟩, oO, hO⟩ := st
            have zl : z < s.heap.objs.size := by
              rcases e with ⟨hz, _⟩ | ⟨_, _, _, hz, _⟩
              · exact Heap.lt_size hz
              · exact Heap.lt_size hz
            refine Nat.ne_of_lt ?_
            simp only [List.mem_cons, List.not_mem_nil, or_false] at hc
            rcases hc with r | r | r | r | r
            · rw [r]; exact zl
            · rw [r]; exact Heap.lt_size hTI
            · rw [r]; exact Heap.lt_size hO
            · rw [r]; exact Heap.lt_size q1
            · rw [r]; exact Heap.lt_size q2
          rw [upd_ne cl]
          exact hn
        refine wpAny_bind (wpAny_updateSeq e1' rfl (wpAny_pure ⟨plainId_quiet PySem.F.plain_extend_loop _, ?_⟩) (by rw [List.size_toArray]; omega) (by show (its1.toArray.push _).size ≤ sizeLine + 1; rw [Array.size_push, List.size_toArray]; omega))
        refine ih (ts ++ [.ref s.heap.objs.size]) (upd G s.heap.objs.size (.tup [x, y])) _ (by rw [List.length_append, List.length_singleton]; omega) I2 ?_ ?_ (by rw [upd_ne TS.symm]; exact hGS) hf2 (P.app hp hq GT)
        · rw [List.length_append, List.length_singleton]
          exact st'.keep hSf fun c o hc q => (Heap.get?_update_other _ _ (Ne.symm hc)).trans q
        · intro c o q
          have := hG c o q
          rw [upd_ne (ne_of_none this GT)]
          exact this
end
end Vz

set_option Elab.async false
set_option linter.all false
set_option maxRecDepth 100000
set_option maxHeartbeats 1000000
namespace Vz
open PySem PySem.Spec PyProof.Rows L2
section
variable {X : Cx} {pins : List (Addr × Obj)} {σ : L2.St} {H : Hp} {s : Shared}
theorem call_lz (hc : X.calm = true) {z TI TO i1 i2 a b : Addr} {xs ys : List V} {Q : VK} (D : ZipApart z TI TO i1 i2 a b) (I : Inv X pins σ H s) (hz : IsZip s.heap z TI TO .none) (hTI : IsPair s.heap TI (.ref i1) (.ref i2)) (hTO : ∃ x y, IsPair s.heap TO x y)
    (h1 : s.heap.IsTupleIter i1 a 0) (h2 : s.heap.IsTupleIter i2 b 0) (hf : ∀ c ∈ [z, TI, TO, i1, i2], FpOk X pins H c) (hx : SqT X.K H a xs) (hy : SqT X.K H b ys)
    (q : ∀ (p : Addr) (ts : List V) (G : Hp), H p = none → (∀ c o, H c = some o → G c = some o) → G p = none → Prs G xs ys ts → (xs.length ≤ ts.length ∨ ys.length ≤ ts.length) → Q (V.ref p) (upd G p (.lst ts))) :
    wpAny (model X.prog X.w) X.A (call (.type "list") [.ref z]) (EP X pins σ Q) X.xe s := by
  obtain ⟨tx, ty, hTO⟩ := hTO
  refine callType_codes (Q₁ := fun obj s₁ => obj = .ref s.heap.objs.size ∧ s₁ = { s with heap := s.heap.push { cls := .type "list", data := .seq #[] } }) PySem.F.called_list (PySem.F.typeCall_list_1 _) PySem.F.entry_list_init
    (code_list_new _ ⟨rfl, rfl⟩) fun obj s₁ h₁ => ?_
  obtain ⟨rfl, rfl⟩ := h₁
  have hS : (s.heap.push { cls := .type "list", data := .seq #[] }).get? s.heap.objs.size = some { cls := .type "list", data := .seq #[] } := Heap.get?_push_size _ rfl
  refine ⟨⟨_, hS, rfl⟩, PySem.F.args_list_init_2 _ _, ?_⟩
  have fr : H s.heap.objs.size = none := I.hok.fresh (Nat.le_refl _)
  have lt : ∀ c ∈ [z, TI, TO, i1, i2], c < s.heap.objs.size := fun c hc => by
    obtain ⟨_, q1, _⟩ := h1
    obtain ⟨_, q2, _⟩ := h2
    simp only [List.mem_cons, List.not_mem_nil, or_false] at hc
    rcases hc with r | r | r | r | r
    · rw [r]; exact Heap.lt_size hz
    · rw [r]; exact Heap.lt_size hTI
    · rw [r]; exact Heap.lt_size hTO
    · rw [r]; exact Heap.lt_size q1
    · rw [r]; exact Heap.lt_size q2
  have hSf : s.heap.objs.size ∉ [z, TI, TO, i1, i2] := fun hm => Nat.lt_irrefl _ (lt _ hm)
  have hSz : s.heap.objs.size ≠ z := fun e => hSf (by rw [e]; simp)
  have st0 : ZS z TI TO i1 i2 a b s.heap.objs.size 0 (s.heap.push { cls := .type "list", data := .seq #[] }) := by
    have g : ∀ c o, s.heap.get? c = some o → (s.heap.push { cls := .type "list", data := .seq #[] }).get? c = some o := fun c o e => Heap.get?_push_of_some _ e
    exact ⟨.inl ⟨g _ _ hz, tx, ty, g _ _ hTO⟩, g _ _ hTI, h1.at fun o e => g _ o e, h2.at fun o e => g _ o e, _, g _ _ hTO⟩
  have I1 : Inv X pins σ (upd H s.heap.objs.size (.lst [])) { s with heap := s.heap.push { cls := .type "list", data := .seq #[] } } := I.lnew (its := []) (t' := s.toks) .nil (Nat.zero_le _)
  show wpAny _ _ (do let old ← Builtin.List.listItems (.ref s.heap.objs.size); Builtin.List.listUpdate (.ref s.heap.objs.size) (fun _ => #[]); letGo old.toList.reverse; Builtin.List.listExtendWith (.ref s.heap.objs.size) (.ref z) .none) _ _ _
  refine wpAny_bind ?_
  unfold Builtin.List.listItems
  refine wpAny_bind (wpAny_seqItems hS rfl (wpAny_pure ?_))
  show wpAny _ _ (updateSeq s.heap.objs.size (fun _ => #[]) >>= fun _ => letGo (#[] : Array Value).toList.reverse >>= fun _ => Builtin.List.listExtendWith (.ref s.heap.objs.size) (.ref z) .none) _ _ _
  refine wpAny_bind (wpAny_updateSeq hS rfl ?_)
  have I2 := I1.lset (f := fun _ => #[]) (its := []) (its' := []) (ys := []) (t' := s.toks) upd_same hS rfl .nil (Nat.zero_le _)
  rw [upd_upd] at I2
  have st2 := st0.keep (h' := (s.heap.push { cls := .type "list", data := .seq #[] }).update s.heap.objs.size (Obj.mapSeq fun _ => #[])) hSf fun c o hc e => (Heap.get?_update_other _ _ (Ne.symm hc)).trans e
  refine wpAny_bind (wpAny_letGo ?_)
  obtain ⟨zz, its3, k3, r3, hl3, e3⟩ := I2.lstM upd_same
  cases r3
  generalize hs2 : (s.heap.push { cls := .type "list", data := .seq #[] }).update s.heap.objs.size (Obj.mapSeq fun _ => #[]) = hp2 at st2 I2 e3 ⊢
  have hz2 : IsZip hp2 z TI TO .none := by
    obtain ⟨e, _⟩ := st2
    rcases e with ⟨h, _⟩ | ⟨T, f, oT, h, _⟩
    · exact h
    · rw [← hs2] at h ⊢
      have : ((s.heap.push { cls := .type "list", data := .seq #[] }).update s.heap.objs.size (Obj.mapSeq fun _ => #[])).get? z = _ := (Heap.get?_update_other _ _ hSz).trans (Heap.get?_push_of_some _ hz)
      exact this
  unfold Builtin.List.listExtendWith
  refine wpAny_bind (wpAny_typeOf (T := "zip") (s := { s with heap := hp2 }) ⟨_, hz2, rfl⟩ ?_)
  have h1' : Builtin.List.listSameRef (.ref s.heap.objs.size) (.ref z) = false := by simp [Builtin.List.listSameRef, hSz]
  have h2' : (Value.type "zip" == Value.type "list") = false := by decide
  have h3' : (Value.type "zip" == Value.type "tuple") = false := by decide
  simp only [h1', h2', h3', Bool.or_false, Bool.false_eq_true, if_false]
  refine wpAny_bind (wpAny_pyIter_zip (s := { s with heap := hp2 }) hz2 ?_)
  refine wpAny_bind (wpAny_holding (zip_hint (s := { s with heap := hp2 }) hz2 ?_))
  have hh : X.A.in1.in1.handled = none := I.ok.hd hc
  have go : ∀ (s' : Shared), Inv X pins σ (upd H s.heap.objs.size (.lst [])) s' → ZS z TI TO i1 i2 a b s.heap.objs.size 0 s'.heap →
      codeAny (model X.prog X.w) X.A.in1 (.builtin "list.extend.loop" ⟨[.ref s.heap.objs.size, .ref z, .none], []⟩) (wants (fun r s₂ => r = .none ∧ EP X pins σ Q (.ref s.heap.objs.size) s₂) X.xe) s' := fun s' I' st' => by
    refine lz_loop (A1 := X.A.in1) hh (H := H) D hSf hx hy fr (fun ts G s'' I'' hG hGS P he => ⟨rfl, .ref s.heap.objs.size, _, I'', rfl, q _ ts G fr hG hGS P he⟩) (xs.length) [] H s' (Nat.sub_le _ _) I' st' (fun _ _ e => e) fr (fun c hc => ?_) ⟨Nat.zero_le _, Nat.zero_le _, fun j v e => by simp at e⟩
    have := hf c hc
    refine ⟨?_, this.2⟩
    rw [upd_ne (Nat.ne_of_lt (lt c hc))]
    exact this.1
  refine wpAny_ite_split (fun _ => ?_) (fun _ => wpAny_pure ⟨plainId_quiet PySem.F.plain_extend_loop _, go _ I2 st2⟩)
  refine wpAny_bind (wpAny_rule ?_)
  refine wpAny_bind ?_
  show wpAny _ _ (updateSeq s.heap.objs.size (·.push .none) >>= fun _ => updateSeq s.heap.objs.size (·.pop)) _ _ _
  refine wpAny_bind (wpAny_updateSeq (s := { s with heap := hp2 }) e3 rfl ?_)
  have I3 := I2.lset (f := (·.push Value.none)) (its' := [Value.none]) (ys := [.non]) (t' := s.toks) upd_same e3 (by simp) (.cons rfl .nil) (by rw [List.length_singleton, sizeLine_eq]; decide)
  have st3 := st2.keep (h' := hp2.update s.heap.objs.size (Obj.mapSeq (·.push Value.none))) hSf fun c o hc e => (Heap.get?_update_other _ _ (Ne.symm hc)).trans e
  rw [upd_upd] at I3
  obtain ⟨z4, its4, k4, r4, hl4, e4⟩ := I3.lstM upd_same
  obtain ⟨u4, rfl, ru4⟩ := r4.one
  refine wpAny_updateSeq e4 rfl ?_ (by show 1 ≤ sizeLine; rw [sizeLine_eq]; decide) (by show 0 ≤ sizeLine + 1; exact Nat.zero_le _)
  have I4 := I3.lset (f := (·.pop)) (its := [u4]) (its' := []) (ys := []) (t' := s.toks) upd_same e4 (by rfl) .nil (Nat.zero_le _)
  rw [upd_upd] at I4
  have st4 := st3.keep (h' := (hp2.update s.heap.objs.size (Obj.mapSeq (·.push Value.none))).update s.heap.objs.size (Obj.mapSeq (·.pop))) hSf fun c o hc e => (Heap.get?_update_other _ _ (Ne.symm hc)).trans e
  exact wpAny_pure ⟨plainId_quiet PySem.F.plain_extend_loop _, go _ I4 st4⟩
/-- list(zip(a, b)) of two tuples -/
def tLz (K : PySem.W.Frag) (ta : TA) : TE := fun σ H Q => ta σ H fun vs H1 => ∃ a b xs ys, vs = [V.ref a, V.ref b] ∧ SqT K H1 a xs ∧ SqT K H1 b ys ∧
  ∀ (p : Addr) (ts : List V) (G : Hp), H1 p = none → (∀ c o, H1 c = some o → G c = some o) → G p = none → Prs G xs ys ts → (xs.length ≤ ts.length ∨ ys.length ≤ ts.length) → Q (V.ref p) (upd G p (.lst ts))
end
section
variable {X : Cx}
theorem pe_lz (hc : X.calm = true) {e e2 : Expr} {ta : TA} {p p2 pos pos2 : Pos} (hg : Gl X "zip") (hm : X.mg "zip" = none) (hgl : Gl X "list") (hml : X.mg "list" = none) (ha : PA X [e, e2] ta)
    (hs : starEach [e, e2] X.env = (false, eval e X.env) :: starEach [e2] X.env := by rfl) (hpl : (backTo pos2 (starEach [e2] X.env)).any (·.1) = false := by rfl) :
    PE X (.Call (.Name "list" p) [.Call (.Name "zip" p2) [e, e2] [] pos2] [] pos) (tLz X.K ta) := by
  refine ⟨fun pins s σ H Q I h => ?_⟩
  refine wpAny_Call_Name_kw (ld_blt I hgl hml PyProof.Rows.boot_list ?_)
  refine PyProof.Rows.callWith_type1 ?_ rfl rfl
  refine Calls.spliced_cons ?_
  refine Call_ (ld_blt I hg hm PyProof.Rows.boot_zip (PyProof.Rows.callWith_type1 (thn (ha.run pos2 pins s σ H _ I h) fun us s1 ⟨vs, H1, I1, r1, q1⟩ => ?_) hs hpl))
  obtain ⟨a, b, xs, ys, ex, hqx, hqy, q⟩ := q1
  subst ex
  cases r1 with
  | cons r rr =>
    cases rr with
    | cons r' rr =>
      cases rr
      cases r
      cases r'
      obtain ⟨its, rv, p1, _⟩ := I1.tuple hqx
      obtain ⟨its2, rv2, p2, _⟩ := I1.tuple hqy
      obtain ⟨o1, ho1, _⟩ := id p1
      obtain ⟨o2, ho2, _⟩ := id p2
      refine RZ.call_zipT (show s1.heap.IsTuple a its.toArray from p1) (show s1.heap.IsTuple b its2.toArray from p2) fun h' hz hTI hTO h1 h2 hsz hk => ?_
      have I2 : Inv X pins σ H1 { s1 with heap := h' } := I1.kept (t' := s1.toks) hk
      refine Calls.spliced_nil ?_
      refine call_lz hc (PySem.W.ktu_apart s1.heap.objs.size a b (Heap.lt_size ho1) (Heap.lt_size ho2)) I2 hz hTI ⟨_, _, hTO⟩ h1 h2 (fun c hcm => ?_) hqx hqy q
      have e' : c = s1.heap.objs.size + 4 ∨ c = s1.heap.objs.size + 2 ∨ c = s1.heap.objs.size + 3 ∨ c = s1.heap.objs.size ∨ c = s1.heap.objs.size + 1 := by simpa using hcm
      have hle : s1.heap.objs.size ≤ c := by
        rcases e' with z | z | z | z | z
        · rw [z]; exact Nat.le_add_right _ _
        · rw [z]; exact Nat.le_add_right _ _
        · rw [z]; exact Nat.le_add_right _ _
        · rw [z]; exact Nat.le_refl _
        · rw [z]; exact Nat.le_add_right _ _
      exact I1.fpOk hle (I1.hok.fresh hle)
end
end Vz

set_option Elab.async false
set_option linter.all false
set_option maxRecDepth 100000
namespace Mir
open PySem PySem.Spec PyProof.Rows L2
/-! ### list(zip(a, b)) of two tuples -/
theorem Adv.grow {m : List Addr} {H G : Hp} (h : ∀ c o, H c = some o → G c = some o) : Adv m H m G := ⟨⟨[], by simp⟩, fun a o e _ => h a o e, fun _ e => .inl e, fun a xs e => h a _ e, fun a o u e => h a _ e⟩
theorem SR.grow {K : PySem.W.Frag} {m : List Addr} {H G : Hp} {s : Sto} (S : SR K m H s) (h : ∀ c o, H c = some o → G c = some o) : SR K m G s :=
  ⟨S.len, S.nd, fun n a u h1 h2 => by
    refine (S.ok n a u h1 h2).adv (Adv.grow h) ?_
    obtain ⟨u', e, _⟩ := S.there (List.mem_of_getElem? h1)
    rw [e]
    exact h _ _ e⟩
theorem RL.of_at {K : PySem.W.Frag} {m : List Addr} {H : Hp} : ∀ {ws : List W} {vs : List V}, ws.length = vs.length → (∀ (j : Nat) (w : W) (v : V), ws[j]? = some w → vs[j]? = some v → R K m H w v) → RL K m H ws vs
  | [], [], _, _ => .nil
  | w :: ws, v :: vs, hl, h => .cons (h 0 w v rfl rfl) (RL.of_at (by simpa using hl) fun j w' v' a b => h (j + 1) w' v' (by simpa using a) (by simpa using b))
  | [], _ :: _, hl, _ => by simp at hl
  | _ :: _, [], hl, _ => by simp at hl
theorem prs_rl {K : PySem.W.Frag} {m : List Addr} {H G : Hp} {ws us : List W} {xs ys ts : List V} (P : Vz.Prs G xs ys ts) (hl : xs.length ≤ ts.length ∨ ys.length ≤ ts.length) (A : Adv m H m G) (r1 : RL K m H ws xs) (r2 : RL K m H us ys) : RL K m G (zipW ws us) ts := by
  have e1 := r1.len
  have e2 := r2.len
  have hlen : (zipW ws us).length = ts.length := by
    unfold zipW
    rw [List.length_zipWith]
    have := P.x
    have := P.y
    omega
  refine RL.of_at hlen fun j w v hw hv => ?_
  obtain ⟨x, y, hx, hy, rfl⟩ := zip_at hw
  obtain ⟨T, p, q, rfl, hp, hq, hT⟩ := P.at_ j v hv
  obtain ⟨v1, hv1, rv1⟩ := r1.at hx
  obtain ⟨v2, hv2, rv2⟩ := r2.at hy
  rw [hp] at hv1
  cases hv1
  rw [hq] at hv2
  cases hv2
  exact .tup (.inl hT) (.cons (rv1.adv A) (.cons (rv2.adv A) .nil))
def eLz (f g : FE) : FE := fun ρ s => bd (f ρ s) fun x s1 => bd (g ρ s1) fun y s2 => match x, y with
  | .tup ws, .tup us => some (.ref s2.length, s2 ++ [.lst (zipW ws us)])
  | _, _ => none
section
variable {X : Cx}
theorem m_lz (hc : X.calm = true) {e e2 : Expr} {p p2 pos pos2 : Pos} {f g : FE} (hg : Gl X "zip") (hm : X.mg "zip" = none) (hgl : Gl X "list") (hml : X.mg "list" = none) (h : PE X e (tF X.K f)) (h2 : PE X e2 (tF X.K g)) (hs1 : starEach [e, e2] X.env = (false, eval e X.env) :: starEach [e2] X.env := by rfl) (hs2 : starEach [e2] X.env = (false, eval e2 X.env) :: starEach [] X.env := by rfl)
    (hpl : (backTo pos2 (starEach [e2] X.env)).any (·.1) = false := by rfl) : PE X (.Call (.Name "list" p) [.Call (.Name "zip" p2) [e, e2] [] pos2] [] pos) (tF X.K (eLz f g)) :=
  (Vz.pe_lz hc hg hm hgl hml (ma_cons h (ma_cons h2 ma_nil hs2) hs1) hs1 hpl).imp fun σ H Q ⟨m, ρ, s, er, sr, w, s', e, q⟩ => by
    obtain ⟨x, s1, e1, e⟩ := bd_inv e
    obtain ⟨y, s2, e2, e⟩ := bd_inv e
    have ea : aCons f (aCons g aNil) ρ s = some ([x, y], s2) := by simp only [aCons, e1, bd, e2, aNil]
    refine ⟨m, ρ, s, er, sr, [x, y], s2, ea, fun m1 H1 v A1 S1 r1 => ?_⟩
    cases r1 with
    | @cons _ v1 _ _ r1 r2 =>
      cases r2 with
      | @cons _ v2 _ _ r2 r3 =>
        cases r3
        cases x with
        | tup ws =>
          cases y with
          | tup us =>
            cases e
            cases r1 with
            | tup h1 h2 =>
              cases r2 with
              | tup h3 h4 =>
                refine ⟨_, _, _, _, rfl, h1.sq, h3.sq, fun p ts G hp hG hGp P hl => ?_⟩
                have A2 := Adv.grow (m := m1) hG
                have S2 := S1.grow hG
                exact new_lst S2 (prs_rl P hl A2 h2 h4) hGp fun m3 H3 v3 A3 S3 r3 => q m3 H3 v3 ((A1.trans A2).trans A3) S3 r3
          | _ => cases e
        | _ => cases e
end
end Mir

set_option Elab.async false
set_option linter.all false
set_option maxRecDepth 100000
set_option maxHeartbeats 1000000
namespace Vz
open PySem PySem.Spec PyProof.Rows L2
section
variable {X : Cx} {pins : List (Addr × Obj)} {σ : L2.St} {H : Hp} {s : Shared}
theorem tz_loop {A1 : Around} {res : Value} (hh : A1.in1.handled = none) {H : Hp} {z TI TO i1 i2 a b S : Addr} {xs ys : List V} {Rs : Result → Shared → Prop} (D : ZipApart z TI TO i1 i2 a b) (hSf : S ∉ [z, TI, TO, i1, i2]) (hx : SqT X.K H a xs) (hy : SqT X.K H b ys) (hHS : H S = none)
    (hdone : ∀ ts G s, Inv X pins σ (upd G S (.lst ts)) s → (∀ c o, H c = some o → G c = some o) → G S = none → Prs G xs ys ts → (xs.length ≤ ts.length ∨ ys.length ≤ ts.length) → Rs (.ok (.ret res)) s) :
    ∀ (k : Nat) (ts : List V) (G : Hp) (s : Shared), xs.length - ts.length ≤ k → Inv X pins σ (upd G S (.lst ts)) s → ZS z TI TO i1 i2 a b S ts.length s.heap → (∀ c o, H c = some o → G c = some o) → G S = none → (∀ c ∈ [z, TI, TO, i1, i2], FpOk X pins (upd G S (.lst ts)) c) → Prs G xs ys ts →
      codeAny (model X.prog X.w) A1 (.builtin "list.extend.loop" ⟨[.ref S, .ref z, res], []⟩) Rs s := by
  have up : ∀ {G : Hp} {ts : List V}, (∀ c o, H c = some o → G c = some o) → ∀ {c : Addr} {us : List V}, SqT X.K H c us → SqT X.K (upd G S (.lst ts)) c us := fun {G ts} hG {c us} h => by
    rcases h with h | h
    · refine .inl ?_
      rcases h with h | ⟨o, h⟩
      · exact .inl (by rw [upd_ne (ne_of_none h hHS)]; exact hG _ _ h)
      · exact .inr ⟨o, by rw [upd_ne (ne_of_none h hHS)]; exact hG _ _ h⟩
    · exact .inr h
  intro k
  induction k with
  | zero =>
    intro ts G s hk I st hG hGS hf P
    obtain ⟨its, rv, p, _⟩ := I.tuple (up hG hx)
    obtain ⟨its2, rv2, p2, _⟩ := I.tuple (up hG hy)
    refine codeAny_builtin PySem.F.entry_extend_loop ?_
    rw [Around.under_plainId PySem.F.plain_extend_loop _]
    show wpAny _ A1.in1 (pyNext (.ref z) >>= _) _ _ s
    have e1 := rv.length
    refine wpAny_bind (zs_end hh D st p p2 (.inl (by simp; omega)) fun h' hk' => wpAny_pure ?_)
    exact hdone ts G _ (I.turnedL (t' := s.toks) hk' hf) hG hGS P (.inl (by omega))
  | succ k ih =>
    intro ts G s hk I st hG hGS hf P
    obtain ⟨its, rv, p, zx⟩ := I.tuple (up hG hx)
    obtain ⟨its2, rv2, p2, _⟩ := I.tuple (up hG hy)
    have e1 := rv.length
    have e2 := rv2.length
    refine codeAny_builtin PySem.F.entry_extend_loop ?_
    rw [Around.under_plainId PySem.F.plain_extend_loop _]
    show wpAny _ A1.in1 (pyNext (.ref z) >>= _) _ _ s
    cases hp : xs[ts.length]? with
    | none =>
      have := List.getElem?_eq_none_iff.mp hp
      refine wpAny_bind (zs_end hh D st p p2 (.inl (by simp; omega)) fun h' hk' => wpAny_pure ?_)
      exact hdone ts G _ (I.turnedL (t' := s.toks) hk' hf) hG hGS P (.inl this)
    | some x =>
      cases hq : ys[ts.length]? with
      | none =>
        have := List.getElem?_eq_none_iff.mp hq
        refine wpAny_bind (zs_end hh D st p p2 (.inr (by simp; omega)) fun h' hk' => wpAny_pure ?_)
        exact hdone ts G _ (I.turnedL (t' := s.toks) hk' hf) hG hGS P (.inr this)
      | some y =>
        obtain ⟨u, hu, ru⟩ := rv.get hp
        obtain ⟨u2, hu2, ru2⟩ := rv2.get hq
        obtain ⟨_, its0, n0, _, _, e0⟩ := I.lstM (l := S) (xs := ts) upd_same
        have hSl : S < s.heap.objs.size := Heap.lt_size e0
        refine wpAny_bind (zs_item D hSl st p p2 (x := u) (y := u2) (by simpa using hu) (by simpa using hu2) fun h' st' hT hk' => ?_)
        have nT : upd G S (.lst ts) s.heap.objs.size = none := I.hok.fresh (Nat.le_refl _)
        have TS : s.heap.objs.size ≠ S := Nat.ne_of_gt hSl
        have GT : G s.heap.objs.size = none := by rw [upd_ne TS] at nT; exact nT
        have new : ObjOk X.prog X.w (upd (upd G S (.lst ts)) s.heap.objs.size (.tup [x, y])) h' s.heap.objs.size (.tup [x, y]) :=
          ⟨by show 2 ≤ sizeLine; decide, [u, u2], .cons ru (.cons ru2 .nil), ⟨_, hT, rfl, _, rfl⟩⟩
        have I1 : Inv X pins σ (upd (upd G S (.lst ts)) s.heap.objs.size (.tup [x, y])) { s with heap := h' } := I.turnedNew (t' := s.toks) hk' hf (Nat.le_refl _) new
        rw [upd_comm TS.symm] at I1
        obtain ⟨_, its1, n1, r1, hl1, e1'⟩ := I1.lstM (l := S) (xs := ts) upd_same
        have hlt := (List.getElem?_eq_some_iff.mp hp).1
        show wpAny _ A1.in1 (updateSeq S (·.push (Value.ref s.heap.objs.size)) >>= _) _ _ _
        have I2 := I1.lset (f := (·.push (Value.ref s.heap.objs.size))) (its' := its1 ++ [Value.ref s.heap.objs.size]) (ys := ts ++ [.ref s.heap.objs.size]) (t' := s.toks) upd_same e1' (by simp) (r1.append (.cons (show RelV (V.ref s.heap.objs.size) (Value.ref s.heap.objs.size) from rfl) .nil)) (by rw [List.length_append, List.length_singleton]; omega)
        rw [upd_upd] at I2
        have hf2 : ∀ c ∈ [z, TI, TO, i1, i2], FpOk X pins (upd (upd G s.heap.objs.size (.tup [x, y])) S (.lst (ts ++ [.ref s.heap.objs.size]))) c := fun c hc => by
          have := hf c hc
          have cS : c ≠ S := fun q => hSf (q ▸ hc)
          have hn := this.1
          rw [upd_ne cS] at hn
          refine ⟨?_, this.2⟩
          rw [upd_ne cS]
          have cl : c ≠ s.heap.objs.size := by
            obtain ⟨e, hTI, ⟨_, q1, _⟩, ⟨_, q2, _⟩, oO, hO⟩ := st
            have zl : z < s.heap.objs.size := by
              rcases e with ⟨hz, _⟩ | ⟨_, _, _, hz, _⟩
              · exact Heap.lt_size hz
              · exact Heap.lt_size hz
            refine Nat.ne_of_lt ?_
            simp only [List.mem_cons, List.not_mem_nil, or_false] at hc
            rcases hc with r | r | r | r | r
            · rw [r]; exact zl
            · rw [r]; exact Heap.lt_size hTI
            · rw [r]; exact Heap.lt_size hO
            · rw [r]; exact Heap.lt_size q1
            · rw [r]; exact Heap.lt_size q2
          rw [upd_ne cl]
          exact hn
        refine wpAny_bind (wpAny_updateSeq e1' rfl (wpAny_pure ⟨plainId_quiet PySem.F.plain_extend_loop _, ?_⟩) (by rw [List.size_toArray]; omega) (by show (its1.toArray.push _).size ≤ sizeLine + 1; rw [Array.size_push, List.size_toArray]; omega))
        refine ih (ts ++ [.ref s.heap.objs.size]) (upd G s.heap.objs.size (.tup [x, y])) _ (by rw [List.length_append, List.length_singleton]; omega) I2 ?_ ?_ (by rw [upd_ne TS.symm]; exact hGS) hf2 (P.app hp hq GT)
        · rw [List.length_append, List.length_singleton]
          exact st'.keep hSf fun c o hc q => (Heap.get?_update_other _ _ (Ne.symm hc)).trans q
        · intro c o q
          have := hG c o q
          rw [upd_ne (ne_of_none this GT)]
          exact this
theorem collect_tz {A : Around} {E : Value → Shared → Prop} {Ql : List Value → Shared → Prop} (hh : A.handled = none) {z TI TO i1 i2 a b : Addr} {xs ys : List V} (D : ZipApart z TI TO i1 i2 a b) (I : Inv X pins σ H s) (hz : IsZip s.heap z TI TO .none) (hTI : IsPair s.heap TI (.ref i1) (.ref i2)) (hTO : ∃ x y, IsPair s.heap TO x y)
    (h1 : s.heap.IsTupleIter i1 a 0) (h2 : s.heap.IsTupleIter i2 b 0) (hf : ∀ c ∈ [z, TI, TO, i1, i2], FpOk X pins H c) (hx : SqT X.K H a xs) (hy : SqT X.K H b ys)
    (q : ∀ (S : Addr) (ts : List V) (G : Hp) (its : List Value) (s' : Shared), H S = none → (∀ c o, H c = some o → G c = some o) → G S = none → Prs G xs ys ts → (xs.length ≤ ts.length ∨ ys.length ≤ ts.length) → Inv X pins σ (upd G S (.lst ts)) s' → Vals ts its → ts.length ≤ sizeLine → Ql its s') :
    wpAny (model X.prog X.w) A (collect (.ref z)) Ql E s := by
  obtain ⟨tx, ty, hTO⟩ := hTO
  unfold collect
  refine wpAny_bind (wpAny_runValue (codeAny_builtin PySem.F.entry_proto_collect ?_))
  rw [Around.under_plainId PySem.F.plain_proto_collect _]
  show wpAny _ A.in1 (newList [] >>= fun l => again (.builtin "list.__iadd__" ⟨[l, .ref z], []⟩)) _ _ s
  refine wpAny_bind (wpAny_newObj_type ?_)
  refine wpAny_pure ⟨plainId_quiet PySem.F.plain_list_iadd _, codeAny_builtin PySem.F.entry_list_iadd ?_⟩
  rw [Around.under_plainId PySem.F.plain_list_iadd _]
  have hS : (s.heap.push { cls := .type "list", data := .seq #[] }).get? s.heap.objs.size = some { cls := .type "list", data := .seq #[] } := Heap.get?_push_size _ rfl
  have fr : H s.heap.objs.size = none := I.hok.fresh (Nat.le_refl _)
  have lt : ∀ c ∈ [z, TI, TO, i1, i2], c < s.heap.objs.size := fun c hc => by
    obtain ⟨_, q1, _⟩ := h1
    obtain ⟨_, q2, _⟩ := h2
    simp only [List.mem_cons, List.not_mem_nil, or_false] at hc
    rcases hc with r | r | r | r | r
    · rw [r]; exact Heap.lt_size hz
    · rw [r]; exact Heap.lt_size hTI
    · rw [r]; exact Heap.lt_size hTO
    · rw [r]; exact Heap.lt_size q1
    · rw [r]; exact Heap.lt_size q2
  have hSf : s.heap.objs.size ∉ [z, TI, TO, i1, i2] := fun hm => Nat.lt_irrefl _ (lt _ hm)
  have hSz : s.heap.objs.size ≠ z := fun e => hSf (by rw [e]; simp)
  have st0 : ZS z TI TO i1 i2 a b s.heap.objs.size 0 (s.heap.push { cls := .type "list", data := .seq #[] }) := by
    have g : ∀ c o, s.heap.get? c = some o → (s.heap.push { cls := .type "list", data := .seq #[] }).get? c = some o := fun c o e => Heap.get?_push_of_some _ e
    exact ⟨.inl ⟨g _ _ hz, tx, ty, g _ _ hTO⟩, g _ _ hTI, h1.at fun o e => g _ o e, h2.at fun o e => g _ o e, _, g _ _ hTO⟩
  have I1 : Inv X pins σ (upd H s.heap.objs.size (.lst [])) { s with heap := s.heap.push { cls := .type "list", data := .seq #[] } } := I.lnew (its := []) (t' := s.toks) .nil (Nat.zero_le _)
  have hz2 : IsZip (s.heap.push { cls := .type "list", data := .seq #[] }) z TI TO .none := Heap.get?_push_of_some _ hz
  have st2 := st0
  have I2 := I1
  have e3 := hS
  generalize hs2 : s.heap.push { cls := .type "list", data := .seq #[] } = hp2 at st2 I2 e3 hz2 ⊢
  show wpAny _ A.in1 (Builtin.List.listExtendWith (.ref s.heap.objs.size) (.ref z) (.ref s.heap.objs.size)) _ _ _
  unfold Builtin.List.listExtendWith
  refine wpAny_bind (wpAny_typeOf (T := "zip") (s := { s with heap := hp2 }) ⟨_, hz2, rfl⟩ ?_)
  have h1' : Builtin.List.listSameRef (.ref s.heap.objs.size) (.ref z) = false := by simp [Builtin.List.listSameRef, hSz]
  have h2' : (Value.type "zip" == Value.type "list") = false := by decide
  have h3' : (Value.type "zip" == Value.type "tuple") = false := by decide
  simp only [h1', h2', h3', Bool.or_false, Bool.false_eq_true, if_false]
  refine wpAny_bind (wpAny_pyIter_zip (s := { s with heap := hp2 }) hz2 ?_)
  refine wpAny_bind (wpAny_holding (zip_hint (s := { s with heap := hp2 }) hz2 ?_))
  have go : ∀ (A1 : Around) (Rr : Result → Shared → Prop) (hA : A1.in1.handled = none) (hd : ∀ ts G s'', Inv X pins σ (upd G s.heap.objs.size (.lst ts)) s'' → (∀ c o, H c = some o → G c = some o) → G s.heap.objs.size = none → Prs G xs ys ts → (xs.length ≤ ts.length ∨ ys.length ≤ ts.length) → Rr (.ok (.ret (.ref s.heap.objs.size))) s'') (s' : Shared), Inv X pins σ (upd H s.heap.objs.size (.lst [])) s' → ZS z TI TO i1 i2 a b s.heap.objs.size 0 s'.heap →
      codeAny (model X.prog X.w) A1 (.builtin "list.extend.loop" ⟨[.ref s.heap.objs.size, .ref z, .ref s.heap.objs.size], []⟩) Rr s' := fun A1 Rr hA hd s' I' st' => by
    refine tz_loop hA (H := H) D hSf hx hy fr hd (xs.length) [] H s' (Nat.sub_le _ _) I' st' (fun _ _ e => e) fr (fun c hc => ?_) ⟨Nat.zero_le _, Nat.zero_le _, fun j v e => by simp at e⟩
    have := hf c hc
    refine ⟨?_, this.2⟩
    rw [upd_ne (Nat.ne_of_lt (lt c hc))]
    exact this.1
  refine wpAny_ite_split (fun _ => ?_) (fun _ => ?_)
  rotate_left
  · refine wpAny_pure ⟨plainId_quiet PySem.F.plain_extend_loop _, go _ _ hh (fun ts G s'' I'' hG hGS P he => ?_) _ I2 st2⟩
    obtain ⟨hzl, itsL, nL, rL, _, eL⟩ := I''.lstM (l := s.heap.objs.size) (xs := ts) upd_same
    show wpAny _ A (load s.heap.objs.size >>= _) _ _ s''
    refine wpAny_bind (wpAny_load eL ?_)
    exact wpAny_pure (by simpa using q _ ts G itsL s'' fr hG hGS P he I'' rL hzl)
  refine wpAny_bind (wpAny_rule ?_)
  refine wpAny_bind ?_
  show wpAny _ _ (updateSeq s.heap.objs.size (·.push .none) >>= fun _ => updateSeq s.heap.objs.size (·.pop)) _ _ _
  refine wpAny_bind (wpAny_updateSeq (s := { s with heap := hp2 }) e3 rfl ?_)
  have I3 := I2.lset (f := (·.push Value.none)) (its' := [Value.none]) (ys := [.non]) (t' := s.toks) upd_same e3 (by simp) (.cons rfl .nil) (by rw [List.length_singleton, sizeLine_eq]; decide)
  have st3 := st2.keep (h' := hp2.update s.heap.objs.size (Obj.mapSeq (·.push Value.none))) hSf fun c o hc e => (Heap.get?_update_other _ _ (Ne.symm hc)).trans e
  rw [upd_upd] at I3
  obtain ⟨z4, its4, k4, r4, hl4, e4⟩ := I3.lstM upd_same
  obtain ⟨u4, rfl, ru4⟩ := r4.one
  refine wpAny_updateSeq e4 rfl ?_ (by show 1 ≤ sizeLine; rw [sizeLine_eq]; decide) (by show 0 ≤ sizeLine + 1; exact Nat.zero_le _)
  have I4 := I3.lset (f := (·.pop)) (its := [u4]) (its' := []) (ys := []) (t' := s.toks) upd_same e4 (by rfl) .nil (Nat.zero_le _)
  rw [upd_upd] at I4
  have st4 := st3.keep (h' := (hp2.update s.heap.objs.size (Obj.mapSeq (·.push Value.none))).update s.heap.objs.size (Obj.mapSeq (·.pop))) hSf fun c o hc e => (Heap.get?_update_other _ _ (Ne.symm hc)).trans e
  refine wpAny_pure ⟨plainId_quiet PySem.F.plain_extend_loop _, go _ _ hh (fun ts G s'' I'' hG hGS P he => ?_) _ I4 st4⟩
  obtain ⟨hzl, itsL, nL, rL, _, eL⟩ := I''.lstM (l := s.heap.objs.size) (xs := ts) upd_same
  show wpAny _ A (load s.heap.objs.size >>= _) _ _ s''
  refine wpAny_bind (wpAny_load eL ?_)
  exact wpAny_pure (by simpa using q _ ts G itsL s'' fr hG hGS P he I'' rL hzl)
theorem call_tz (hc : X.calm = true) {z TI TO i1 i2 a b : Addr} {xs ys : List V} {Q : VK} (D : ZipApart z TI TO i1 i2 a b) (I : Inv X pins σ H s) (hz : IsZip s.heap z TI TO .none) (hTI : IsPair s.heap TI (.ref i1) (.ref i2)) (hTO : ∃ x y, IsPair s.heap TO x y)
    (h1 : s.heap.IsTupleIter i1 a 0) (h2 : s.heap.IsTupleIter i2 b 0) (hf : ∀ c ∈ [z, TI, TO, i1, i2], FpOk X pins H c) (hx : SqT X.K H a xs) (hy : SqT X.K H b ys)
    (q : ∀ (S p : Addr) (ts : List V) (G : Hp), H S = none → (∀ c o, H c = some o → G c = some o) → G S = none → Prs G xs ys ts → (xs.length ≤ ts.length ∨ ys.length ≤ ts.length) → upd G S (.lst ts) p = none → Q (V.ref p) (upd (upd G S (.lst ts)) p (.tup ts))) :
    wpAny (model X.prog X.w) X.A (call (.type "tuple") [.ref z]) (EP X pins σ Q) X.xe s := by
  have hh : X.A.handled = none := I.ok.hd hc
  refine callType_codes (Q₁ := fun obj s₁ => s₁.TypeIs obj "tuple" ∧ EP X pins σ Q obj s₁) PySem.F.called_tuple (PySem.F.typeCall_tuple_1 _) PySem.F.entry_object_init
    (codeAny_of_tree ?_) fun obj s₁ h₁ => ?_
  rotate_left
  · exact ⟨h₁.1, PySem.F.args_object_init_2 obj _, object_init_meets PySem.F.called_tuple.init.lookup PySem.F.called_tuple.made (by decide) _ _ _ _ s₁ ⟨h₁.1, rfl, h₁.2⟩⟩
  show wpAny _ _ (do checkBuiltinCall "tuple.__new__" ⟨[.type "tuple", .ref z], []⟩; again (.builtin "tuple.__new__" ⟨[.type "tuple", .ref z], []⟩)) _ _ s
  refine wpAny_bind (wpAny_of_eq (PySem.F.newCall_tuple_1 _) (wpAny_pure ⟨plainId_quiet PySem.F.plain_tuple_new _, codeAny_builtin PySem.F.entry_tuple_new ?_⟩))
  rw [Around.under_plainId PySem.F.plain_tuple_new _]
  have hsub := sub_tuple_self
  have hinit := init_tuple_lookup
  have hmh := madeHere_tuple
  have hT : s.TypeIs (.ref z) "zip" := ⟨_, hz, rfl⟩
  wp_walk using wpAny_typeOf hT, collect_tz (by exact hh) D I hz hTI hTO h1 h2 hf hx hy
  intro S ts G its s' hS hG hGS P he I' hv hsz
  have hl := hv.length
  show wpAny _ _ (Builtin.Tuple.tupleExact its.toArray >>= fun v => ret v) _ _ _
  unfold Builtin.Tuple.tupleExact
  refine wpAny_bind (wpAny_newObj_type ?_ (by show its.toArray.size ≤ sizeLine; rw [List.size_toArray]; omega))
  refine wpAny_pure ?_
  have g := Heap.get?_push_size s'.heap (o := { cls := .type "tuple", data := .seq its.toArray }) rfl
  have ob : ObjOk X.prog X.w (upd (upd G S (.lst ts)) s'.heap.objs.size (.tup ts)) (s'.heap.push { cls := .type "tuple", data := .seq its.toArray }) s'.heap.objs.size (.tup ts) := ⟨hsz, its, hv, ⟨_, g, rfl, _, rfl⟩⟩
  refine ⟨⟨_, g, rfl⟩, V.ref s'.heap.objs.size, _, I'.laid (t' := s'.toks) (fun _ _ q => Heap.get?_push_of_some _ q) (Nat.le_refl _) ob, rfl, q S _ ts G hS hG hGS P he (I'.hok.fresh (Nat.le_refl _))⟩
/-- tuple(zip(a, b)) of two tuples -/
def tTz (K : PySem.W.Frag) (ta : TA) : TE := fun σ H Q => ta σ H fun vs H1 => ∃ a b xs ys, vs = [V.ref a, V.ref b] ∧ SqT K H1 a xs ∧ SqT K H1 b ys ∧
  ∀ (S p : Addr) (ts : List V) (G : Hp), H1 S = none → (∀ c o, H1 c = some o → G c = some o) → G S = none → Prs G xs ys ts → (xs.length ≤ ts.length ∨ ys.length ≤ ts.length) → upd G S (.lst ts) p = none → Q (V.ref p) (upd (upd G S (.lst ts)) p (.tup ts))
end
section
variable {X : Cx}
theorem pe_tz (hc : X.calm = true) {e e2 : Expr} {ta : TA} {p p2 pos pos2 : Pos} (hg : Gl X "zip") (hm : X.mg "zip" = none) (hgl : Gl X "tuple") (hml : X.mg "tuple" = none) (ha : PA X [e, e2] ta)
    (hs : starEach [e, e2] X.env = (false, eval e X.env) :: starEach [e2] X.env := by rfl) (hpl : (backTo pos2 (starEach [e2] X.env)).any (·.1) = false := by rfl) :
    PE X (.Call (.Name "tuple" p) [.Call (.Name "zip" p2) [e, e2] [] pos2] [] pos) (tTz X.K ta) := by
  refine ⟨fun pins s σ H Q I h => ?_⟩
  refine wpAny_Call_Name_kw (ld_blt I hgl hml PyProof.Rows.boot_tuple ?_)
  refine PyProof.Rows.callWith_type1 ?_ rfl rfl
  refine Calls.spliced_cons ?_
  refine Call_ (ld_blt I hg hm PyProof.Rows.boot_zip (PyProof.Rows.callWith_type1 (thn (ha.run pos2 pins s σ H _ I h) fun us s1 ⟨vs, H1, I1, r1, q1⟩ => ?_) hs hpl))
  obtain ⟨a, b, xs, ys, ex, hqx, hqy, q⟩ := q1
  subst ex
  cases r1 with
  | cons r rr =>
    cases rr with
    | cons r' rr =>
      cases rr
      cases r
      cases r'
      obtain ⟨its, rv, p1, _⟩ := I1.tuple hqx
      obtain ⟨its2, rv2, p2, _⟩ := I1.tuple hqy
      obtain ⟨o1, ho1, _⟩ := id p1
      obtain ⟨o2, ho2, _⟩ := id p2
      refine RZ.call_zipT (show s1.heap.IsTuple a its.toArray from p1) (show s1.heap.IsTuple b its2.toArray from p2) fun h' hz hTI hTO h1 h2 hsz hk => ?_
      have I2 : Inv X pins σ H1 { s1 with heap := h' } := I1.kept (t' := s1.toks) hk
      refine Calls.spliced_nil ?_
      refine call_tz hc (PySem.W.ktu_apart s1.heap.objs.size a b (Heap.lt_size ho1) (Heap.lt_size ho2)) I2 hz hTI ⟨_, _, hTO⟩ h1 h2 (fun c hcm => ?_) hqx hqy q
      have e' : c = s1.heap.objs.size + 4 ∨ c = s1.heap.objs.size + 2 ∨ c = s1.heap.objs.size + 3 ∨ c = s1.heap.objs.size ∨ c = s1.heap.objs.size + 1 := by simpa using hcm
      have hle : s1.heap.objs.size ≤ c := by
        rcases e' with z | z | z | z | z
        · rw [z]; exact Nat.le_add_right _ _
        · rw [z]; exact Nat.le_add_right _ _
        · rw [z]; exact Nat.le_add_right _ _
        · rw [z]; exact Nat.le_refl _
        · rw [z]; exact Nat.le_add_right _ _
      exact I1.fpOk hle (I1.hok.fresh hle)
end
end Vz

set_option Elab.async false
set_option linter.all false
set_option maxRecDepth 100000
namespace Mir
open PySem PySem.Spec PyProof.Rows L2
/-! ### tuple(zip(a, b)) of two tuples -/
def eTz (f g : FE) : FE := fun ρ s => bd (f ρ s) fun x s1 => bd (g ρ s1) fun y s2 => match x, y with
  | .tup ws, .tup us => some (.tup (zipW ws us), s2)
  | _, _ => none
section
variable {X : Cx}
theorem m_tz (hc : X.calm = true) {e e2 : Expr} {p p2 pos pos2 : Pos} {f g : FE} (hg : Gl X "zip") (hm : X.mg "zip" = none) (hgl : Gl X "tuple") (hml : X.mg "tuple" = none) (h : PE X e (tF X.K f)) (h2 : PE X e2 (tF X.K g)) (hs1 : starEach [e, e2] X.env = (false, eval e X.env) :: starEach [e2] X.env := by rfl) (hs2 : starEach [e2] X.env = (false, eval e2 X.env) :: starEach [] X.env := by rfl)
    (hpl : (backTo pos2 (starEach [e2] X.env)).any (·.1) = false := by rfl) : PE X (.Call (.Name "tuple" p) [.Call (.Name "zip" p2) [e, e2] [] pos2] [] pos) (tF X.K (eTz f g)) :=
  (Vz.pe_tz hc hg hm hgl hml (ma_cons h (ma_cons h2 ma_nil hs2) hs1) hs1 hpl).imp fun σ H Q ⟨m, ρ, s, er, sr, w, s', e, q⟩ => by
    obtain ⟨x, s1, e1, e⟩ := bd_inv e
    obtain ⟨y, s2, e2, e⟩ := bd_inv e
    have ea : aCons f (aCons g aNil) ρ s = some ([x, y], s2) := by simp only [aCons, e1, bd, e2, aNil]
    refine ⟨m, ρ, s, er, sr, [x, y], s2, ea, fun m1 H1 v A1 S1 r1 => ?_⟩
    cases r1 with
    | @cons _ v1 _ _ r1 r2 =>
      cases r2 with
      | @cons _ v2 _ _ r2 r3 =>
        cases r3
        cases x with
        | tup ws =>
          cases y with
          | tup us =>
            cases e
            cases r1 with
            | tup h1 h2 =>
              cases r2 with
              | tup h3 h4 =>
                refine ⟨_, _, _, _, rfl, h1.sq, h3.sq, fun S p ts G hS hG hGS P hl hp => ?_⟩
                have A2 := Adv.grow (m := m1) hG
                have hG2 : ∀ c o, G c = some o → upd G S (.lst ts) c = some o := fun c o e => by
                  have : c ≠ S := fun z => by rw [z, hGS] at e; cases e
                  rw [upd_ne this]; exact e
                have A3 := Adv.grow (m := m1) hG2
                have S2 := (S1.grow hG).grow hG2
                exact new_tup S2 ((prs_rl P hl A2 h2 h4).adv A3) hp fun m3 H3 v3 A4 S3 r3 => q m3 H3 v3 (((A1.trans A2).trans A3).trans A4) S3 r3
          | _ => cases e
        | _ => cases e
end
end Mir

set_option Elab.async false
set_option linter.all false
set_option maxRecDepth 100000
namespace Mir
open PySem PySem.Spec PyProof.Rows L2
/-! ### x in range(..) -/
section
variable {X : Cx}
abbrev rRangeA : List V → Hp → VK → Prop := fun vs H Q => ∃ j, vs = [V.int j] ∧ ∀ p, H p = none → Q (.ref p) (upd H p (.rng 0 j))
abbrev rRangeB : List V → Hp → VK → Prop := fun vs H Q => ∃ i j, vs = [V.int i, V.int j] ∧ ∀ p, H p = none → Q (.ref p) (upd H p (.rng i j))
abbrev rInRng (neg : Bool) : R2 := fun x y H Q => ∃ i a lo hi, x = V.int i ∧ y = V.ref a ∧ H a = some (.rng lo hi) ∧ Q (.bl (if neg then !decide (lo ≤ i ∧ i < hi) else decide (lo ≤ i ∧ i < hi))) H
theorem cr_rng1 : CallR X (.type "range") rRangeA := by
  intro pins s σ H vs us Q I r h
  obtain ⟨j, rfl, q⟩ := h
  obtain ⟨u, rfl, rj⟩ := vals1 r
  obtain ⟨t, rfl⟩ := rj
  refine call_range_1 ⟨.ref s.heap.objs.size, upd H s.heap.objs.size (.rng 0 j), I.laid (t' := s.toks + 1 + 1) (fun b o e => Heap.get?_push_of_some _ e) (Nat.le_refl _) ?_, rfl, q _ (I.hok.fresh (Nat.le_refl _))⟩
  exact ⟨s.toks, t, s.toks + 1, Heap.get?_push_size _ rfl⟩
theorem cr_rng2 : CallR X (.type "range") rRangeB := cr_range2
theorem op_in_rngA : OpR X (compareOp .In) (rInRng false) := op_in_rng
theorem op_notin_rngA : OpR X (compareOp .NotIn) (rInRng true) := by
  intro pins s σ H x y v u Q I rx ry h
  obtain ⟨i, a, lo, hi, rfl, rfl, ha, q⟩ := h
  obtain ⟨k, rfl⟩ := rx
  obtain rfl : u = Value.ref a := ry
  obtain ⟨t1, t2, t3, ho⟩ := I.hok a _ ha
  show wpAny _ _ (do return Value.bool (!(← contains (Value.ref a) (Value.int i k)))) _ _ s
  refine wpAny_bind (wpAny_contains_slot (T := "range") ⟨_, ho, rfl⟩ F.slot_range_contains (call_meets F.slot_range_contains ⟨_, ho, rfl⟩ F.entry_range_contains (F.args_range_contains_2 _ _) (q_contains a lo hi i t1 t2 t3 k)
    ⟨ho, wpAny_truthy_bool (wpAny_pure ⟨.bl _, H, I, rfl, ?_⟩)⟩))
  rw [place1]
  exact q
def eRinA (neg : Bool) (f : FE) (fa : FA) : FE := fun ρ s => bd (f ρ s) fun x s1 => bd (fa ρ s1) fun ws s2 => match x, ws with
  | .int i, [.int hi] => some (.bl (if neg then !decide (0 ≤ i ∧ i < hi) else decide (0 ≤ i ∧ i < hi)), s2)
  | _, _ => none
def eRinB (neg : Bool) (f : FE) (fa : FA) : FE := fun ρ s => bd (f ρ s) fun x s1 => bd (fa ρ s1) fun ws s2 => match x, ws with
  | .int i, [.int lo, .int hi] => some (.bl (if neg then !decide (lo ≤ i ∧ i < hi) else decide (lo ≤ i ∧ i < hi)), s2)
  | _, _ => none
theorem rinA_of {K : PySem.W.Frag} {neg : Bool} {f : FE} {fa : FA} : ∀ σ H Q, tF K (eRinA neg f fa) σ H Q → tOp (rInRng neg) (tF K f) (tCB rRangeA (tA K fa)) σ H Q := by
  rintro σ H Q ⟨m, ρ, s, er, sr, w, s', e, q⟩
  obtain ⟨x, s1, e1, e⟩ := bd_inv e
  obtain ⟨ws, s2, e2, e⟩ := bd_inv e
  refine ⟨m, ρ, s, er, sr, x, s1, e1, fun m1 H1 v A1 S1 r1 => ⟨m1, ρ, s1, er.adv A1, S1, ws, s2, e2, fun m2 H2 vs A2 S2 r2 => ?_⟩⟩
  cases r1 with
  | int i =>
    cases r2 with
    | nil => cases e
    | cons r3 r4 =>
      cases r4 with
      | cons _ _ => cases r3 <;> cases e
      | nil =>
        cases r3 with
        | int j =>
          cases e
          exact ⟨j, rfl, fun p hp => ⟨i, p, 0, j, rfl, rfl, upd_same, q _ _ _ (A1.trans (A2.trans (Adv.fresh hp))) (S2.fresh hp) (.bl _)⟩⟩
        | _ => cases e
  | _ => cases e
theorem rinB_of {K : PySem.W.Frag} {neg : Bool} {f : FE} {fa : FA} : ∀ σ H Q, tF K (eRinB neg f fa) σ H Q → tOp (rInRng neg) (tF K f) (tCB rRangeB (tA K fa)) σ H Q := by
  rintro σ H Q ⟨m, ρ, s, er, sr, w, s', e, q⟩
  obtain ⟨x, s1, e1, e⟩ := bd_inv e
  obtain ⟨ws, s2, e2, e⟩ := bd_inv e
  refine ⟨m, ρ, s, er, sr, x, s1, e1, fun m1 H1 v A1 S1 r1 => ⟨m1, ρ, s1, er.adv A1, S1, ws, s2, e2, fun m2 H2 vs A2 S2 r2 => ?_⟩⟩
  cases r1 with
  | int i =>
    cases r2 with
    | nil => cases e
    | cons r3 r4 =>
      cases r4 with
      | nil => cases r3 <;> cases e
      | cons r4 r5 =>
        cases r5 with
        | cons _ _ => cases r3 <;> (cases r4 <;> cases e)
        | nil =>
          cases r3 with
          | int lo =>
            cases r4 with
            | int hi =>
              cases e
              exact ⟨lo, hi, rfl, fun p hp => ⟨i, p, lo, hi, rfl, rfl, upd_same, q _ _ _ (A1.trans (A2.trans (Adv.fresh hp))) (S2.fresh hp) (.bl _)⟩⟩
            | _ => cases e
          | _ => cases e
  | _ => cases e
section
variable {a e1 e2 : Expr} {f : FE} {fa : FA} {p p2 : Pos}
theorem m_inA (hg : Gl X "range") (hm : X.mg "range" = none) (h : PE X a (tF X.K f)) (ha : PA X [e1] (tA X.K fa)) (he : starEach [e1] X.env = (false, eval e1 X.env) :: starEach [] X.env := by rfl) : PE X (.Compare a [.In] [.Call (.Name "range" p) [e1] [] p2] pos) (tF X.K (eRinA false f fa)) :=
  (pe_cmpR op_in_rngA h (pe_callTy cr_rng1 hg hm (by rfl) ha (by decide) (by decide) he (by rfl)) (by rfl)).imp rinA_of
theorem m_notinA (hg : Gl X "range") (hm : X.mg "range" = none) (h : PE X a (tF X.K f)) (ha : PA X [e1] (tA X.K fa)) (he : starEach [e1] X.env = (false, eval e1 X.env) :: starEach [] X.env := by rfl) : PE X (.Compare a [.NotIn] [.Call (.Name "range" p) [e1] [] p2] pos) (tF X.K (eRinA true f fa)) :=
  (pe_cmpR op_notin_rngA h (pe_callTy cr_rng1 hg hm (by rfl) ha (by decide) (by decide) he (by rfl)) (by rfl)).imp rinA_of
theorem m_inB (hg : Gl X "range") (hm : X.mg "range" = none) (h : PE X a (tF X.K f)) (ha : PA X [e1, e2] (tA X.K fa)) (he : starEach [e1, e2] X.env = (false, eval e1 X.env) :: starEach [e2] X.env := by rfl) (hpl : (backTo p2 (starEach [e2] X.env)).any (·.1) = false := by rfl) : PE X (.Compare a [.In] [.Call (.Name "range" p) [e1, e2] [] p2] pos) (tF X.K (eRinB false f fa)) :=
  (pe_cmpR op_in_rngA h (pe_callTy cr_rng2 hg hm (by rfl) ha (by decide) (by decide) he hpl) (by rfl)).imp rinB_of
theorem m_notinB (hg : Gl X "range") (hm : X.mg "range" = none) (h : PE X a (tF X.K f)) (ha : PA X [e1, e2] (tA X.K fa)) (he : starEach [e1, e2] X.env = (false, eval e1 X.env) :: starEach [e2] X.env := by rfl) (hpl : (backTo p2 (starEach [e2] X.env)).any (·.1) = false := by rfl) : PE X (.Compare a [.NotIn] [.Call (.Name "range" p) [e1, e2] [] p2] pos) (tF X.K (eRinB true f fa)) :=
  (pe_cmpR op_notin_rngA h (pe_callTy cr_rng2 hg hm (by rfl) ha (by decide) (by decide) he hpl) (by rfl)).imp rinB_of
theorem mt_inA (hg : Gl X "range") (hm : X.mg "range" = none) (h : PE X a (tF X.K f)) (ha : PA X [e1] (tA X.K fa)) (he : starEach [e1] X.env = (false, eval e1 X.env) :: starEach [] X.env := by rfl) : PT X (.Compare a [.In] [.Call (.Name "range" p) [e1] [] p2] pos) (tT X.K (bTest (eRinA false f fa))) :=
  (pt_cmpR op_in_rngA h (pe_callTy cr_rng1 hg hm (by rfl) ha (by decide) (by decide) he (by rfl)) (by rfl)).imp fun σ H Q h => rinA_of σ H _ (tT_test σ H Q h)
theorem mt_notinA (hg : Gl X "range") (hm : X.mg "range" = none) (h : PE X a (tF X.K f)) (ha : PA X [e1] (tA X.K fa)) (he : starEach [e1] X.env = (false, eval e1 X.env) :: starEach [] X.env := by rfl) : PT X (.Compare a [.NotIn] [.Call (.Name "range" p) [e1] [] p2] pos) (tT X.K (bTest (eRinA true f fa))) :=
  (pt_cmpR op_notin_rngA h (pe_callTy cr_rng1 hg hm (by rfl) ha (by decide) (by decide) he (by rfl)) (by rfl)).imp fun σ H Q h => rinA_of σ H _ (tT_test σ H Q h)
theorem mt_inB (hg : Gl X "range") (hm : X.mg "range" = none) (h : PE X a (tF X.K f)) (ha : PA X [e1, e2] (tA X.K fa)) (he : starEach [e1, e2] X.env = (false, eval e1 X.env) :: starEach [e2] X.env := by rfl) (hpl : (backTo p2 (starEach [e2] X.env)).any (·.1) = false := by rfl) : PT X (.Compare a [.In] [.Call (.Name "range" p) [e1, e2] [] p2] pos) (tT X.K (bTest (eRinB false f fa))) :=
  (pt_cmpR op_in_rngA h (pe_callTy cr_rng2 hg hm (by rfl) ha (by decide) (by decide) he hpl) (by rfl)).imp fun σ H Q h => rinB_of σ H _ (tT_test σ H Q h)
theorem mt_notinB (hg : Gl X "range") (hm : X.mg "range" = none) (h : PE X a (tF X.K f)) (ha : PA X [e1, e2] (tA X.K fa)) (he : starEach [e1, e2] X.env = (false, eval e1 X.env) :: starEach [e2] X.env := by rfl) (hpl : (backTo p2 (starEach [e2] X.env)).any (·.1) = false := by rfl) : PT X (.Compare a [.NotIn] [.Call (.Name "range" p) [e1, e2] [] p2] pos) (tT X.K (bTest (eRinB true f fa))) :=
  (pt_cmpR op_notin_rngA h (pe_callTy cr_rng2 hg hm (by rfl) ha (by decide) (by decide) he hpl) (by rfl)).imp fun σ H Q h => rinB_of σ H _ (tT_test σ H Q h)
end
end
end Mir

set_option Elab.async false
set_option linter.all false
set_option maxRecDepth 100000
namespace Mir
open PySem PySem.Spec PyProof.Rows L2
/-! // by a divisor of either sign, of up to 9000 bits -/
def CDivX (_ j : Int) : Prop := j ≠ 0 ∧ j.natAbs.log2 < 9000
theorem op_fdivX {X : Cx} : OpR X (binaryOp .FloorDiv) (rI CDivX fun i j => .int (i.fdiv j)) := opI fun i j _ _ _ _ _ hc q => floordiv_int hc.1 q (.inl (PyProof.noPylong_of_log2 hc.2))
abbrev gDivX := gIIc (fun _ j => decide (j ≠ 0 ∧ j.natAbs.log2 < 9000)) fun i j => .int (i.fdiv j)
theorem f_divX {K : PySem.W.Frag} : OpF K (rI CDivX fun i j => .int (i.fdiv j)) gDivX := f_I (fun i j h => of_decide_eq_true (p := j ≠ 0 ∧ j.natAbs.log2 < 9000) h) fun _ _ _ _ => .int _
theorem divX {i j : Int} {s : Sto} (h1 : j ≠ 0) (h2 : j.natAbs < 4611686018427387904) : gDivX (.int i) (.int j) s = some (.int (i.fdiv j), s) := by
  have h3 : j.natAbs < 2 ^ 62 := by omega
  have h : decide (j ≠ 0 ∧ j.natAbs.log2 < 9000) = true := decide_eq_true ⟨h1, Nat.lt_trans ((Nat.log2_lt (by omega)).mpr h3) (by decide)⟩
  simp only [gIIc, h, if_true]
theorem modN {i j : Int} {s : Sto} (h1 : j ≠ 0) : gModN (.int i) (.int j) s = some (.int (i.fmod j), s) := by
  have h : decide (j ≠ 0) = true := decide_eq_true h1
  simp only [gIIc, h, if_true]
end Mir

set_option Elab.async false
set_option linter.all false
set_option maxRecDepth 100000
namespace Mir
open PySem PySem.Spec PyProof.Rows L2
/-! a, b = a list -/
def sAsgL (ts : List Tg) (f : FE) : FS := fun ρ s => bd (f ρ s) fun w s1 => match lstOf w s1 with
  | some ws => match tgMs ts ws ρ with
    | some ρ1 => some (.nx ρ1, s1)
    | none => none
  | none => none
section
variable {X : Cx} {e : Expr} {pos : Pos}
theorem lst_sq {K : PySem.W.Frag} {m : List Addr} {H : Hp} {s : Sto} {w : W} {ws : List W} {v : V} (S : SR K m H s) (h : lstOf w s = some ws) (r : R K m H w v) : ∃ a vs, v = .ref a ∧ SqL K H a vs ∧ RL K m H ws vs := by
  cases r with
  | lro h1 h2 => cases h; exact ⟨_, _, rfl, h1.sq, h2⟩
  | @ref n a hk =>
    unfold lstOf at h
    cases ek : s[n]? with
    | none => simp only [ek] at h; cases h
    | some o =>
      cases o with
      | lst us =>
        simp only [ek] at h
        cases h
        obtain ⟨a', ha, vs, h1, h2⟩ := S.at ek
        rw [hk] at ha; cases ha
        exact ⟨_, _, rfl, SqL.of h1, h2⟩
      | _ => simp only [ek] at h; cases h
  | _ => cases h
theorem ms_asgL {es : List Expr} {k : Nat} {p : Pos} {ts : List Tg} {f : FE} (hc : X.calm = true) (he : PE X e (tF X.K f)) (hg : PGs X es (tgTs X.K ts)) (hn : (assignEach es X.env).length = ts.length := by rfl) (hst : (assignEach es X.env).findIdx? (·.1) = none := by rfl) (hs : swapsWithSole [.Tuple es k p] e pos.line X.env = pure false := by rfl) (hw : swappedStores [.Tuple es k p] e X.env = pure none := by rfl)
    (h1 : (assignEach [.Tuple es k p] X.env).map (·.2) = [assign (.Tuple es k p) X.env] := by rfl) : PS X (.Assign [.Tuple es k p] e pos) (tS X.K (sAsgL ts f)) :=
  (ps_asg he (pg_lst hc hg hn hst) hs hw h1).imp fun D σ H ⟨m, ρ, s, er, sr, o, s', e, q⟩ => by
    obtain ⟨w, s1, e1, e⟩ := bd_inv e
    cases el : lstOf w s1 with
    | none => simp only [el] at e; cases e
    | some ws =>
      simp only [el] at e
      cases et : tgMs ts ws ρ with
      | none => simp only [et] at e; cases e
      | some ρ1 =>
        simp only [et] at e
        cases e
        refine ⟨m, ρ, s, er, sr, w, _, e1, fun m1 H1 v A1 S1 r1 => ?_⟩
        obtain ⟨a, vs, rfl, sq, rl⟩ := lst_sq S1 el r1
        exact ⟨a, vs, rfl, sq, rl.len.trans (tgMs_len (K := X.K) (m := m1) (H := H1) ts et).symm, tgs_ok ts (er.adv A1) rl et fun σ' er' _ => q m1 H1 σ' A1 S1 er'⟩
theorem wps_asgL {ts : List Tg} {f : FE} {fs : List FS} {ρ : EnvM} {s : Sto} {Q : Out → Sto → Prop} (h : Wp (f ρ s) fun w s1 => ∃ ws ρ1, lstOf w s1 = some ws ∧ tgMs ts ws ρ = some ρ1 ∧ WpS fs ρ1 s1 Q) : WpS (sAsgL ts f :: fs) ρ s Q := by
  rw [wps_cut]; unfold sAsgL; rw [wp_bd]
  refine h.mono fun w s1 ⟨ws, ρ1, h1, h2, h3⟩ => ?_
  simp only [h1, h2, wp_some]
  exact h3
end
end Mir

set_option Elab.async false
set_option linter.all false
set_option maxRecDepth 100000
namespace Vs
open PySem PySem.Spec PyProof.Rows L2
/-! ### how many different keys -/
def mem (k : L2.Key) (l : List L2.Key) : Bool := l.any fun j => decide (k = j)
theorem mem_iff {k : L2.Key} {l : List L2.Key} : mem k l = true ↔ k ∈ l := by
  unfold mem
  rw [List.any_eq_true]
  constructor
  · rintro ⟨x, hx, e⟩
    rw [of_decide_eq_true e]; exact hx
  · exact fun h => ⟨k, h, by simp⟩
theorem mem_snoc {k x : L2.Key} {l : List L2.Key} : mem k (l ++ [x]) = (mem k l || decide (k = x)) := by simp [mem]
def addk (acc : List L2.Key) (k : L2.Key) : List L2.Key := if mem k acc = true then acc else acc ++ [k]
def seen (l : List L2.Key) : List L2.Key := l.foldl addk []
def dn (l : List L2.Key) : Nat := (seen l).length
theorem addk_mem {acc : List L2.Key} {k j : L2.Key} : j ∈ addk acc k ↔ j ∈ acc ∨ j = k := by
  unfold addk
  by_cases c : mem k acc = true
  · rw [if_pos c]
    constructor
    · exact .inl
    · rintro (h | rfl)
      · exact h
      · exact mem_iff.mp c
  · rw [if_neg c]
    simp
theorem fold_mem : ∀ (l acc : List L2.Key) (j : L2.Key), j ∈ l.foldl addk acc ↔ j ∈ acc ∨ j ∈ l
  | [], acc, j => by simp
  | k :: l, acc, j => by rw [List.foldl_cons, fold_mem l, addk_mem, List.mem_cons, or_assoc]
theorem seen_mem (l : List L2.Key) (k : L2.Key) : mem k (seen l) = mem k l := by
  have h : k ∈ seen l ↔ k ∈ l := by unfold seen; rw [fold_mem]; simp
  rw [← mem_iff, ← mem_iff] at h
  cases e1 : mem k (seen l) <;> cases e2 : mem k l <;> simp [e1, e2] at h ⊢
theorem dn_snoc {l : List L2.Key} {k : L2.Key} : dn (l ++ [k]) = if mem k l = true then dn l else dn l + 1 := by
  have e : seen (l ++ [k]) = addk (seen l) k := by unfold seen; rw [List.foldl_append]; rfl
  unfold dn
  rw [e, addk, seen_mem]
  by_cases c : mem k l = true
  · rw [if_pos c, if_pos c]
  · rw [if_neg c, if_neg c, List.length_append]
    rfl
theorem fold_len : ∀ (l acc : List L2.Key), (l.foldl addk acc).length ≤ acc.length + l.length
  | [], acc => by simp
  | k :: l, acc => by
    have h := fold_len l (addk acc k)
    have : (addk acc k).length ≤ acc.length + 1 := by
      unfold addk
      split
      · omega
      · simp
    rw [List.foldl_cons, List.length_cons]
    omega
theorem dn_le (l : List L2.Key) : dn l ≤ l.length := by
  have := fold_len l []
  simpa [dn, seen] using this
theorem off1 {b N C D : Nat} (hb : b < N ∨ b = C ∨ b = D) (hC : N + 1 ≤ C) (hD : N + 1 ≤ D) : b ≠ N := by omega
theorem ne1 {b N C : Nat} (hb : b < N + 1) (hC : N + 1 ≤ C) : b ≠ C := by omega
section
variable {X : Cx}
/-- {y for y in t}, t a tuple of texts and ints -/
def tSk (P : Program) (w : World) (K : PySem.W.Frag) (te : TE) : TE := fun σ H Q => te σ H fun v H1 => ∃ a ks, v = V.ref a ∧ SqT K H1 a (ks.map kV) ∧ ks.length + 1 < scanBound ∧
  ∀ D, H1 D = none → Q (.ref D) (upd H1 D (SetK P w D (fun k => mem k ks) (dn ks)))
theorem pe_sk {y : Str} {iter : Expr} {scope : Scope} {cl : List (Str × Addr)} {te : TE} {pa pe pos : Pos} (hc : X.calm = true) (hi : PE X iter te) (hclos : closureFor scope X.env = pure cl) (hcell : ∀ z ∈ scope.names, z.2 ≠ .cell) (hkind : scope.kind = .function)
    (hnames : ∀ z ∈ scope.names, z.2 = .local → scope.names.lookup z.1 = some .local) (hy : scope.names.lookup y = some .local) (hd : (y == ("__debug__" : Str)) = false) (hs : ∀ x, foldedSetIterable iter X.env x = pure x := by intro _; rfl) :
    PE X (.SetComp (.Name y pe) [⟨.Name y pa, iter, [], 0⟩] scope pos) (tSk X.prog X.w X.K te) := by
  refine ⟨fun pins s σ H Q I h => ?_⟩
  have hh : X.A.handled = none := I.ok.hd hc
  refine SetComp_goes hclos hcell hkind hnames ?_ hs
  unfold tSk at h
  refine thn (hi.run pins s σ H _ I h) fun v s1 hx => ?_
  obtain ⟨x, H1, I1, r, a, ks, rfl, hq, hsz, q⟩ := hx
  cases r
  obtain ⟨its, rv, p1, _⟩ := I1.tuple hq
  have hlt : (a : Nat) < s1.heap.objs.size := by obtain ⟨o, ho, _⟩ := p1; exact Heap.lt_size ho
  refine wpAny_pyIter_tuple p1 ?_
  refine ⟨_, _, _, _, _, _, rfl, Goes.tuple hh s1.heap.objs.size a (Nat.ne_of_lt hlt) its.toArray, ⟨⟨_, Heap.get?_push_size _ rfl, rfl, rfl⟩, p1.push _⟩, fun D C s₃ hB hD => ?_⟩
  obtain ⟨⟨h₃, tk₃, rfl⟩, old, nD, nC, hDC, hnm⟩ := hB
  have nC' : (s1.heap.objs.size + 1 : Nat) ≤ C := by
    have z : (s1.heap.push { cls := .type "tuple_iterator", data := .fields #[.ref a, .int 0 0] }).objs.size ≤ C := nC
    rw [Heap.size_push] at z
    exact z
  have nD' : (s1.heap.objs.size + 1 : Nat) ≤ D := by
    have z : (s1.heap.push { cls := .type "tuple_iterator", data := .fields #[.ref a, .int 0 0] }).objs.size ≤ D := nD
    rw [Heap.size_push] at z
    exact z
  have kx : (compEnvC scope cl C X.env).kindOf y = some .local := lookup_relabel_local hy
  have hp : ((compEnvC scope cl C X.env).scope.kind == .class || ((compEnvC scope cl C X.env).scope.kind == .module && (compEnvC scope cl C X.env).locals != (compEnvC scope cl C X.env).globals)) = false := by
    show (scope.kind == .class || (scope.kind == .module && _)) = false
    rw [hkind]; rfl
  have s0 : Heap.SetOf (mixKind X.prog X.w) h₃ D (fun k => mem k (ks.take 0)) (dn (ks.take 0)) := ⟨_, #[], 0, _, hD, ⟨rfl, rfl, rfl⟩, rfl, (fun e he => by simp at he), (fun k => by simp [mem]), (by decide), (by rfl), rfl⟩
  refine ⟨fun i s' => ∃ h' tk m, s' = { s1 with heap := h', toks := tk } ∧ h'.Ns C m ∧ Heap.SetOf (mixKind X.prog X.w) h' D (fun k => mem k (ks.take i)) (dn (ks.take i)) ∧ ∀ b o, s1.heap.get? b = some o → h'.get? b = some o, ⟨h₃, tk₃, _, rfl, hnm, s0, fun b o e => old b o (Heap.get?_push_of_some _ e)⟩, ?_, ?_, ?_⟩
  · rintro i s₁ h' tk ⟨h₄, tk₄, m, rfl, n₄, S₄, k₄⟩ hk' _
    have off : ∀ b : Addr, (b < s1.heap.objs.size ∨ b = C ∨ b = D) → b ∉ [s1.heap.objs.size] := fun b hb hm => off1 hb nC' nD' (by simpa using hm)
    exact ⟨h', tk, m, rfl, n₄.at' fun o e => hk' _ o (off _ (.inr (.inl rfl))) e, setOf_at S₄ fun o e => hk' _ o (off _ (.inr (.inr rfl))) e, fun b o e => hk' b o (off _ (.inl (Heap.lt_size e))) (k₄ b o e)⟩
  · rintro i v s₁ hi hv st ⟨h₄, tk₄, m, rfl, n₄, S₄, k₄⟩
    have e1 := rv.length
    rw [List.length_map] at e1
    have hi' : i < ks.length := by rw [e1]; simpa using hi
    have hk : ks[i]? = some ks[i] := List.getElem?_eq_getElem hi'
    obtain ⟨u, hu, ru⟩ := rv.get (i := i) (x := kV ks[i]) (by rw [List.getElem?_map, hk]; rfl)
    have ev : v = u := by
      have z : its[i]? = some v := by simpa using hv
      rw [hu] at z
      cases z
      rfl
    subst ev
    refine wpAny_assign_Name (wpAny_storeName_local kx n₄ (fun h₅ n₅ s₅ => ?_) hp)
    refine wpAny_tests_nil ?_
    show wpAny _ _ _ _ _ _
    rw [eval_Name _ _ _ hd]
    refine wpAny_bind (wpAny_standAt (wpAny_loadName_local hkind kx n₅ (v := v) (if_pos rfl) ?_))
    have dl := dn_le (ks.take i)
    have dl2 : (ks.take i).length ≤ ks.length := by rw [List.length_take]; exact Nat.min_le_right _ _
    refine call_set_add (knd := mixKind X.prog X.w) (k := ks[i]) (kV_is ru) (key_scan ru) (setOf_at S₄ fun o e => s₅.extBut _ o hDC e) (by omega) fun h₆ sb new => ?_
    have et : ks.take (i + 1) = ks.take i ++ [ks[i]] := by rw [List.take_add_one, hk]; rfl
    have offC : ∀ b : Addr, b < s1.heap.objs.size + 1 → b ≠ C := fun b hb => ne1 hb nC'
    have offD : ∀ b : Addr, b < s1.heap.objs.size + 1 → b ≠ D := fun b hb => ne1 hb nD'
    have old2 : ∀ (b : Addr) o, b < s1.heap.objs.size + 1 → h₄.get? b = some o → h₆.get? b = some o := fun b o hb e => (sb.2 b (offD b hb)).trans (s₅.extBut b o (offC b hb) e)
    refine ⟨⟨h₆, _, _, rfl, n₅.at' fun o e => (sb.2 C (Ne.symm hDC)).trans e, ?_, fun b o e => old2 b o (Nat.lt_succ_of_lt (Heap.lt_size e)) (k₄ b o e)⟩, st.1.at fun o e => old2 _ o (Nat.lt_succ_self _) e, st.2.at fun o e => old2 _ o (Nat.lt_succ_of_lt hlt) e⟩
    have f1 : (fun k => mem k (ks.take (i + 1))) = fun k' => mem k' (ks.take i) || decide (k' = ks[i]) := by funext k'; rw [et, mem_snoc]
    rw [f1, et, dn_snoc]
    exact new
  · rintro s₁ ⟨h₄, tk₄, m, rfl, n₄, S₄, k₄⟩
    refine ⟨m, n₄, fun h' hs' => ?_⟩
    have e1 := rv.length
    rw [List.length_map] at e1
    have et : ks.take its.toArray.size = ks := List.take_of_length_le (by rw [List.size_toArray]; omega)
    rw [et] at S₄
    have hs2 : ∀ b o, h₄.get? b = some o → b ≠ C → h'.get? b = some o := fun b o e hb => (hs'.2 b hb).trans e
    exact ⟨.ref D, _, I1.laid (t' := tk₄) (fun b o e => hs2 b o (k₄ b o e) (ne1 (Nat.lt_succ_of_lt (Heap.lt_size e)) nC')) (Nat.le_trans (Nat.le_succ _) nD') (setK_new (setOf_at S₄ fun o e => hs2 D o e hDC)), rfl, q D (I1.hok.fresh (Nat.le_trans (Nat.le_succ _) nD'))⟩
/-- len of a set of keys -/
theorem call_lenK : CallR X (.builtin "len") (fun xs H Q => ∃ a S n, xs = [V.ref a] ∧ H a = some (SetK X.prog X.w a S n) ∧ Q (.int (n : Int)) H) := by
  intro pins s σ H xs us Q I r h
  obtain ⟨a, S, n, rfl, ha, q⟩ := h
  cases r with
  | cons r rr =>
    cases rr
    cases r
    obtain ⟨o, es, ep, t, ho, hx, hd, g, hm, hb, hf, hn⟩ := setK_get I ha
    refine call_len_set ho hx hd hf (by have : scanBound ≤ 2 ^ 63 := by decide
                                        omega) ?_
    subst hn
    exact ⟨.int (es.size : Int), H, I.kept (t' := s.toks + 1 + 1) (fun b u e => e), ⟨_, rfl⟩, q⟩
end
end Vs

set_option Elab.async false
set_option linter.all false
set_option maxRecDepth 100000
namespace Mir
open PySem PySem.Spec PyProof.Rows L2
/-! ### len({y for y in t}), t a tuple of texts and ints -/
def kyOf : List W → Option (List L2.Key)
  | [] => some []
  | .int i :: r => (kyOf r).map (.inl i :: ·)
  | .str z :: r => (kyOf r).map (.inr z :: ·)
  | _ :: _ => none
theorem ky_rl {K : PySem.W.Frag} {m : List Addr} {H : Hp} : ∀ {ws : List W} {vs : List V} {ks : List L2.Key}, RL K m H ws vs → kyOf ws = some ks → vs = ks.map kV
  | [], _, _, r, e => by
    cases r
    simp only [kyOf, Option.some.injEq] at e
    subst e
    rfl
  | w :: ws, _, ks, r, e => by
    cases r with
    | cons h1 h2 =>
      cases w with
      | int i =>
        simp only [kyOf, Option.map_eq_some_iff] at e
        obtain ⟨ks', e', rfl⟩ := e
        cases h1
        rw [ky_rl h2 e']
        rfl
      | str z =>
        simp only [kyOf, Option.map_eq_some_iff] at e
        obtain ⟨ks', e', rfl⟩ := e
        cases h1
        rw [ky_rl h2 e']
        rfl
      | _ => simp [kyOf] at e
def eLsc (f : FE) : FE := fun ρ s => bd (f ρ s) fun x s1 => match x with
  | .tup ws => match kyOf ws with
    | some ks => if ks.length ≤ 1000 then some (.int (Vs.dn ks : Int), s1) else none
    | none => none
  | _ => none
section
variable {X : Cx}
theorem m_lsc {y : Str} {iter : Expr} {scope : Scope} {cl : List (Str × Addr)} {f : FE} {p pa pe pos pos2 : Pos} (hc : X.calm = true) (hg : Gl X "len") (hm : X.mg "len" = none) (hi : PE X iter (tF X.K f)) (hclos : closureFor scope X.env = pure cl) (hcell : ∀ z ∈ scope.names, z.2 ≠ .cell) (hkind : scope.kind = .function)
    (hnames : ∀ z ∈ scope.names, z.2 = .local → scope.names.lookup z.1 = some .local) (hy : scope.names.lookup y = some .local) (hd : (y == ("__debug__" : Str)) = false) (hs : ∀ x, foldedSetIterable iter X.env x = pure x := by intro _; rfl) :
    PE X (.Call (.Name "len" p) [.SetComp (.Name y pe) [⟨.Name y pa, iter, [], 0⟩] scope pos] [] pos2) (tF X.K (eLsc f)) :=
  (pe_callB Vs.call_lenK hg hm (by kernel_rfl) (pa_cons (Vs.pe_sk hc hi hclos hcell hkind hnames hy hd hs) pa_nil)).imp fun σ H Q ⟨m, ρ, s, er, sr, w, s', e, q⟩ => by
    obtain ⟨x, s1, e1, e⟩ := bd_inv e
    refine ⟨m, ρ, s, er, sr, x, s1, e1, fun m1 H1 v A1 S1 r1 => ?_⟩
    cases x with
    | tup ws =>
      cases ek : kyOf ws with
      | none => simp only [ek] at e; cases e
      | some ks =>
        simp only [ek] at e
        by_cases c : ks.length ≤ 1000
        · rw [if_pos c] at e
          cases e
          cases r1 with
          | tup h1 h2 =>
            have ev := ky_rl h2 ek
            subst ev
            refine ⟨_, ks, rfl, h1.sq, by have : 2000 ≤ scanBound := by decide
                                          omega, fun D hD => ⟨D, _, _, rfl, upd_same, ?_⟩⟩
            exact q m1 _ _ (A1.trans (Adv.fresh hD)) (S1.fresh hD) (.int _)
        · rw [if_neg c] at e; cases e
    | _ => cases e
end
end Mir

set_option Elab.async false
set_option linter.all false
set_option maxRecDepth 100000
namespace Mir
open PySem PySem.Spec PyProof.Rows L2
/-! ### a lambda runs -/
abbrev LamA.nf (A : LamA) (cl : List (Str × Addr)) (c : Addr) : NdefX.NF := ⟨"<lambda>", A.qual, A.params, [], A.scope, cl, c⟩
/-- the mirror of a lambda: its arguments, then what it captured -/
def mkL (n : Nat) (f : FE) : List W → Sto → Rz W := fun ws s => if ws.length = n then f (ws.map some) s else none
structure LOk (P : Program) (w : World) (K : PySem.W.Frag) (mg : Str → Option Value) (base : Heap) (k : Nat) (A : LamA) (G : List W → Sto → Rz W) : Prop where
  len : ∀ ws s r, G ws s = some r → ws.length = A.ps.length + A.fr.length
  run : ∀ (Ar : Around) (outer : List Env) (s : Shared) (H : Hp) (us : List Value) (vs cvs : List V) (Q : VK) (f c : Addr) (cl : List (Str × Addr)) (pm ctv : Value), Room k Ar → Env0 P w K mg base Ar outer s H →
    s.heap.get? f = some (PySem.W.kla_obj "<lambda>" A.qual A.params A.body A.scope cl pm c ctv) → s.heap.CodeRec (.ref c) A.qual → NdefX.CellsAt cl A.fr (cvs.map some) s.heap H → Vals vs us → vs.length = A.ps.length →
    (∃ m st ws caps, RL K m H ws vs ∧ RL K m H caps cvs ∧ SR K m H st ∧ wE K m H (G (ws ++ caps) st) Q) → codeAny (model P w) Ar (.call (.ref f) ⟨us, []⟩) (CR CX0 outer P w H s Q E0) s
theorem LOk.mono {P : Program} {w : World} {K : PySem.W.Frag} {mg : Str → Option Value} {base : Heap} {j k : Nat} {A : LamA} {G : List W → Sto → Rz W} (o : LOk P w K mg base j A G) (h : j ≤ k) : LOk P w K mg base k A G :=
  ⟨o.len, fun Ar outer s H us vs cvs Q f c cl pm ctv hr => o.run Ar outer s H us vs cvs Q f c cl pm ctv (hr.mono h)⟩
theorem lok_of {P : Program} {w : World} {K : PySem.W.Frag} {mg : Str → Option Value} {base : Heap} {k : Nat} {A : LamA} {fb : FE} (S : NdefX.NScope (A.ps ++ A.fr) A.ps A.fr A.scope)
    (hb : ∀ (cl : List (Str × Addr)) (pm cv ctv : Value) (us : List Value), us.length = A.ps.length → bindArgs (PySem.W.kla_fn "<lambda>" A.qual A.params A.body A.scope cl pm cv ctv) ⟨us, []⟩ = pure (A.ps.zip us))
    (hbody : ∀ (Ar : Around) (outer : List Env) (s : Shared) (H : Hp) (f c : Addr) (cl : List (Str × Addr)), Room k (Ar.deeper (NdefX.envF (A.nf cl c) f s.heap.objs.size)) → PE (NdefX.ncx CX0 P w K mg base (A.ps ++ A.fr) (A.nf cl c) f Ar outer s H E0) A.body (tF K fb)) :
    LOk P w K mg base (k + 1) A (mkL (A.ps.length + A.fr.length) fb) := by
  refine ⟨fun ws s r e => ?_, fun Ar outer s H us vs cvs Q f c cl pm ctv hr e0 ho hcd C r hl hq => ?_⟩
  · unfold mkL at e
    split at e
    · assumption
    · cases e
  · have lim : s.heap.NoLimit := e0.mod.nolimit.keeps fun b o e => (e0.bs b o e).1
    obtain ⟨m, st, ws, caps, rw1, rc, sr, x, s', e, q⟩ := hq
    refine PySem.W.kla_callFunE hr.depth ho rfl S.co S.gen rfl hcd ?_
    rw [hb cl pm (.ref c) ctv us (by rw [← r.length]; exact hl)]
    refine wpAny_pure (wpAny_newFunctionEnv S.nocell (fun ⟨n, _⟩ hy => S.par n (List.of_mem_zip hy).1) (fun h₁ hns hsb => ⟨lim.fresh _ hsb, ?_⟩) S.kind)
    show codeAny _ _ (.expr A.body (NdefX.envF (A.nf cl c) f s.heap.objs.size)) _ _
    have kp : ∀ b o, s.heap.get? b = some o → h₁.get? b = some o := fun b o e => hsb.extBut b o (Nat.ne_of_lt (Heap.lt_size e)) (Heap.get?_push_of_some _ e)
    have I : Inv (NdefX.ncx CX0 P w K mg base (A.ps ++ A.fr) (A.nf cl c) f Ar outer s H E0) [] (NdefX.startF (A.ps ++ A.fr) vs (cvs.map some)) H { s with heap := h₁, toks := s.toks + (A.ps.zip us).length } := NdefX.inv_startN (F := A.nf cl c) S hr.hd e0 hl r C hns kp
    have cl2 : cvs.length = A.fr.length := by have := C.len; rw [List.length_map] at this; exact this
    have hN : (ws ++ caps).length = A.ps.length + A.fr.length := by rw [List.length_append, ← rw1.len, ← rc.len, hl, cl2]
    unfold mkL at e
    rw [if_pos hN] at e
    have hσ : NdefX.startF (A.ps ++ A.fr) vs (cvs.map some) = (vs ++ cvs).map some := by
      unfold NdefX.startF
      have : (A.ps ++ A.fr).length - vs.length - (cvs.map some).length = 0 := by rw [List.length_append, List.length_map]; omega
      rw [this, List.replicate_zero, List.append_nil, List.map_append]
    rw [hσ] at I
    have er : ER K m H ((ws ++ caps).map some) ((vs ++ cvs).map some) := (rw1.app rc).env
    refine PySem.W.kla_codeExpr (wpAny_mono ((hbody Ar outer s H f c cl (hr.deeper _)).run [] _ _ H Q I ⟨m, _, st, er, sr, x, s', e, q⟩) (fun v s' hq => ?_) fun e s' hq => hq)
    obtain ⟨w', H', J', rv, q⟩ := hq
    exact ⟨w', H', J'.os, J'.bare, J'.base, J'.hok, rv, q⟩
end Mir

set_option Elab.async false
set_option linter.all false
set_option maxRecDepth 100000
namespace Mir
open PySem PySem.Spec PyProof.Rows L2
/-! ### cells that are tracked, and not for a while -/
open Classical in
/-- the cells of cl are not tracked -/
noncomputable def offC (H : Hp) (cl : List (Str × Addr)) : Hp := fun b => if ∃ y, cl.lookup y = some b then none else H b
open Classical in
/-- .. and are again, as they were in H -/
noncomputable def onC (H H' : Hp) (cl : List (Str × Addr)) : Hp := fun b => if ∃ y, cl.lookup y = some b then H b else H' b
section
variable {K : PySem.W.Frag} {m m' : List Addr} {H H' : Hp} {cl : List (Str × Addr)} {b : Addr}
theorem offC_in (h : ∃ y, cl.lookup y = some b) : offC H cl b = none := if_pos h
theorem offC_out (h : ¬ ∃ y, cl.lookup y = some b) : offC H cl b = H b := if_neg h
theorem onC_in (h : ∃ y, cl.lookup y = some b) : onC H H' cl b = H b := if_pos h
theorem onC_out (h : ¬ ∃ y, cl.lookup y = some b) : onC H H' cl b = H' b := if_neg h
theorem offC_none (h : H b = none) : offC H cl b = none := by
  by_cases q : ∃ y, cl.lookup y = some b
  · exact offC_in q
  · rw [offC_out q]; exact h
theorem offC_some {o : HO} (h : offC H cl b = some o) : H b = some o ∧ ¬ ∃ y, cl.lookup y = some b := by
  by_cases q : ∃ y, cl.lookup y = some b
  · rw [offC_in q] at h; cases h
  · rw [offC_out q] at h; exact ⟨h, q⟩
/-- what reading a value leans on -/
structure ExtW (m : List Addr) (H : Hp) (m' : List Addr) (H' : Hp) : Prop where
  pre : ∃ t, m' = m ++ t
  tup : ∀ a xs, H a = some (.tup xs) → H' a = some (.tup xs)
  frz : ∀ a o xs, H a = some (.frz o (.lst xs)) → H' a = some (.frz o (.lst xs))
theorem ExtW.get (a : ExtW m H m' H') {n : Nat} {x : Addr} (h : m[n]? = some x) : m'[n]? = some x := by
  obtain ⟨t, rfl⟩ := a.pre
  rw [List.getElem?_append_left (List.getElem?_eq_some_iff.mp h).1]
  exact h
mutual
theorem R.extW (A : ExtW m H m' H') : ∀ {w : W} {v : V}, R K m H w v → R K m' H' w v
  | .non, _, h => by cases h; exact .non
  | .bl _, _, h => by cases h; exact .bl _
  | .int _, _, h => by cases h; exact .int _
  | .str _, _, h => by cases h; exact .str _
  | .tup ws, _, h => by
    cases h with
    | tup h1 h2 =>
      refine .tup ?_ (RL.extW A h2)
      rcases h1 with h1 | h1
      · exact .inl (A.tup _ _ h1)
      · exact .inr h1
  | .lro ws, _, h => by
    cases h with
    | lro h1 h2 =>
      refine .lro ?_ (RL.extW A h2)
      rcases h1 with ⟨o, h1⟩ | h1
      · exact .inl ⟨o, A.frz _ _ _ h1⟩
      · exact .inr h1
  | .ref _, _, h => by
    cases h with
    | ref h1 => exact .ref (A.get h1)
  | .fn _, _, h => by
    cases h with
    | fn h1 => exact .fn h1
theorem RL.extW (A : ExtW m H m' H') : ∀ {ws : List W} {vs : List V}, RL K m H ws vs → RL K m' H' ws vs
  | [], _, h => by cases h; exact .nil
  | w :: ws, _, h => by
    cases h with
    | cons h1 h2 => exact .cons (R.extW A h1) (RL.extW A h2)
end
theorem RK.extW (A : ExtW m H m' H') : ∀ {ws : List (Key × W)} {vs : List (Key × V)}, RK K m H ws vs → RK K m' H' ws vs
  | [], _, h => by cases h; exact .nil
  | w :: ws, _, h => by
    cases h with
    | cons h1 h2 => exact .cons (h1.extW A) (RK.extW A h2)
/-- the cells of cl -/
def CellsOf (H : Hp) (cl : List (Str × Addr)) : Prop := ∀ b, (∃ y, cl.lookup y = some b) → ∃ ok v, H b = some (.frz ok (.own 0)) ∧ ok.data = .cell v
theorem ClO.cells {fr : List Str} {cvs : List V} (c : ClO H cl fr cvs) : CellsOf H cl := by
  rintro b ⟨y, hy⟩
  obtain ⟨i, hi⟩ := List.mem_iff_getElem?.mp (c.dom y b hy)
  obtain ⟨k, ok, uv, v, h1, h2, h3, h4, _⟩ := c.at_ i y hi
  rw [hy] at h2
  cases h2
  exact ⟨ok, _, h3, h4⟩
theorem off_ext (C : CellsOf H cl) : ExtW m H m (offC H cl) := by
  have n : ∀ b o, H b = some o → (∀ ok, o ≠ .frz ok (.own 0)) → offC H cl b = some o := fun b o e hn => by
    rw [offC_out fun q => ?_]
    · exact e
    · obtain ⟨ok, v, h1, _⟩ := C b q
      rw [e] at h1
      cases h1
      exact hn _ rfl
  exact ⟨⟨[], by simp⟩, fun a xs e => n a _ e (fun _ z => by cases z), fun a o xs e => n a _ e (fun _ z => by cases z)⟩
/-- no lambda may be called -/
def kill1 : O → O
  | .lam _ _ => .dead
  | o => o
def kill (s : Sto) : Sto := s.map kill1
def revive : Sto → Sto → Sto
  | .lam A c :: r, .dead :: r' => .lam A c :: revive r r'
  | _ :: r, o :: r' => o :: revive r r'
  | _, s => s
theorem revive_len : ∀ s s' : Sto, (revive s s').length = s'.length
  | [], _ => by rw [revive]; intro _ _ _ _ h; cases h; all_goals (intro _ _ _ _ h; cases h)
  | .lam A c :: r, [] => by rw [revive] <;> simp
  | .lst _ :: r, [] => by rw [revive] <;> simp
  | .dct _ :: r, [] => by rw [revive] <;> simp
  | .tab _ _ :: r, [] => by rw [revive] <;> simp
  | .dead :: r, [] => by rw [revive] <;> simp
  | o :: r, o' :: r' => by
    cases o <;> cases o' <;> simp [revive, revive_len r r']
theorem revive_get : ∀ {s s' : Sto} {j : Nat} {o : O}, (revive s s')[j]? = some o → s'[j]? = some o ∨ ∃ A c, o = .lam A c ∧ s[j]? = some (.lam A c)
  | [], s', j, o, h => by
    have : revive [] s' = s' := by cases s' <;> rfl
    rw [this] at h
    exact .inl h
  | x :: r, [], j, o, h => by
    have : revive (x :: r) [] = [] := by cases x <;> rfl
    rw [this] at h
    exact .inl h
  | x :: r, y :: r', 0, o, h => by
    cases x <;> cases y <;> simp [revive] at h <;> subst h <;> first | exact .inl rfl | exact .inr ⟨_, _, rfl, rfl⟩
  | x :: r, y :: r', j + 1, o, h => by
    have h' : (revive r r')[j]? = some o := by
      cases x <;> cases y <;> simpa [revive] using h
    have := revive_get h'
    simpa using this
theorem sr_off {s : Sto} (S : SR K m H s) (C : CellsOf H cl) : SR K m (offC H cl) (kill s) := by
  refine ⟨by rw [kill, List.length_map]; exact S.len, S.nd, fun n a o h1 h2 => ?_⟩
  have E : ExtW m H m (offC H cl) := off_ext C
  have keep : ∀ b u, H b = some u → (∀ ok v, u = .frz ok (.own 0) → ok.data ≠ .cell v) → offC H cl b = some u := fun b u e hn => by
    rw [offC_out fun q => ?_]
    · exact e
    · obtain ⟨ok, v, h1, h2⟩ := C b q
      rw [e] at h1
      cases h1
      exact hn _ _ rfl h2
  rw [kill, List.getElem?_map] at h2
  cases es : s[n]? with
  | none => rw [es] at h2; cases h2
  | some o' =>
    rw [es] at h2
    cases h2
    have q := S.ok n a o' h1 es
    cases o' with
    | lst ws => obtain ⟨vs, e, r⟩ := q; exact ⟨vs, keep _ _ e (fun _ _ z => by cases z), r.extW E⟩
    | dct ws => obtain ⟨vs, e, r⟩ := q; exact ⟨vs, keep _ _ e (fun _ _ z => by cases z), r.extW E⟩
    | lam A caps =>
      obtain ⟨cl', c, pm, ctv, cvs, e, _⟩ := q
      exact ⟨_, keep _ _ e (fun ok v z => by cases z; exact fun z => by cases z), fun v z => by cases z⟩
    | tab P qn =>
      obtain ⟨rfl, ps, e1, e2, e3⟩ := q
      refine ⟨rfl, ps, keep _ _ e1 (fun _ _ z => by cases z), e2, fun pos cv hc => ?_⟩
      obtain ⟨c, r1, oc, u, vs, t, r2, r3, r4⟩ := e3 pos cv hc
      exact ⟨c, r1, oc, u, vs, t, keep _ _ r2 (fun ok v z => by cases z; rw [r3]; exact fun z => by cases z), r3, r4⟩
    | dead =>
      obtain ⟨o, e, n⟩ := q
      exact ⟨o, keep _ _ e (fun ok v z => by cases z; exact n v), n⟩
theorem on_ge (hn : ∀ b, (∃ y, cl.lookup y = some b) → H' b = none) : ∀ c o, H' c = some o → onC H H' cl c = some o := fun c o e => by
  rw [onC_out fun q => ?_]
  · exact e
  · rw [hn c q] at e; cases e
theorem adv_on {s' : Sto} (C : CellsOf H cl) (A : Adv m (offC H cl) m' H') (S : SR K m' H' s') (hn : ∀ b, (∃ y, cl.lookup y = some b) → H' b = none) : Adv m H m' (onC H H' cl) := by
  refine ⟨A.pre, fun a o e n => ?_, fun a h => ?_, fun a xs e => ?_, fun a o u e => ?_⟩
  · by_cases q : ∃ y, cl.lookup y = some a
    · rw [onC_in q]; exact e
    · rw [onC_out q]; exact A.same a o (by rw [offC_out q]; exact e) n
  · rcases A.new a h with h | h'
    · exact .inl h
    · by_cases q : ∃ y, cl.lookup y = some a
      · obtain ⟨u, e, _⟩ := S.there h
        rw [hn a q] at e
        cases e
      · rw [offC_out q] at h'
        exact .inr h'
  · by_cases q : ∃ y, cl.lookup y = some a
    · rw [onC_in q]; exact e
    · rw [onC_out q]; exact A.tup a xs (by rw [offC_out q]; exact e)
  · by_cases q : ∃ y, cl.lookup y = some a
    · rw [onC_in q]; exact e
    · rw [onC_out q]; exact A.frz a o u (by rw [offC_out q]; exact e)
theorem sr_on {s s' : Sto} (S0 : SR K m H s) (C : CellsOf H cl) (A : Adv m (offC H cl) m' H') (S : SR K m' H' s') (hn : ∀ b, (∃ y, cl.lookup y = some b) → H' b = none) : SR K m' (onC H H' cl) (revive s s') := by
  have A' := adv_on C A S hn
  have S' := S.grow (on_ge (H := H) hn)
  refine ⟨by rw [revive_len]; exact S.len, S.nd, fun n a o h1 h2 => ?_⟩
  rcases revive_get h2 with h3 | ⟨L, c, rfl, h3⟩
  · exact S'.ok n a o h1 h3
  · obtain ⟨a', e1, e2⟩ := S0.at h3
    have := A'.get e1
    rw [h1] at this
    cases this
    exact LamP.ext A'.ext e2
end
end Mir

set_option Elab.async false
set_option linter.all false
set_option maxRecDepth 100000
namespace Mir
open PySem PySem.Spec PyProof.Rows L2
open Classical in
/-- x(..), x a name that holds the lambda A, whose mirror is G -/
noncomputable def eAct (i : Nat) (A : LamA) (G : List W → Sto → Rz W) (fa : FA) : FE := fun ρ s => match ρ[i]? with
  | some (some (.ref n)) => match s[n]? with
    | some (.lam _ _) => bd (fa ρ s) fun ws s1 => match s1[n]? with
      | some (.lam A' caps) => if A' = A ∧ ws.length = A.ps.length then bd (G (ws ++ caps) (kill s1)) fun w s2 => some (w, revive s1 s2) else none
      | _ => none
    | _ => none
  | _ => none
section
variable {X : Cx} {K : PySem.W.Frag} {m m' : List Addr} {H H' : Hp} {cl : List (Str × Addr)} {b : Addr}
theorem hok_off {P : Program} {w : World} {h : Heap} (C : CellsOf H cl) (ok : HOk P w H h) : HOk P w (offC H cl) h := fun a o e => by
  obtain ⟨e1, _⟩ := offC_some e
  refine (ok a o e1).stay (fun _ _ _ q => q) (fun b q => ?_) fun b xs q => ?_
  · rw [offC_out fun z => ?_]
    · exact q
    · obtain ⟨ok, v, h1, _⟩ := C b z
      rw [q] at h1; cases h1
  · rw [offC_out fun z => ?_]
    · exact q
    · obtain ⟨ok, v, h1, _⟩ := C b z
      rw [q] at h1; cases h1
/-- what the run with the cells untracked promises, told with the cells -/
theorem ce_on {P : Program} {w : World} {outer : List Env} {s s' : Shared} {Q Q' : VK} {u : Value} (C : CellsOf H cl) (ok : HOk P w H s.heap) (frf : ∀ b ∈ frs outer, H b = none) (h : CE outer P w (offC H cl) s Q' u s')
    (q : ∀ v H', (∀ b, (∃ y, cl.lookup y = some b) → H' b = none) → Q' v H' → Q v (onC H H' cl)) : CE outer P w H s Q u s' := by
  obtain ⟨v, H', os, bare, un, hok, r, q'⟩ := h
  have cell : ∀ b, (∃ y, cl.lookup y = some b) → ∃ ok, H b = some (.frz ok (.own 0)) ∧ s.heap.get? b = some ok ∧ H' b = none ∧ s'.heap.get? b = some ok := fun b hb => by
    obtain ⟨o, v, h1, h2⟩ := C b hb
    obtain ⟨z, _⟩ := ok b _ h1
    exact ⟨o, h1, z, un.free b o z (offC_in hb) (by simp), un.keep b o z (offC_in hb) (fun hm => by rw [frf b hm] at h1; cases h1) (by simp)⟩
  have hn : ∀ b, (∃ y, cl.lookup y = some b) → H' b = none := fun b hb => by obtain ⟨_, _, _, z, _⟩ := cell b hb; exact z
  have nc : ∀ b, H b = none → ¬ ∃ y, cl.lookup y = some b := fun b e hb => by obtain ⟨_, z, _⟩ := cell b hb; rw [e] at z; cases z
  refine ⟨v, onC H H' cl, os, bare, ?_, ?_, r, q v H' hn q'⟩
  · refine ⟨fun b o e n h1 h2 => un.keep b o e (offC_none n) h1 h2, fun b o e n h1 h2 => un.slot b o e (offC_none n) h1 h2, fun b o e n h2 => ?_, un.there, fun b xs e => ?_, fun b o u e => ?_, fun b ps e => ?_⟩
    · rw [onC_out (nc b n)]; exact un.free b o e (offC_none n) h2
    · by_cases z : ∃ y, cl.lookup y = some b
      · rw [onC_in z]; exact e
      · rw [onC_out z]; exact un.tups b xs (by rw [offC_out z]; exact e)
    · by_cases z : ∃ y, cl.lookup y = some b
      · rw [onC_in z]; exact e
      · rw [onC_out z]; exact un.frzs b o u (by rw [offC_out z]; exact e)
    · by_cases z : ∃ y, cl.lookup y = some b
      · obtain ⟨o, h1, _⟩ := cell b z
        rw [e] at h1; cases h1
      · rw [onC_out z]; exact un.tbls b ps (by rw [offC_out z]; exact e)
  · intro b o e
    by_cases z : ∃ y, cl.lookup y = some b
    · rw [onC_in z] at e
      obtain ⟨ob, h1, h2, h3, h4⟩ := cell b z
      rw [h1] at e
      cases e
      exact ⟨h4, ob, h4⟩
    · rw [onC_out z] at e
      exact (hok b o e).stay (fun _ _ _ q => q) (fun c q => on_ge (H := H) hn c _ q) fun c xs q => on_ge (H := H) hn c _ q
theorem cells_at {fr : List Str} {cvs : List V} {P : Program} {w : World} {h : Heap} (c : ClO H cl fr cvs) (ok : HOk P w H h) : NdefX.CellsAt cl fr (cvs.map some) h (offC H cl) := by
  have C := c.cells
  refine ⟨by rw [List.length_map]; exact c.len, fun y k e => ⟨offC_in ⟨y, e⟩, ?_⟩, c.inj, fun i y e => ?_⟩
  · obtain ⟨o, v, h1, h2⟩ := C k ⟨y, e⟩
    obtain ⟨z, _⟩ := ok k _ h1
    exact ⟨v, o, z, h2⟩
  · obtain ⟨k, o, uv, v, h1, h2, h3, h4, h5⟩ := c.at_ i y e
    refine ⟨k, h2, fun v' e' => ?_⟩
    rw [List.getElem?_map, h1] at e'
    cases e'
    obtain ⟨z, _⟩ := ok k _ h3
    exact ⟨uv, h5, o, z, h4⟩
theorem m_act {k i : Nat} {A : LamA} {G : List W → Sto → Rz W} {fa : FA} {x : Str} {p pos : Pos} {e : Expr} {es : List Expr} (L : LOk X.prog X.w X.K X.mg X.base k A G) (hr : Room k X.A) (hN : X.N[i]? = some x) (hv : Vis X.env.scope x) (ha : PA X (e :: es) (tA X.K fa))
    (hdb : (x == ("__debug__" : Str)) = false := by decide) (hcd : (x == ("__classdict__" : Str)) = false := by decide)
    (he : starEach (e :: es) X.env = (false, eval e X.env) :: starEach es X.env := by rfl) (hpl : (backTo pos (starEach es X.env)).any (·.1) = false := by rfl) : PE X (.Call (.Name x p) (e :: es) [] pos) (tF X.K (eAct i A G fa)) := by
  refine ⟨fun pins s σ H Q I ⟨m, ρ, st, er, sr, w, st', e1, q⟩ => ?_⟩
  unfold eAct at e1
  cases ei : ρ[i]? with
  | none => simp only [ei] at e1; cases e1
  | some y =>
    cases y with
    | none => simp only [ei] at e1; cases e1
    | some y =>
      cases y with
      | ref n =>
        simp only [ei] at e1
        cases es0 : st[n]? with
        | none => simp only [es0] at e1; cases e1
        | some ob =>
          cases ob with
          | lam A0 caps0 =>
            simp only [es0] at e1
            obtain ⟨ws, st1, e2, e6⟩ := bd_inv e1
            cases es1 : st1[n]? with
            | none => simp only [es1] at e6; cases e6
            | some ob =>
              cases ob with
              | lam A' caps =>
                simp only [es1] at e6
                split at e6
                · rename_i hA
                  obtain ⟨rfl, hlen⟩ := hA
                  obtain ⟨w2, st2, e3, e7⟩ := bd_inv e6
                  cases e7
                  obtain ⟨v, hs, r⟩ := er.get ei
                  cases r with
                  | @ref _ a hm =>
                    obtain ⟨a', hm', cl0, c0, pm0, ctv0, cvs0, hf0, _⟩ := sr.at es0
                    rw [hm] at hm'; cases hm'
                    refine wpAny_Call_Name_kw (thn ((pe_var (pos := p) hN hv hdb hcd).run pins s σ H (fun v H1 => v = .ref a ∧ H1 = H) I ⟨.ref a, hs, rfl, rfl⟩) fun u s1 ⟨v, H1, I1, r1, q1⟩ => ?_)
                    obtain ⟨rfl, rfl⟩ := q1
                    cases r1
                    have fa0 : PySem.W.FnAt a s1.heap := by
                      obtain ⟨z, _⟩ := I1.hok a _ hf0
                      exact ⟨_, _, _, _, z⟩
                    refine PySem.W.callWith_F (first := []) fa0 (thn (ha.run pos pins s1 σ H1 (fun vs H2 => ∃ m1, Adv m H1 m1 H2 ∧ SR X.K m1 H2 st1 ∧ RL X.K m1 H2 ws vs) I1 ⟨m, ρ, st, er, sr, ws, st1, e2, fun m1 H2 vs A1 S1 r1 => ⟨m1, A1, S1, r1⟩⟩) fun us s2 ⟨vs, H2, I2, r, m1, A1, S1, rw1⟩ => ?_) he hpl
                    obtain ⟨a', hm', cl, c, pm, ctv, cvs, hf, ⟨oc, u2, vs2, t2, hc1, hc2, hc3⟩, hcl, hcap⟩ := S1.at es1
                    rw [A1.get hm] at hm'; cases hm'
                    have ho := (I2.hok a _ hf).1
                    refine ⟨⟨_, _, _, _, ho⟩, ?_⟩
                    show wpAny _ _ (call (.ref a) us) _ _ _
                    have C := hcl.cells
                    have e0 := I2.env0
                    have e0' : Env0 X.prog X.w X.K X.mg X.base X.A X.stack s2 (offC H2 cl) := ⟨e0.frames, e0.mod, fun b o e => ⟨(e0.bs b o e).1, offC_none (e0.bs b o e).2⟩, e0.bsz, e0.funs, fun b hb => offC_none (e0.frf b hb), hok_off C e0.hok, e0.bare⟩
                    have E := off_ext (m := m1) C
                    refine wpAny_call (codeAny_mono (L.run X.A X.stack s2 (offC H2 cl) us vs cvs (fun v H' => ∃ m', Adv m1 (offC H2 cl) m' H' ∧ SR X.K m' H' st2 ∧ R X.K m' H' w v) a c cl pm ctv hr e0' ho ⟨c, oc, vs2, t2, rfl, (I2.hok c _ hc1).1, hc2, hc3⟩ (cells_at hcl I2.hok) r (by rw [rw1.len]; exact hlen)
                      ⟨m1, kill st1, ws, caps, rw1.extW E, hcap.extW E, sr_off S1 C, w, st2, e3, fun m' H' v A' S' r' => ⟨m', A', S', r'⟩⟩) fun r s' hq => ?_)
                    cases r with
                    | error e => exact hq.elim
                    | ok fl =>
                      cases fl with
                      | next => exact False.elim hq
                      | brk => exact False.elim hq
                      | cont => exact False.elim hq
                      | ret u =>
                        refine I2.after (ce_on C I2.hok e0.frf hq fun v H' hn ⟨m', A', S', r'⟩ => ?_)
                        exact q m' _ v (A1.trans (adv_on C A' S' hn)) (sr_on S1 C A' S' hn) (r'.adv (Adv.grow (on_ge hn)))
                · cases e6
              | lst _ => simp only [es1] at e6; cases e6
              | dct _ => simp only [es1] at e6; cases e6
              | tab _ _ => simp only [es1] at e6; cases e6
              | dead => simp only [es1] at e6; cases e6
          | lst _ => simp only [es0] at e1; cases e1
          | dct _ => simp only [es0] at e1; cases e1
          | tab _ _ => simp only [es0] at e1; cases e1
          | dead => simp only [es0] at e1; cases e1
      | _ => simp only [ei] at e1; cases e1
end
end Mir

set_option Elab.async false
set_option linter.all false
set_option maxRecDepth 100000
namespace Mir
open PySem PySem.Spec PyProof.Rows L2
/-! ### a lambda is made -/
section
variable {X : Cx} {pins : List (Addr × Obj)} {σ : L2.St} {H : Hp} {s : Shared}
theorem lam_made {c P : Addr} {q : Str} {params : Arguments} {body : Expr} {scope : Scope} {pos : Pos} {E : Value → Shared → Prop} {Q : Value → Shared → Prop} (I : Inv X pins σ H s) (TB : LamX.TabB X.base X.mg c P) (hcode : X.env.code = .ref c) (hT : TabP H P q) (hq : X.env.qual ++ "<lambda>" = q)
    (hdef : defaultsOf params X.env = ([], [])) (hfree : ∀ y ∈ scope.names, y.2 = .free → ∃ c, X.env.cells.lookup y.1 = some c)
    (h : ∀ (f c' : Addr) (pm ctv : Value) (H1 : Hp) (s' : Shared), Inv X pins σ H1 s' → (∀ b o, b ≠ P → H b = some o → H1 b = some o) → TabP H1 P q → CodeP H1 c' q →
      H f = none → H1 f = some (.frz (PySem.W.kla_obj "<lambda>" q params body scope (cloFrom X.env.cells scope.names []) pm c' ctv) (.own 0)) → Q (.ref f) s') :
    wpAny (model X.prog X.w) X.A (eval (.Lambda params body scope pos) X.env) Q E s := by
  obtain ⟨ps, hP, ht, ha⟩ := hT
  refine PySem.W.kla_eval hdef ?_
  rw [hq]
  have bP : s.heap.BuiltinsAt X.mg P := TB.bm.keeps I.bk
  have hP' : s.heap.get? P = some { cls := .none, data := .fields ps } := I.hok P _ hP
  cases hc : codeAmong pos ps.toList with
  | none =>
    refine PySem.W.kla_makeFunction (mg := X.mg) (c := c) (P := P) (ps := ps) (closure_ok hfree) I.ok.glob (I.mod.glob.keeps I.bk) hcode (TB.code.keeps I.bk) hP' ht hc TB.gP bP fun c' ctv h' tk hx hge hlt hrec htb => ?_
    obtain ⟨c2, oc, vs, t, e2, hoc, hd, hv⟩ := hrec
    cases e2
    have hsz : s.heap.objs.size ≤ h'.objs.size := Nat.le_trans hge (Nat.le_of_lt hlt)
    have nC : H c' = none := I.hok.fresh hge
    have nF : H h'.objs.size = none := I.hok.fresh hsz
    have I1 := LamX.inv_table (t' := tk) (more := #[rawInt pos.line, rawInt pos.col, .ref c']) (q := q) (h' := h') I hP (fun b o hb e => hx b o hb e) htb hge ⟨oc, vs, t, hoc, hd, hv⟩
    obtain ⟨od, I2⟩ := I1.lock (d := c') upd_same trivial
    rw [upd_upd] at I2
    have hod : od = oc := by
      have z := (I2.hok c' _ upd_same).1
      have z : h'.get? c' = some od := z
      rw [hoc] at z; cases z; rfl
    subst hod
    generalize hG : upd (upd H P (.tbl (ps ++ #[rawInt pos.line, rawInt pos.col, .ref c']))) c' (.frz od (LamX.CodeO c' q)) = G at I2
    have gP : G P = some (.tbl (ps ++ #[rawInt pos.line, rawInt pos.col, .ref c'])) := by rw [← hG, upd_ne (ne_of_none hP nC), upd_same]
    have gC : G c' = some (.frz od (LamX.CodeO c' q)) := by rw [← hG, upd_same]
    have ext : ∀ b o, b ≠ P → H b = some o → G b = some o := fun b o hb e => by rw [← hG, upd_ne (ne_of_none e nC), upd_ne hb]; exact e
    have fG : G h'.objs.size = none := I2.hok.fresh (Nat.le_refl _)
    have I3 := I2.laid (t' := tk) (h' := h'.push (PySem.W.kla_obj "<lambda>" q params body scope (cloFrom X.env.cells scope.names []) ((X.mg "__name__").getD .none) c' ctv)) (a := h'.objs.size)
      (o := .frz (PySem.W.kla_obj "<lambda>" q params body scope (cloFrom X.env.cells scope.names []) ((X.mg "__name__").getD .none) c' ctv) (.own 0)) (fun b u e => Heap.get?_push_of_some _ e) (Nat.le_refl _) ⟨Heap.get?_push_size _ rfl, _, Heap.get?_push_size _ rfl⟩
    have ext2 : ∀ b o, G b = some o → upd G h'.objs.size (.frz (PySem.W.kla_obj "<lambda>" q params body scope (cloFrom X.env.cells scope.names []) ((X.mg "__name__").getD .none) c' ctv) (.own 0)) b = some o := fun b o e => by rw [upd_ne (ne_of_none e fG)]; exact e
    have cp : CodeP (upd G h'.objs.size (.frz (PySem.W.kla_obj "<lambda>" q params body scope (cloFrom X.env.cells scope.names []) ((X.mg "__name__").getD .none) c' ctv) (.own 0))) c' q := ⟨od, _, vs, t, ext2 _ _ gC, hd, hv⟩
    refine h h'.objs.size c' _ ctv _ _ I3 (fun b o hb e => ext2 _ _ (ext b o hb e)) ?_ cp nF upd_same
    have eL : (ps ++ #[rawInt pos.line, rawInt pos.col, .ref c']).toList = ps.toList ++ [rawInt pos.line, rawInt pos.col, .ref c'] := by simp
    refine ⟨_, ext2 _ _ gP, by rw [eL]; exact PySem.TriplesOk_snoc _ _ _ _ ht, fun p' cv hcv => ?_⟩
    rw [eL] at hcv
    rcases LamX.among_app _ ht hcv with z | z
    · obtain ⟨c0, e1, o0, u0, vs0, t0, r1, r2, r3⟩ := ha p' cv z
      refine ⟨c0, e1, o0, u0, vs0, t0, ext2 _ _ (ext _ _ (fun z => ?_) r1), r2, r3⟩
      rw [z, hP] at r1; cases r1
    · exact ⟨c', z, cp⟩
  | some cv =>
    obtain ⟨c', e, hco⟩ := ha pos cv hc
    subst e
    refine PySem.W.kla_makeFunctionHit (mg := X.mg) (c := c) (P := P) (ps := ps) (closure_ok hfree) I.ok.glob (I.mod.glob.keeps I.bk) hcode (TB.code.keeps I.bk) hP' ht hc bP fun ctv h' tk hx hsz => ?_
    have I1 : Inv X pins σ H { s with heap := h', toks := tk } := I.kept hx
    have nF : H h'.objs.size = none := I.hok.fresh hsz
    have I3 := I1.laid (t' := tk) (h' := h'.push (PySem.W.kla_obj "<lambda>" q params body scope (cloFrom X.env.cells scope.names []) ((X.mg "__name__").getD .none) c' ctv)) (a := h'.objs.size)
      (o := .frz (PySem.W.kla_obj "<lambda>" q params body scope (cloFrom X.env.cells scope.names []) ((X.mg "__name__").getD .none) c' ctv) (.own 0)) (fun b u e => Heap.get?_push_of_some _ e) (Nat.le_refl _) ⟨Heap.get?_push_size _ rfl, _, Heap.get?_push_size _ rfl⟩
    have ext2 : ∀ b o, H b = some o → upd H h'.objs.size (.frz (PySem.W.kla_obj "<lambda>" q params body scope (cloFrom X.env.cells scope.names []) ((X.mg "__name__").getD .none) c' ctv) (.own 0)) b = some o := fun b o e => by rw [upd_ne (ne_of_none e nF)]; exact e
    have up : ∀ {c : Addr}, CodeP H c q → CodeP (upd H h'.objs.size (.frz (PySem.W.kla_obj "<lambda>" q params body scope (cloFrom X.env.cells scope.names []) ((X.mg "__name__").getD .none) c' ctv) (.own 0))) c q := fun ⟨o0, u0, vs0, t0, r1, r2, r3⟩ => ⟨o0, u0, vs0, t0, ext2 _ _ r1, r2, r3⟩
    exact h h'.objs.size c' _ ctv _ _ I3 (fun b o _ e => ext2 b o e) ⟨ps, ext2 _ _ hP, ht, fun p' cv hcv => by
      obtain ⟨c0, e1, e2⟩ := ha p' cv hcv
      exact ⟨c0, e1, up e2⟩⟩ (up hco) nF upd_same
end
end Mir

set_option Elab.async false
set_option linter.all false
set_option maxRecDepth 100000
namespace Mir
open PySem PySem.Spec PyProof.Rows L2
/-! ### cells of the running frame, tracked for a while -/
open Classical in
noncomputable def addC (h : Heap) (H : Hp) (cl : List (Str × Addr)) : Hp := fun b => if ∃ y, cl.lookup y = some b then (h.get? b).map (fun o => .frz o (.own 0)) else H b
/-- the cells of cl stand in h and are not tracked -/
def CellsU (h : Heap) (H : Hp) (cl : List (Str × Addr)) : Prop := ∀ b, (∃ y, cl.lookup y = some b) → H b = none ∧ ∃ o v, h.get? b = some o ∧ o.data = .cell v
section
variable {K : PySem.W.Frag} {m m' : List Addr} {h : Heap} {H H' : Hp} {cl : List (Str × Addr)} {b : Addr}
theorem addC_out (q : ¬ ∃ y, cl.lookup y = some b) : addC h H cl b = H b := if_neg q
theorem addC_in (C : CellsU h H cl) (q : ∃ y, cl.lookup y = some b) : ∃ o v, addC h H cl b = some (.frz o (.own 0)) ∧ h.get? b = some o ∧ o.data = .cell v := by
  obtain ⟨_, o, v, h1, h2⟩ := C b q
  exact ⟨o, v, by unfold addC; rw [if_pos q, h1]; rfl, h1, h2⟩
theorem add_nc (C : CellsU h H cl) {o : HO} (e : H b = some o) : ¬ ∃ y, cl.lookup y = some b := fun q => by
  obtain ⟨z, _⟩ := C b q
  rw [e] at z; cases z
theorem add_ge (C : CellsU h H cl) : ∀ c o, H c = some o → addC h H cl c = some o := fun c o e => by rw [addC_out (add_nc C e)]; exact e
theorem cells_add (C : CellsU h H cl) : CellsOf (addC h H cl) cl := fun b q => by
  obtain ⟨o, v, h1, _, h2⟩ := addC_in C q
  exact ⟨o, v, h1, h2⟩
theorem hok_add {P : Program} {w : World} (C : CellsU h H cl) (ok : HOk P w H h) : HOk P w (addC h H cl) h := fun a o e => by
  by_cases q : ∃ y, cl.lookup y = some a
  · obtain ⟨o', v, h1, h2, _⟩ := addC_in C q
    rw [h1] at e
    cases e
    exact ⟨h2, o', h2⟩
  · rw [addC_out q] at e
    exact (ok a o e).stay (fun _ _ _ q => q) (fun b q => add_ge C b _ q) fun b xs q => add_ge C b _ q
/-- what the run with the cells tracked promises, told without them -/
theorem ce_off {P : Program} {w : World} {outer : List Env} {s s' : Shared} {Q Q' : VK} {u : Value} (C : CellsU s.heap H cl) (hc : CE outer P w (addC s.heap H cl) s Q' u s')
    (q : ∀ v H', CellsOf H' cl → (∀ b o, addC s.heap H cl b = some (.frz o (.own 0)) → H' b = some (.frz o (.own 0))) → Q' v H' → Q v (offC H' cl)) : CE outer P w H s Q u s' := by
  obtain ⟨v, H', os, bare, un, hok, r, q'⟩ := hc
  have fz : ∀ b o, addC s.heap H cl b = some (.frz o (.own 0)) → H' b = some (.frz o (.own 0)) := fun b o e => un.frzs b o _ e
  have C' : CellsOf H' cl := fun b hb => by
    obtain ⟨o, v, h1, h2, h3⟩ := addC_in C hb
    exact ⟨o, v, fz b o h1, h3⟩
  have cell : ∀ b, (∃ y, cl.lookup y = some b) → ∃ o, s.heap.get? b = some o ∧ s'.heap.get? b = some o := fun b hb => by
    obtain ⟨o, v, h1, h2, h3⟩ := addC_in C hb
    exact ⟨o, h2, (hok b _ (fz b o h1)).1⟩
  refine ⟨v, offC H' cl, os, bare, ?_, hok_off C' hok, r, q v H' C' fz q'⟩
  refine ⟨fun b o e n h1 h2 => ?_, fun b o e n h1 h2 => ?_, fun b o e n h2 => ?_, un.there, fun b xs e => ?_, fun b o u e => ?_, fun b ps e => ?_⟩
  · by_cases z : ∃ y, cl.lookup y = some b
    · obtain ⟨o', e1, e2⟩ := cell b z
      rw [e1] at e; cases e
      exact e2
    · exact un.keep b o e (by rw [addC_out z]; exact n) h1 h2
  · by_cases z : ∃ y, cl.lookup y = some b
    · obtain ⟨o', e1, e2⟩ := cell b z
      rw [e1] at e; cases e
      exact ⟨o.slots, e2⟩
    · exact un.slot b o e (by rw [addC_out z]; exact n) h1 h2
  · by_cases z : ∃ y, cl.lookup y = some b
    · exact offC_in z
    · exact offC_none (un.free b o e (by rw [addC_out z]; exact n) h2)
  · rw [offC_out (add_nc C e)]; exact un.tups b xs (add_ge C b _ e)
  · rw [offC_out (add_nc C e)]; exact un.frzs b o u (add_ge C b _ e)
  · rw [offC_out (add_nc C e)]; exact un.tbls b ps (add_ge C b _ e)
end
/-! ### a call that hands a lambda over -/
def capsOf (ρ : EnvM) : List Nat → Option (List W)
  | [] => some []
  | j :: r => match ρ[j]?, capsOf ρ r with
    | some (some w), some ws => some (w :: ws)
    | _, _ => none
theorem caps_of {K : PySem.W.Frag} {m : List Addr} {H : Hp} {ρ : EnvM} {σ : L2.St} (er : ER K m H ρ σ) : ∀ {js : List Nat} {ws : List W}, capsOf ρ js = some ws → ∃ cvs, RL K m H ws cvs ∧ js.map (NdefX.slotAt σ) = cvs.map some
  | [], ws, e => by rw [capsOf] at e; cases e; exact ⟨[], .nil, rfl⟩
  | j :: r, ws, e => by
    rw [capsOf] at e
    cases e1 : ρ[j]? with
    | none => rw [e1] at e; cases e
    | some y =>
      cases y with
      | none => rw [e1] at e; cases e
      | some w =>
        cases e2 : capsOf ρ r with
        | none => rw [e1, e2] at e; cases e
        | some ws' =>
          rw [e1, e2] at e
          cases e
          obtain ⟨v, hs, rv⟩ := er.get e1
          obtain ⟨cvs, h1, h2⟩ := caps_of er e2
          exact ⟨v :: cvs, .cons rv h1, by rw [List.map_cons, List.map_cons, h2, NdefX.slotAt_of hs]⟩
open Classical in
noncomputable def eLam2 (f1 f2 : FE) (t : Nat) (P : Addr) (A : LamA) (js : List Nat) (F : List W → Sto → Rz W) : FE := fun ρ s => bd (f1 ρ s) fun x s1 => bd (f2 ρ s1) fun y s2 => match s2[t]? with
  | some (.tab P' q) => if q = A.qual ∧ P' = P then match capsOf ρ js with
    | some caps => bd (F [x, y, .ref s2.length] (s2 ++ [.lam A caps])) fun w s3 => some (w, revive s2 (kill s3))
    | none => none
    else none
  | _ => none
theorem sr_revive {K : PySem.W.Frag} {m m' : List Addr} {H H' : Hp} {s s' : Sto} (S0 : SR K m H s) (A : Adv m H m' H') (S : SR K m' H' s') : SR K m' H' (revive s s') := by
  refine ⟨by rw [revive_len]; exact S.len, S.nd, fun n a o h1 h2 => ?_⟩
  rcases revive_get h2 with h3 | ⟨L, c, rfl, h3⟩
  · exact S.ok n a o h1 h3
  · obtain ⟨a', e1, e2⟩ := S0.at h3
    have := A.get e1
    rw [h1] at this
    cases this
    exact LamP.ext A.ext e2
section
variable {X : Cx}
theorem m_lam2 {k t : Nat} {g : Str} {ps : List Str} {F : List W → Sto → Rz W} {A : LamA} {js : List Nat} {f1 f2 : FE} {c P : Addr} {e1 e2 : Expr} {p lpos pos : Pos} (O : Own X.prog X.w X.K X.mg X.base k g ps F) (hr : Room k X.A) (hg : Gl X g) (TB : LamX.TabB X.base X.mg c P) (hcode : X.env.code = .ref c)
    (hA : X.env.qual ++ "<lambda>" = A.qual) (S : NdefX.NScope (A.ps ++ A.fr) A.ps A.fr A.scope) (hdef : defaultsOf A.params X.env = ([], [])) (hjs : js.map (fun j => X.N[j]?) = A.fr.map some)
    (hkind : ∀ y ∈ A.scope.names, y.2 = .free → X.env.scope.names.lookup y.1 = some .cell ∨ X.env.scope.names.lookup y.1 = some .free) (hfr : ∀ y ∈ A.fr, (y, NameKind.free) ∈ A.scope.names) (hfn : ∀ y, X.fn y = true)
    (h1 : PE X e1 (tF X.K f1)) (h2 : PE X e2 (tF X.K f2)) (hdb : (g == ("__debug__" : Str)) = false := by decide)
    (he : starEach [e1, e2, .Lambda A.params A.body A.scope lpos] X.env = (false, eval e1 X.env) :: starEach [e2, .Lambda A.params A.body A.scope lpos] X.env := by rfl)
    (he2 : starEach [e2, .Lambda A.params A.body A.scope lpos] X.env = [(false, eval e2 X.env), (false, eval (.Lambda A.params A.body A.scope lpos) X.env)] := by rfl)
    (hsp : ∀ l : List (Bool × Sem Value), backTo pos ((false, eval e1 X.env) :: l) = (false, eval e1 X.env) :: backTo pos l := by intro l; rfl) :
    PE X (.Call (.Name g p) [e1, e2, .Lambda A.params A.body A.scope lpos] [] pos) (tF X.K (eLam2 f1 f2 t P A js F)) := by
  refine ⟨fun pins s σ H Q I ⟨m, ρ, st, er, sr, w, st', e, q⟩ => ?_⟩
  obtain ⟨fg, fd, hF, hB, hk, hm⟩ := O.ex
  unfold eLam2 at e
  obtain ⟨x, st1, e1', e5⟩ := bd_inv e
  obtain ⟨y, st2, e2', e6⟩ := bd_inv e5
  cases et : st2[t]? with
  | none => simp only [et] at e6; cases e6
  | some ob =>
    cases ob with
    | tab P' q' =>
      simp only [et] at e6
      split at e6
      · rename_i hqP
        obtain ⟨rfl, rfl⟩ := hqP
        cases ec : capsOf ρ js with
        | none => simp only [ec] at e6; cases e6
        | some caps =>
          simp only [ec] at e6
          obtain ⟨w3, st3, e3, e7⟩ := bd_inv e6
          cases e7
          have hX := I.ok
          have hcells : ∀ y ∈ A.scope.names, y.2 = .free → ∃ c, X.env.cells.lookup y.1 = some c := fun y hy hf => (hkind y hy hf).elim (fun z => hX.has _ (.inl z)) fun z => hX.has _ (.inr z)
          have hC : NdefX.Caps X (cloFrom X.env.cells A.scope.names []) A.fr js := NdefX.Caps.made hX hkind hfr hjs
          refine wpAny_Call_Name_kw (ld_glob I hg hm ?_ hdb)
          refine PySem.W.callWith_K (h₀ := X.base) I.ok.mod.kin hk ?_ he (by rw [he2]; rfl)
          rw [he, hsp, he2]
          refine Calls.spliced_cons (thn (h1.run pins s σ H (fun v H1 => ∃ m1, Adv m H m1 H1 ∧ SR X.K m1 H1 st1 ∧ R X.K m1 H1 x v) I ⟨m, ρ, st, er, sr, x, st1, e1', fun m1 H1 v A1 S1 r1 => ⟨m1, A1, S1, r1⟩⟩) fun u1 s1 ⟨v1, H1, I1, ru1, m1, A1, S1, rv1⟩ => ?_)
          refine Calls.spliced_cons (thn (h2.run pins s1 σ H1 (fun v H2 => ∃ m2, Adv m1 H1 m2 H2 ∧ SR X.K m2 H2 st2 ∧ R X.K m2 H2 y v) I1 ⟨m1, ρ, st1, er.adv A1, S1, y, st2, e2', fun m2 H2 v A2 S2 r2 => ⟨m2, A2, S2, r2⟩⟩) fun u2 s2 ⟨v2, H2, I2, ru2, m2, A2, S2, rv2⟩ => ?_)
          obtain ⟨aP, mP, rfl, hT⟩ := S2.at et
          obtain ⟨cvs, rcv, hcv⟩ := caps_of (er.adv (A1.trans A2)) ec
          refine Calls.spliced_cons (lam_made (q := A.qual) I2 TB hcode hT hA hdef hcells fun f c' pm ctv H3 s3 I3 hx3 hT3 hc3 hf2 hf3 => ?_)
          refine Calls.spliced_nil ⟨I3.kIn, ?_⟩
          have hfP : f ∉ m2 := fun z => by
            obtain ⟨u, hu, _⟩ := S2.there z
            rw [hf2] at hu; cases hu
          have A3 : Adv m2 H2 (m2 ++ [f]) H3 := by
            refine ⟨⟨[f], rfl⟩, fun a o e n => hx3 a o (fun z => n (by rw [z]; exact List.mem_of_getElem? mP)) e, fun a h => ?_, fun a xs e => hx3 a _ (fun z => ?_) e, fun a o u e => hx3 a _ (fun z => ?_) e⟩
            · rcases List.mem_append.mp h with h | h
              · exact .inl h
              · rw [List.mem_singleton.mp h]; exact .inr hf2
            · obtain ⟨ps, z1, _⟩ := hT
              rw [z, z1] at e; cases e
            · obtain ⟨ps, z1, _⟩ := hT
              rw [z, z1] at e; cases e
          have CA := NdefX.cells_of I3 hC
          rw [hcv] at CA
          have CU : CellsU s3.heap H3 (cloFrom X.env.cells A.scope.names []) := fun b ⟨y, hy⟩ => by
            obtain ⟨z1, v, o, z2, z3⟩ := CA.all y b hy
            exact ⟨z1, o, v, z2, z3⟩
          have ge : ∀ c o, H3 c = some o → addC s3.heap H3 (cloFrom X.env.cells A.scope.names []) c = some o := add_ge CU
          have A4 : Adv (m2 ++ [f]) H3 (m2 ++ [f]) (addC s3.heap H3 (cloFrom X.env.cells A.scope.names [])) := Adv.grow ge
          have dom : ∀ y k, (cloFrom X.env.cells A.scope.names []).lookup y = some k → y ∈ A.fr := fun y k e => by
            rcases cloFrom_mem (PySem.mem_of_lookup e) with z | ⟨z, _⟩
            · cases z
            · exact S.free _ z rfl
          have CO : ClO (addC s3.heap H3 (cloFrom X.env.cells A.scope.names [])) (cloFrom X.env.cells A.scope.names []) A.fr cvs := by
            refine ⟨by have := CA.len; rw [List.length_map] at this; exact this, dom, CA.inj, fun i y e => ?_⟩
            obtain ⟨k, z1, z2⟩ := CA.has i y e
            have hl : i < cvs.length := by
              have := CA.len
              rw [List.length_map] at this
              rw [this]
              exact (List.getElem?_eq_some_iff.mp e).1
            obtain ⟨u, r1, o, r2, r3⟩ := z2 cvs[i] (by rw [List.getElem?_map, List.getElem?_eq_getElem hl]; rfl)
            obtain ⟨o', v', y1, y2, y3⟩ := addC_in CU ⟨y, z1⟩
            rw [r2] at y2; cases y2
            exact ⟨k, o, u, cvs[i], List.getElem?_eq_getElem hl, z1, y1, r3, r1⟩
          have C2 := CO.cells
          have S3 : SR X.K m2 H3 st2 := by
            refine ⟨S2.len, S2.nd, fun n a o h1 h2 => ?_⟩
            have ho := S2.ok n a o h1 h2
            by_cases hn : a = aP
            · have hnt : n = t := by
                obtain ⟨l1, z1⟩ := List.getElem?_eq_some_iff.mp h1
                obtain ⟨l2, z2⟩ := List.getElem?_eq_some_iff.mp mP
                exact (List.getElem_inj S2.nd).mp (by rw [z1, z2, hn])
              subst hnt
              rw [et] at h2
              cases h2
              subst hn
              exact ⟨rfl, hT3⟩
            · refine ho.ext ⟨⟨[], by simp⟩, A3.tup, A3.frz⟩ ?_
              obtain ⟨u, hu, _⟩ := S2.there (List.mem_of_getElem? h1)
              rw [hu, hx3 a u hn hu]
          have SA : SR X.K (m2 ++ [f]) (addC s3.heap H3 (cloFrom X.env.cells A.scope.names [])) (st2 ++ [.lam A caps]) := by
            refine (S3.grow ge).join hfP ?_
            obtain ⟨oc, u, vs, tk, z1, z2, z3⟩ := hc3
            exact ⟨_, c', pm, ctv, cvs, ge _ _ hf3, ⟨oc, u, vs, tk, ge _ _ z1, z2, z3⟩, CO, (rcv.adv (Adv.trans (H1 := H2) (m1 := m2) (Adv.refl _ _) ⟨⟨[], by simp⟩, fun a o e n => ge _ _ (hx3 a o (fun z => n (by rw [z]; exact List.mem_of_getElem? mP)) e), fun a h => .inl h, fun a xs e => ge _ _ (A3.tup a xs e), fun a o u e => ge _ _ (A3.frz a o u e)⟩))⟩
          have e0 := I3.env0
          have cge : ∀ b, (∃ y, (cloFrom X.env.cells A.scope.names []).lookup y = some b) → X.s_0.heap.objs.size ≤ b ∧ b ≠ X.env.locals := fun b ⟨y, hy⟩ => ⟨I3.ok.cab y b (hfn y) (hC.sub y b hy), I3.cne y b (hC.sub y b hy)⟩
          have e0' : Env0 X.prog X.w X.K X.mg X.base X.A X.stack s3 (addC s3.heap H3 (cloFrom X.env.cells A.scope.names [])) := by
            refine ⟨e0.frames, e0.mod, fun b o e => ⟨(e0.bs b o e).1, ?_⟩, e0.bsz, e0.funs, fun b hb => ?_, hok_add CU e0.hok, e0.bare⟩
            · rw [addC_out fun q => ?_]
              · exact (e0.bs b o e).2
              · exact absurd (Heap.lt_size (I3.ok.bs b o e).1) (Nat.not_lt.mpr (cge b q).1)
            · rw [addC_out fun q => ?_]
              · exact e0.frf b hb
              · obtain ⟨z1, z2⟩ := cge b q
                have out : b ∈ X.outer.filterMap (·.frame) → False := fun hb => by
                  obtain ⟨_, o, ho, _⟩ := I3.ok.funs.mem hb
                  exact absurd (Heap.lt_size ho) (Nat.not_lt.mpr z1)
                rcases I3.ok.stk with z | ⟨z, z'⟩
                · rw [z] at hb; exact out hb
                · rw [z] at hb
                  rcases List.mem_filterMap.mp hb with ⟨x, hx, e⟩
                  rcases List.mem_cons.mp hx with rfl | hx
                  · rw [z'] at e; cases e; exact z2 rfl
                  · exact out (List.mem_filterMap.mpr ⟨x, hx, e⟩)
          have Ad : Adv m2 H2 (m2 ++ [f]) (addC s3.heap H3 (cloFrom X.env.cells A.scope.names [])) := A3.trans A4
          have hl3 : (x :: y :: [W.ref st2.length]).length = ps.length := O.ln _ _ _ e3
          refine wpAny_call (codeAny_mono (hF.run X.A X.stack s3 _ ⟨[u1, u2, .ref f], []⟩ ([u1, u2, .ref f] ++ []) [v1, v2, .ref f] (fun v H' => ∃ m', Adv (m2 ++ [f]) (addC s3.heap H3 (cloFrom X.env.cells A.scope.names [])) m' H' ∧ SR X.K m' H' st3 ∧ R X.K m' H' w v) E0 hr e0' (hB s3 [u1, u2, .ref f] I3.kIn (by simpa using hl3)) (by rw [List.append_nil]; exact .cons ru1 (.cons ru2 (.cons rfl .nil)))
            ⟨by simpa using hl3, m2 ++ [f], _, _, .cons (rv1.adv (A2.trans Ad)) (.cons (rv2.adv Ad) (.cons (alloc_at S2) .nil)), SA, w, st3, e3, fun m' H' v A' S' r' => ⟨m', A', S', r'⟩⟩) fun r s' hq => ?_)
          cases r with
          | error e => exact hq.elim
          | ok fl =>
            cases fl with
            | next => exact False.elim hq
            | brk => exact False.elim hq
            | cont => exact False.elim hq
            | ret u =>
              refine I3.after (ce_off CU hq fun v H' C' fz ⟨m', A', S', r'⟩ => ?_)
              have Af : Adv m2 H2 m' (offC H' (cloFrom X.env.cells A.scope.names [])) := by
                have Ae := Ad.trans A'
                have oc : ∀ b o, H2 b = some o → ¬ ∃ y, (cloFrom X.env.cells A.scope.names []).lookup y = some b := fun b o e hb => by
                  by_cases z : b = aP
                  · obtain ⟨ps, z1, _⟩ := hT3
                    rw [z] at hb
                    rw [(CU aP hb).1] at z1; cases z1
                  · have := hx3 b o z e
                    rw [(CU b hb).1] at this; cases this
                refine ⟨Ae.pre, fun a o e n => by rw [offC_out (oc a o e)]; exact Ae.same a o e n, fun a h => ?_, fun a xs e => by rw [offC_out (oc a _ e)]; exact Ae.tup a xs e, fun a o u e => by rw [offC_out (oc a _ e)]; exact Ae.frz a o u e⟩
                exact Ae.new a h
              exact q m' _ v ((A1.trans A2).trans Af) (sr_revive S2 Af (sr_off S' C')) (r'.extW (off_ext C'))
      · cases e6
    | lst _ => simp only [et] at e6; cases e6
    | dct _ => simp only [et] at e6; cases e6
    | lam _ _ => simp only [et] at e6; cases e6
    | dead => simp only [et] at e6; cases e6
end
end Mir

set_option Elab.async false
set_option linter.all false
set_option maxRecDepth 100000
namespace Mir
open PySem PySem.Spec PyProof.Rows L2
/-! ### a def that makes lambdas, and the law's end with its table -/
structure FunC (K : PySem.W.Frag) (x : Str) (st : Stmt) (f : Addr) (fd : FuncData) (c : Addr) : Prop where
  ex : ∃ (oc : Value) (od : Option Addr) (kV doc pm : Value) (an : Option Addr) (ct : Value) (osl : Array (Option Value)),
    fd = PySem.W.fnOf x x (defArgs st) (defBody st) (defScope st) .none kV doc pm an (.ref c) ct ∧ K.lookup f = some ⟨oc, od, .func fd, osl⟩ ∧ PySem.W.codeIn K (.ref c) x = true
  kp : PySem.W.keepIn K (.ref f) = true
theorem FunC.to {K : PySem.W.Frag} {x : Str} {st : Stmt} {f c : Addr} {fd : FuncData} (F : FunC K x st f fd c) : Fun K x x st f fd := by
  obtain ⟨oc, od, kV, doc, pm, an, ct, osl, h1, h2, h3⟩ := F.ex
  exact ⟨⟨oc, od, kV, doc, pm, an, .ref c, ct, osl, h1, h2, h3⟩, F.kp⟩
theorem fnm_ofC {P : Program} {w : World} {K : PySem.W.Frag} {mg : Str → Option Value} {base : Heap} {x : Str} {st : Stmt} {f c : Addr} {fd : FuncData} {N ps : List Str} {k : Nat} {body : FS} (F : FunC K x st f fd c) (S : FnScope N ps (defScope st))
    (h : ∀ (A : Around) (outer : List Env) (s : Shared) (H : Hp) (E : XK), Room k (A.deeper (envOfC x (defScope st) s.heap.objs.size f (.ref c))) → PSs (cxOf CX0 P w K mg base N x (defScope st) f (.ref c) A outer s H E).nox (defBody st) (tS K body)) :
    FnOk P w K mg base CX0 (k + 1) f fd ps (spF K ps.length (mkF ps.length N.length body)) := by
  obtain ⟨oc, od, kV, doc, pm, an, ct, osl, rfl, lk, hcd⟩ := F.ex
  refine fn_of lk hcd S (fun vs H Q E h => h.1) fun A outer s H vs Q E hr hq => ⟨_, (h A outer s H E hr).nox, ?_⟩
  obtain ⟨hl, m, st, ws, r, sr, w, s', e, q⟩ := hq
  unfold mkF at e
  rw [if_pos (by rw [← r.len]; exact hl)] at e
  obtain ⟨o, s1, e1, e⟩ := bd_inv e
  refine ⟨m, _, st, ?_, sr, o, s1, e1, ?_⟩
  · unfold L2.start
    rw [r.len]
    exact r.env.app (ER.nones _)
  · cases o with
    | nx ρ1 => cases e; exact fun m' H' σ' A S _ => q m' H' _ A S .non
    | rt w => cases e; exact q
    | bk ρ1 => cases e
    | ct ρ1 => cases e
theorem own_ofC {P : Program} {w : World} {K : PySem.W.Frag} {mg : Str → Option Value} {base : Heap} {x : Str} {st : Stmt} {f c : Addr} {fd : FuncData} {N ps : List Str} {k : Nat} {body : FS} (F : FunC K x st f fd c) (S : FnScope N ps (defScope st)) (hb : Binds K fd ps []) (hm : mg x = some (.ref f))
    (h : ∀ (A : Around) (outer : List Env) (s : Shared) (H : Hp) (E : XK), Room k (A.deeper (envOfC x (defScope st) s.heap.objs.size f (.ref c))) → PSs (cxOf CX0 P w K mg base N x (defScope st) f (.ref c) A outer s H E).nox (defBody st) (tS K body)) :
    Own P w K mg base (k + 1) x ps (mkF ps.length N.length body) := by
  refine ⟨⟨f, fd, fnm_ofC F S h, hb, F.kp, hm⟩, fun ws s r e => ?_⟩
  unfold mkF at e
  split at e
  · assumption
  · cases e
/-! ### the script may be a list that is tracked: it is locked -/
def spL (K : PySem.W.Frag) (F : List W → Sto → Rz W) : Sp := fun vs H Q E => vs.length = 1 ∧ (spF K 1 F vs H Q E ∨ ∃ a xs, vs = [.ref a] ∧ H a = some (.lst xs) ∧ ∀ o, spF K 1 F vs (upd H a (.frz o (.lst xs))) Q E)
theorem fn_lock {P : Program} {w : World} {K : PySem.W.Frag} {mg : Str → Option Value} {base : Heap} {k : Nat} {f : Addr} {fd : FuncData} {x : Str} {F : List W → Sto → Rz W} (h : FnOk P w K mg base CX0 k f fd [x] (spF K 1 F)) : FnOk P w K mg base CX0 k f fd [x] (spL K F) := by
  refine ⟨fun vs H Q E q => q.1, fun A outer s H args us vs Q E hr e0 hb hv hs => ?_⟩
  obtain ⟨hl, q | ⟨a, xs, rfl, ha, q⟩⟩ := hs
  · exact h.run A outer s H args us vs Q E hr e0 hb hv q
  · obtain ⟨z, us', n, r, hget⟩ := e0.hok a _ ha
    let o : Obj := { cls := .type "list", data := .seq us'.toArray n }
    have ne : ∀ b u, H b = some u → (∀ ys, u ≠ .lst ys) → upd H a (.frz o (.lst xs)) b = some u := fun b u e hn => by
      rw [upd_ne fun z => ?_]
      · exact e
      · rw [z, ha] at e; cases e; exact hn _ rfl
    have hok' : HOk P w (upd H a (.frz o (.lst xs))) s.heap := fun b u e => by
      by_cases hba : b = a
      · subst hba
        rw [upd_same] at e
        cases e
        exact ⟨hget, z, us', n, r, hget⟩
      · rw [upd_ne hba] at e
        exact (e0.hok b u e).stay (fun _ _ _ q => q) (fun c q => ne _ _ q (fun _ z => by cases z)) fun c ys q => ne _ _ q (fun _ z => by cases z)
    have nn : ∀ b, H b = none → upd H a (.frz o (.lst xs)) b = none := fun b e => by
      rw [upd_ne fun z => by rw [z, ha] at e; cases e]; exact e
    have e1 : Env0 P w K mg base A outer s (upd H a (.frz o (.lst xs))) := ⟨e0.frames, e0.mod, fun b u e => ⟨(e0.bs b u e).1, nn b (e0.bs b u e).2⟩, e0.bsz, e0.funs, fun b hb => nn b (e0.frf b hb), hok', e0.bare⟩
    refine codeAny_mono (h.run A outer s _ args us _ Q E hr e1 hb hv (q o)) fun r s' hq => ?_
    cases r with
    | error e => exact hq
    | ok fl =>
      cases fl with
      | next => exact hq
      | brk => exact hq
      | cont => exact hq
      | ret u =>
        obtain ⟨v, H', os, bare, un, hok2, rv, q2⟩ := hq
        exact ⟨v, H', os, bare, ⟨fun b o e n => un.keep b o e (nn b n), fun b o e n => un.slot b o e (nn b n), fun b o e n => un.free b o e (nn b n), un.there, fun b ys e => un.tups b ys (ne _ _ e (fun _ z => by cases z)), fun b o u e => un.frzs b o u (ne _ _ e (fun _ z => by cases z)), fun b ps e => un.tbls b ps (ne _ _ e (fun _ z => by cases z))⟩, hok2, rv, q2⟩
theorem sr_tab {K : PySem.W.Frag} {H : Hp} {P : Addr} {q : Str} (h : H P = some (.tbl #[])) : SR K [P] H [.tab P q] := by
  refine ⟨rfl, by simp, fun n a o h1 h2 => ?_⟩
  cases n with
  | zero =>
    cases h1; cases h2
    exact ⟨rfl, #[], h, trivial, fun pos cv e => by cases e⟩
  | succ n => cases h1
theorem law_spL {K : PySem.W.Frag} {F : List W → Sto → Rz W} {H : Hp} {a P : Addr} {q : Str} {ns : List Int} (hP : H P = some (.tbl #[])) (hS : SqL K H a (ns.map V.int)) (h : ∃ s, F [.lro (ns.map W.int)] [.tab P q] = some (.bl true, s)) : spL K F [.ref a] H (fun v _ => v = .bl true) (fun _ _ _ => False) := by
  obtain ⟨s, e⟩ := h
  refine ⟨rfl, ?_⟩
  rcases hS with (h | h) | h
  · refine .inr ⟨a, _, rfl, h, fun o => ⟨rfl, [P], _, _, .cons (.lro (.inl ⟨o, upd_same⟩) (ints_rl ns)) .nil, sr_tab (q := q) ?_, .bl true, s, e, fun m' H' v _ _ r => by cases r; rfl⟩⟩
    rw [upd_ne fun z => by rw [z, h] at hP; cases hP]
    exact hP
  · exact .inl ⟨rfl, [P], _, _, .cons (.lro (.inl h) (ints_rl ns)) .nil, sr_tab (q := q) hP, .bl true, s, e, fun m' H' v _ _ r => by cases r; rfl⟩
  · exact .inl ⟨rfl, [P], _, _, .cons (.lro (.inr h) (ints_rl ns)) .nil, sr_tab (q := q) hP, .bl true, s, e, fun m' H' v _ _ r => by cases r; rfl⟩
theorem law_at {l : PySem.W.OpenLaw} {w : World} {K : PySem.W.Frag} {k : Nat} {mg : Str → Option Value} {fa c P : Addr} {h : Heap} {q : Str} {F : Addr → List W → Sto → Rz W} (hT : h.get? P = some (PySem.W.tabObj #[])) (nT : K.lookup P = none) (X : K.In h) (C : PySem.W.codeHdIn K c P = true)
    (hF : ∃ fd : FuncData, (∀ (s : Shared) (v : Value), BindsTo s fd ⟨[v], []⟩ [("script", v)]) ∧ ∀ base : Heap, K.In base → base.Ns mainGlobals mg → LamX.TabB base mg c P → FnOk l.prog w K mg base CX0 k fa fd ["script"] (spF K 1 (F P)))
    (hp : ∀ (P : Addr) (ns : List Int), ns.length ≤ 63 → ∃ s, F P [.lro (ns.map W.int)] [.tab P q] = some (.bl true, s)) : LamX.LawAtS l w K CX0 k 63 "script" mg fa h := by
  obtain ⟨fd, hb, hF⟩ := hF
  have one : ∀ {p : Addr × Addr}, p ∈ [(c, P)] → p = (c, P) := fun h => List.mem_singleton.mp h
  refine ⟨fd, [(c, P)], spL K (F P), fun p hp => by rw [one hp]; exact hT, fun p hp => by rw [one hp]; exact nT, fun p hp => by rw [one hp]; exact PySem.W.codeHd_of_K X C, hb, fun H a ns hl _ hH hS => ?_, fun base hK hN hTB => fn_lock (hF base hK hN (hTB (c, P) (by simp)))⟩
  exact law_spL (hH (c, P) (by simp)) hS (hp P ns hl)
/-! ### the parts of a lambda in the text -/
def isLam : Expr → Bool
  | .Lambda _ _ _ _ => true
  | _ => false
def lamArgs : Expr → Arguments
  | .Lambda a _ _ _ => a
  | _ => default
def lamBody : Expr → Expr
  | .Lambda _ b _ _ => b
  | e => e
def lamScope : Expr → Scope
  | .Lambda _ _ s _ => s
  | _ => default
/-- the i-th argument of the call that the only statement returns -/
def retArg (b : List Stmt) (i : Nat) : Expr := match b with
  | .Return (some (.Call _ as _ _)) _ :: _ => as.getD i (.Tuple [] 0 ⟨0, 0, 0, 0⟩)
  | _ => .Tuple [] 0 ⟨0, 0, 0, 0⟩
end Mir

set_option Elab.async false
set_option linter.all false
set_option maxRecDepth 100000
namespace Mir
open PySem PySem.Spec PyProof.Rows L2
/-! ### lambdas under Wp -/
theorem kill_get (s : Sto) (j : Nat) : (kill s)[j]? = (s[j]?).map kill1 := by rw [kill, List.getElem?_map]
theorem kill_len (s : Sto) : (kill s).length = s.length := by rw [kill, List.length_map]
theorem kill_lst {s : Sto} {j : Nat} {ws : List W} (h : s[j]? = some (.lst ws)) : (kill s)[j]? = some (.lst ws) := by rw [kill_get, h]; rfl
theorem kill_tab {s : Sto} {j : Nat} {P : Addr} {q : Str} (h : s[j]? = some (.tab P q)) : (kill s)[j]? = some (.tab P q) := by rw [kill_get, h]; rfl
theorem revive_nil (s : Sto) : revive [] s = s := by cases s <;> rfl
theorem revive_at : ∀ {s s' : Sto} {j : Nat} {o : O}, s'[j]? = some o → (∀ A c, o = .dead → s[j]? ≠ some (.lam A c)) → (revive s s')[j]? = some o
  | [], s', j, o, h, _ => by rw [revive_nil]; exact h
  | x :: r, [], j, o, h, _ => by simp at h
  | x :: r, y :: r', 0, o, h, n => by
    simp at h
    subst h
    cases x <;> cases y <;> simp [revive] <;> exact n _ _ rfl rfl
  | x :: r, y :: r', j + 1, o, h, n => by
    have := revive_at (s := r) (s' := r') (j := j) (o := o) (by simpa using h) (fun A c e => by simpa using n A c e)
    cases x <;> cases y <;> simpa [revive] using this
theorem revive_lam : ∀ {s s' : Sto} {j : Nat} {A : LamA} {c : List W}, s[j]? = some (.lam A c) → s'[j]? = some .dead → (revive s s')[j]? = some (.lam A c)
  | [], s', j, A, c, h, _ => by simp at h
  | x :: r, [], j, A, c, _, h => by simp at h
  | x :: r, y :: r', 0, A, c, h, h' => by
    simp at h h'
    subst h; subst h'
    simp [revive]
  | x :: r, y :: r', j + 1, A, c, h, h' => by
    have := revive_lam (s := r) (s' := r') (j := j) (A := A) (c := c) (by simpa using h) (by simpa using h')
    cases x <;> cases y <;> simpa [revive] using this
theorem rev_keep {s s2 : Sto} {i : Nat} {o : O} (h : s[i]? = some o) (h' : s2[i]? = some (kill1 o)) : (revive s s2)[i]? = some o := by
  cases o with
  | lam A c => exact revive_lam h h'
  | dead => exact revive_at h' fun A c _ e => by rw [h] at e; cases e
  | lst _ => exact revive_at h' fun A c e => by cases e
  | dct _ => exact revive_at h' fun A c e => by cases e
  | tab _ _ => exact revive_at h' fun A c e => by cases e
theorem rev_lst {s s2 : Sto} {i : Nat} {ws : List W} (h : s2[i]? = some (.lst ws)) : (revive s s2)[i]? = some (.lst ws) := revive_at h fun A c e => by cases e
theorem fr_call {L : List Nat} {s s2 : Sto} (f : Mir.Fr L (kill s) s2) : Mir.Fr L s (revive s s2) := by
  refine ⟨by rw [revive_len]; have := f.len; rw [kill_len] at this; exact this, fun i o hi e => rev_keep e (f.at_ i _ hi (by rw [kill_get, e]; rfl))⟩
theorem fr_lam {L : List Nat} {s s3 : Sto} {A : LamA} {c : List W} (f : Mir.Fr L (s ++ [.lam A c]) s3) : Mir.Fr L s (revive s (kill s3)) := by
  refine ⟨by rw [revive_len, kill_len]; have := f.len; simp at this; omega, fun i o hi e => rev_keep e ?_⟩
  rw [kill_get, f.at_ i o hi (gapp e)]
  rfl
theorem wp_act {i n : Nat} {A : LamA} {G : List W → Sto → Rz W} {fa : FA} {ρ : EnvM} {s : Sto} {caps ws : List W} {R : W → Sto → Prop} (h1 : ρ[i]? = some (some (.ref n))) (h2 : s[n]? = some (.lam A caps)) (h3 : fa ρ s = some (ws, s)) (h4 : ws.length = A.ps.length)
    (h : Wp (G (ws ++ caps) (kill s)) fun w s2 => R w (revive s s2)) : Wp (eAct i A G fa ρ s) R := by
  obtain ⟨w, s2, e, q⟩ := h
  refine ⟨w, revive s s2, ?_, q⟩
  unfold eAct
  simp only [h1, h2, h3, bd_some]
  rw [if_pos (by first | exact ⟨rfl, h4⟩ | exact ⟨trivial, h4⟩ | exact h4), e]
  rfl
theorem wp_lam2 {t : Nat} {A : LamA} {F : List W → Sto → Rz W} {f1 f2 : FE} {js : List Nat} {P : Addr} {ρ : EnvM} {s : Sto} {caps : List W} {x y : W} {R : W → Sto → Prop} (h1 : f1 ρ s = some (x, s)) (h2 : f2 ρ s = some (y, s)) (ht : s[t]? = some (.tab P A.qual)) (hc : capsOf ρ js = some caps)
    (h : Wp (F [x, y, .ref s.length] (s ++ [.lam A caps])) fun w s3 => R w (revive s (kill s3))) : Wp (eLam2 f1 f2 t P A js F ρ s) R := by
  obtain ⟨w, s3, e, q⟩ := h
  refine ⟨w, revive s (kill s3), ?_, q⟩
  unfold eLam2
  simp only [h1, h2, bd_some, ht, hc]
  rw [if_pos (by first | exact ⟨rfl, rfl⟩ | trivial), e]
  rfl
theorem wp_mkL {n : Nat} {f : FE} {ws : List W} {s : Sto} {R : W → Sto → Prop} (hl : ws.length = n) (h : Wp (f (ws.map some) s) R) : Wp (mkL n f ws s) R := by
  unfold mkL
  rw [if_pos hl]
  exact h
end Mir

set_option Elab.async false
set_option linter.all false
set_option maxRecDepth 100000
namespace Mir
open PySem PySem.Spec PyProof.Rows L2
/-! ### two lambdas in one call (the first one captures nothing) -/
theorem adv_tab {m : List Addr} {H H' : Hp} {P f : Addr} {q : Str} (hx : ∀ b o, b ≠ P → H b = some o → H' b = some o) (hT : TabP H P q) (hm : P ∈ m) (hf : H f = none) : Adv m H (m ++ [f]) H' := by
  refine ⟨⟨[f], rfl⟩, fun a o e n => hx a o (fun z => n (by rw [z]; exact hm)) e, fun a h => ?_, fun a xs e => hx a _ (fun z => ?_) e, fun a o u e => hx a _ (fun z => ?_) e⟩
  · rcases List.mem_append.mp h with h | h
    · exact .inl h
    · rw [List.mem_singleton.mp h]; exact .inr hf
  · obtain ⟨ps, z1, _⟩ := hT
    rw [z, z1] at e; cases e
  · obtain ⟨ps, z1, _⟩ := hT
    rw [z, z1] at e; cases e
theorem sr_tab_step {K : PySem.W.Frag} {m : List Addr} {H H' : Hp} {st : Sto} {P : Addr} {q : Str} {t : Nat} (S : SR K m H st) (mP : m[t]? = some P) (et : st[t]? = some (.tab P q)) (hx : ∀ b o, b ≠ P → H b = some o → H' b = some o) (hT : TabP H' P q)
    (h1 : ∃ u, m = m ++ u) (h2 : ∀ a xs, H a = some (.tup xs) → H' a = some (.tup xs)) (h3 : ∀ a o u, H a = some (.frz o u) → H' a = some (.frz o u)) : SR K m H' st := by
  refine ⟨S.len, S.nd, fun n a o e1 e2 => ?_⟩
  have ho := S.ok n a o e1 e2
  by_cases hn : a = P
  · have hnt : n = t := by
      obtain ⟨l1, z1⟩ := List.getElem?_eq_some_iff.mp e1
      obtain ⟨l2, z2⟩ := List.getElem?_eq_some_iff.mp mP
      exact (List.getElem_inj S.nd).mp (by rw [z1, z2, hn])
    subst hnt
    rw [et] at e2
    cases e2
    subst hn
    exact ⟨rfl, hT⟩
  · refine ho.ext ⟨h1, h2, h3⟩ ?_
    obtain ⟨u, hu, _⟩ := S.there (List.mem_of_getElem? e1)
    rw [hu, hx a u hn hu]
open Classical in
noncomputable def eLam22 (f1 f2 : FE) (t : Nat) (P : Addr) (B A : LamA) (js : List Nat) (F : List W → Sto → Rz W) : FE := fun ρ s => bd (f1 ρ s) fun x s1 => bd (f2 ρ s1) fun y s2 => match s2[t]? with
  | some (.tab P' q) => if q = A.qual ∧ P' = P then match capsOf ρ js with
    | some caps => bd (F [x, y, .ref s2.length, .ref (s2 ++ [Mir.O.lam B []]).length] (s2 ++ [.lam B []] ++ [.lam A caps])) fun w s3 => some (w, revive s2 (kill s3))
    | none => none
    else none
  | _ => none
section
variable {X : Cx}
theorem m_lam22 {k t : Nat} {g : Str} {ps : List Str} {F : List W → Sto → Rz W} {B A : LamA} {js : List Nat} {f1 f2 : FE} {c P : Addr} {e1 e2 : Expr} {p lpos0 lpos pos : Pos} (O : Own X.prog X.w X.K X.mg X.base k g ps F) (hr : Room k X.A) (hg : Gl X g) (TB : LamX.TabB X.base X.mg c P) (hcode : X.env.code = .ref c)
    (hA : X.env.qual ++ "<lambda>" = A.qual) (hB0 : X.env.qual ++ "<lambda>" = B.qual) (hBf : B.fr = []) (S0 : NdefX.NScope (B.ps ++ B.fr) B.ps B.fr B.scope) (hdef0 : defaultsOf B.params X.env = ([], [])) (S : NdefX.NScope (A.ps ++ A.fr) A.ps A.fr A.scope) (hdef : defaultsOf A.params X.env = ([], [])) (hjs : js.map (fun j => X.N[j]?) = A.fr.map some)
    (hkind : ∀ y ∈ A.scope.names, y.2 = .free → X.env.scope.names.lookup y.1 = some .cell ∨ X.env.scope.names.lookup y.1 = some .free) (hfr : ∀ y ∈ A.fr, (y, NameKind.free) ∈ A.scope.names) (hfn : ∀ y, X.fn y = true)
    (h1 : PE X e1 (tF X.K f1)) (h2 : PE X e2 (tF X.K f2)) (hdb : (g == ("__debug__" : Str)) = false := by decide)
    (he : starEach [e1, e2, .Lambda B.params B.body B.scope lpos0, .Lambda A.params A.body A.scope lpos] X.env = (false, eval e1 X.env) :: starEach [e2, .Lambda B.params B.body B.scope lpos0, .Lambda A.params A.body A.scope lpos] X.env := by rfl)
    (he2 : starEach [e2, .Lambda B.params B.body B.scope lpos0, .Lambda A.params A.body A.scope lpos] X.env = [(false, eval e2 X.env), (false, eval (.Lambda B.params B.body B.scope lpos0) X.env), (false, eval (.Lambda A.params A.body A.scope lpos) X.env)] := by rfl)
    (hsp : ∀ l : List (Bool × Sem Value), backTo pos ((false, eval e1 X.env) :: l) = (false, eval e1 X.env) :: backTo pos l := by intro l; rfl) :
    PE X (.Call (.Name g p) [e1, e2, .Lambda B.params B.body B.scope lpos0, .Lambda A.params A.body A.scope lpos] [] pos) (tF X.K (eLam22 f1 f2 t P B A js F)) := by
  refine ⟨fun pins s σ H Q I ⟨m, ρ, st, er, sr, w, st', e, q⟩ => ?_⟩
  obtain ⟨fg, fd, hF, hB, hk, hm⟩ := O.ex
  unfold eLam22 at e
  obtain ⟨x, st1, e1', e5⟩ := bd_inv e
  obtain ⟨y, st2, e2', e6⟩ := bd_inv e5
  cases et : st2[t]? with
  | none => simp only [et] at e6; cases e6
  | some ob =>
    cases ob with
    | tab P' q' =>
      simp only [et] at e6
      split at e6
      · rename_i hqP
        obtain ⟨rfl, rfl⟩ := hqP
        cases ec : capsOf ρ js with
        | none => simp only [ec] at e6; cases e6
        | some caps =>
          simp only [ec] at e6
          obtain ⟨w3, st3, e3, e7⟩ := bd_inv e6
          cases e7
          have hX := I.ok
          have hcells : ∀ y ∈ A.scope.names, y.2 = .free → ∃ c, X.env.cells.lookup y.1 = some c := fun y hy hf => (hkind y hy hf).elim (fun z => hX.has _ (.inl z)) fun z => hX.has _ (.inr z)
          have hC : NdefX.Caps X (cloFrom X.env.cells A.scope.names []) A.fr js := NdefX.Caps.made hX hkind hfr hjs
          refine wpAny_Call_Name_kw (ld_glob I hg hm ?_ hdb)
          refine PySem.W.callWith_K (h₀ := X.base) I.ok.mod.kin hk ?_ he (by rw [he2]; rfl)
          rw [he, hsp, he2]
          refine Calls.spliced_cons (thn (h1.run pins s σ H (fun v H1 => ∃ m1, Adv m H m1 H1 ∧ SR X.K m1 H1 st1 ∧ R X.K m1 H1 x v) I ⟨m, ρ, st, er, sr, x, st1, e1', fun m1 H1 v A1 S1 r1 => ⟨m1, A1, S1, r1⟩⟩) fun u1 s1 ⟨v1, H1, I1, ru1, m1, A1, S1, rv1⟩ => ?_)
          refine Calls.spliced_cons (thn (h2.run pins s1 σ H1 (fun v H2 => ∃ m2, Adv m1 H1 m2 H2 ∧ SR X.K m2 H2 st2 ∧ R X.K m2 H2 y v) I1 ⟨m1, ρ, st1, er.adv A1, S1, y, st2, e2', fun m2 H2 v A2 S2 r2 => ⟨m2, A2, S2, r2⟩⟩) fun u2 s2 ⟨v2, H2, I2, ru2, m2, A2, S2, rv2⟩ => ?_)
          obtain ⟨aP, mP, rfl, hT⟩ := S2.at et
          obtain ⟨cvs, rcv, hcv⟩ := caps_of (er.adv (A1.trans A2)) ec
          have noB : ∀ y ∈ B.scope.names, y.2 ≠ .free := fun y hy z => by have := S0.free y hy z; rw [hBf] at this; cases this
          refine Calls.spliced_cons (lam_made (q := A.qual) I2 TB hcode hT hA hdef0 (fun y hy z => absurd z (noB y hy)) fun f0 c0 pm0 ctv0 H20 s20 I20 hx20 hT20 hc20 hf20 hf30 => ?_)
          have mPm := List.mem_of_getElem? mP
          have A20 : Adv m2 H2 (m2 ++ [f0]) H20 := adv_tab hx20 hT mPm hf20
          have hfP0 : f0 ∉ m2 := fun z => by
            obtain ⟨u, hu, _⟩ := S2.there z
            rw [hf20] at hu; cases hu
          have S20 : SR X.K (m2 ++ [f0]) H20 (st2 ++ [.lam B []]) := by
            refine (sr_tab_step S2 mP et hx20 hT20 ⟨[], by simp⟩ A20.tup A20.frz).join hfP0 ⟨cloFrom X.env.cells B.scope.names [], c0, pm0, ctv0, [], ?_, ?_, ⟨by rw [hBf]; rfl, fun y k e => ?_, fun x y k e => ?_, fun i y e => by rw [hBf] at e; cases e⟩, .nil⟩
            · exact (hB0.symm.trans hA) ▸ hf30
            · exact (hB0.symm.trans hA) ▸ hc20
            · rcases cloFrom_mem (PySem.mem_of_lookup e) with z | ⟨z, _⟩
              · cases z
              · exact absurd rfl (noB _ z)
            · rcases cloFrom_mem (PySem.mem_of_lookup e) with z | ⟨z, _⟩
              · cases z
              · exact absurd rfl (noB _ z)
          have mP0 : (m2 ++ [f0])[t]? = some aP := by rw [List.getElem?_append_left (List.getElem?_eq_some_iff.mp mP).1]; exact mP
          have et0 : (st2 ++ [Mir.O.lam B []])[t]? = some (.tab aP A.qual) := by rw [List.getElem?_append_left (List.getElem?_eq_some_iff.mp et).1]; exact et
          refine Calls.spliced_cons (lam_made (q := A.qual) I20 TB hcode hT20 hA hdef hcells fun f c' pm ctv H3 s3 I3 hx3 hT3 hc3 hf2 hf3 => ?_)
          refine Calls.spliced_nil ⟨I3.kIn, ?_⟩
          have hfP : f ∉ m2 ++ [f0] := fun z => by
            obtain ⟨u, hu, _⟩ := S20.there z
            rw [hf2] at hu; cases hu
          have A3 : Adv (m2 ++ [f0]) H20 (m2 ++ [f0] ++ [f]) H3 := adv_tab hx3 hT20 (List.mem_append_left _ mPm) hf2
          have CA := NdefX.cells_of I3 hC
          rw [hcv] at CA
          have CU : CellsU s3.heap H3 (cloFrom X.env.cells A.scope.names []) := fun b ⟨y, hy⟩ => by
            obtain ⟨z1, v, o, z2, z3⟩ := CA.all y b hy
            exact ⟨z1, o, v, z2, z3⟩
          have ge : ∀ c o, H3 c = some o → addC s3.heap H3 (cloFrom X.env.cells A.scope.names []) c = some o := add_ge CU
          have A4 : Adv (m2 ++ [f0] ++ [f]) H3 (m2 ++ [f0] ++ [f]) (addC s3.heap H3 (cloFrom X.env.cells A.scope.names [])) := Adv.grow ge
          have dom : ∀ y k, (cloFrom X.env.cells A.scope.names []).lookup y = some k → y ∈ A.fr := fun y k e => by
            rcases cloFrom_mem (PySem.mem_of_lookup e) with z | ⟨z, _⟩
            · cases z
            · exact S.free _ z rfl
          have CO : ClO (addC s3.heap H3 (cloFrom X.env.cells A.scope.names [])) (cloFrom X.env.cells A.scope.names []) A.fr cvs := by
            refine ⟨by have := CA.len; rw [List.length_map] at this; exact this, dom, CA.inj, fun i y e => ?_⟩
            obtain ⟨k, z1, z2⟩ := CA.has i y e
            have hl : i < cvs.length := by
              have := CA.len
              rw [List.length_map] at this
              rw [this]
              exact (List.getElem?_eq_some_iff.mp e).1
            obtain ⟨u, r1, o, r2, r3⟩ := z2 cvs[i] (by rw [List.getElem?_map, List.getElem?_eq_getElem hl]; rfl)
            obtain ⟨o', v', y1, y2, y3⟩ := addC_in CU ⟨y, z1⟩
            rw [r2] at y2; cases y2
            exact ⟨k, o, u, cvs[i], List.getElem?_eq_getElem hl, z1, y1, r3, r1⟩
          have C2 := CO.cells
          have S3 : SR X.K (m2 ++ [f0]) H3 (st2 ++ [.lam B []]) := sr_tab_step S20 mP0 et0 hx3 hT3 ⟨[], by simp⟩ A3.tup A3.frz
          have SA : SR X.K (m2 ++ [f0] ++ [f]) (addC s3.heap H3 (cloFrom X.env.cells A.scope.names [])) (st2 ++ [.lam B []] ++ [.lam A caps]) := by
            refine (S3.grow ge).join hfP ?_
            obtain ⟨oc, u, vs, tk, z1, z2, z3⟩ := hc3
            exact ⟨_, c', pm, ctv, cvs, ge _ _ hf3, ⟨oc, u, vs, tk, ge _ _ z1, z2, z3⟩, CO, ((rcv.adv A20).ext ⟨⟨[], by simp⟩, fun a xs e => ge _ _ (A3.tup a xs e), fun a o u e => ge _ _ (A3.frz a o u e)⟩)⟩
          have e0 := I3.env0
          have cge : ∀ b, (∃ y, (cloFrom X.env.cells A.scope.names []).lookup y = some b) → X.s_0.heap.objs.size ≤ b ∧ b ≠ X.env.locals := fun b ⟨y, hy⟩ => ⟨I3.ok.cab y b (hfn y) (hC.sub y b hy), I3.cne y b (hC.sub y b hy)⟩
          have e0' : Env0 X.prog X.w X.K X.mg X.base X.A X.stack s3 (addC s3.heap H3 (cloFrom X.env.cells A.scope.names [])) := by
            refine ⟨e0.frames, e0.mod, fun b o e => ⟨(e0.bs b o e).1, ?_⟩, e0.bsz, e0.funs, fun b hb => ?_, hok_add CU e0.hok, e0.bare⟩
            · rw [addC_out fun q => ?_]
              · exact (e0.bs b o e).2
              · exact absurd (Heap.lt_size (I3.ok.bs b o e).1) (Nat.not_lt.mpr (cge b q).1)
            · rw [addC_out fun q => ?_]
              · exact e0.frf b hb
              · obtain ⟨z1, z2⟩ := cge b q
                have out : b ∈ X.outer.filterMap (·.frame) → False := fun hb => by
                  obtain ⟨_, o, ho, _⟩ := I3.ok.funs.mem hb
                  exact absurd (Heap.lt_size ho) (Nat.not_lt.mpr z1)
                rcases I3.ok.stk with z | ⟨z, z'⟩
                · rw [z] at hb; exact out hb
                · rw [z] at hb
                  rcases List.mem_filterMap.mp hb with ⟨x, hx, e⟩
                  rcases List.mem_cons.mp hx with rfl | hx
                  · rw [z'] at e; cases e; exact z2 rfl
                  · exact out (List.mem_filterMap.mpr ⟨x, hx, e⟩)
          have Ad : Adv m2 H2 (m2 ++ [f0] ++ [f]) (addC s3.heap H3 (cloFrom X.env.cells A.scope.names [])) := (A20.trans A3).trans A4
          have hl3 : (x :: y :: [W.ref st2.length, W.ref (st2 ++ [Mir.O.lam B []]).length]).length = ps.length := O.ln _ _ _ e3
          refine wpAny_call (codeAny_mono (hF.run X.A X.stack s3 _ ⟨[u1, u2, .ref f0, .ref f], []⟩ ([u1, u2, .ref f0, .ref f] ++ []) [v1, v2, .ref f0, .ref f] (fun v H' => ∃ m', Adv (m2 ++ [f0] ++ [f]) (addC s3.heap H3 (cloFrom X.env.cells A.scope.names [])) m' H' ∧ SR X.K m' H' st3 ∧ R X.K m' H' w v) E0 hr e0' (hB s3 [u1, u2, .ref f0, .ref f] I3.kIn (by simpa using hl3)) (by rw [List.append_nil]; exact .cons ru1 (.cons ru2 (.cons rfl (.cons rfl .nil))))
            ⟨by simpa using hl3, m2 ++ [f0] ++ [f], _, _, .cons (rv1.adv (A2.trans Ad)) (.cons (rv2.adv Ad) (.cons ((alloc_at S2 (H' := H20)).adv (A3.trans A4)) (.cons (alloc_at S20) .nil))), SA, w, st3, e3, fun m' H' v A' S' r' => ⟨m', A', S', r'⟩⟩) fun r s' hq => ?_)
          cases r with
          | error e => exact hq.elim
          | ok fl =>
            cases fl with
            | next => exact False.elim hq
            | brk => exact False.elim hq
            | cont => exact False.elim hq
            | ret u =>
              refine I3.after (ce_off CU hq fun v H' C' fz ⟨m', A', S', r'⟩ => ?_)
              have Af : Adv m2 H2 m' (offC H' (cloFrom X.env.cells A.scope.names [])) := by
                have Ae := Ad.trans A'
                have oc : ∀ b o, H2 b = some o → ¬ ∃ y, (cloFrom X.env.cells A.scope.names []).lookup y = some b := fun b o e hb => by
                  by_cases z : b = aP
                  · obtain ⟨ps, z1, _⟩ := hT3
                    rw [z] at hb
                    rw [(CU aP hb).1] at z1; cases z1
                  · have := hx3 b o z (hx20 b o z e)
                    rw [(CU b hb).1] at this; cases this
                refine ⟨Ae.pre, fun a o e n => by rw [offC_out (oc a o e)]; exact Ae.same a o e n, fun a h => ?_, fun a xs e => by rw [offC_out (oc a _ e)]; exact Ae.tup a xs e, fun a o u e => by rw [offC_out (oc a _ e)]; exact Ae.frz a o u e⟩
                exact Ae.new a h
              exact q m' _ v ((A1.trans A2).trans Af) (sr_revive S2 Af (sr_off S' C')) (r'.extW (off_ext C'))
      · cases e6
    | lst _ => simp only [et] at e6; cases e6
    | dct _ => simp only [et] at e6; cases e6
    | lam _ _ => simp only [et] at e6; cases e6
    | dead => simp only [et] at e6; cases e6
end
end Mir

set_option Elab.async false
set_option linter.all false
set_option maxRecDepth 100000
namespace Mir
open PySem PySem.Spec PyProof.Rows L2
theorem fr_lam2 {L : List Nat} {s s3 : Sto} {A B : LamA} {b c : List W} (f : Mir.Fr L (s ++ [.lam B b] ++ [.lam A c]) s3) : Mir.Fr L s (revive s (kill s3)) := by
  refine ⟨by rw [revive_len, kill_len]; have := f.len; simp at this; omega, fun i o hi e => rev_keep e ?_⟩
  rw [kill_get, f.at_ i o hi (gapp (gapp e))]
  rfl
theorem wp_lam22 {t : Nat} {B A : LamA} {F : List W → Sto → Rz W} {f1 f2 : FE} {js : List Nat} {P : Addr} {ρ : EnvM} {s : Sto} {caps : List W} {x y : W} {R : W → Sto → Prop} (h1 : f1 ρ s = some (x, s)) (h2 : f2 ρ s = some (y, s)) (ht : s[t]? = some (.tab P A.qual)) (hc : capsOf ρ js = some caps)
    (h : Wp (F [x, y, .ref s.length, .ref (s.length + 1)] (s ++ [.lam B []] ++ [.lam A caps])) fun w s3 => R w (revive s (kill s3))) : Wp (eLam22 f1 f2 t P B A js F ρ s) R := by
  obtain ⟨w, s3, e, q⟩ := h
  refine ⟨w, revive s (kill s3), ?_, q⟩
  have l1 : (s ++ [Mir.O.lam B []]).length = s.length + 1 := by simp
  unfold eLam22
  simp only [h1, h2, bd_some, ht, hc, l1]
  rw [if_pos (by first | exact ⟨rfl, rfl⟩ | trivial), e]
  rfl
theorem revive_kill : ∀ s : Sto, revive s (kill s) = s
  | [] => rfl
  | x :: r => by
    have := revive_kill r
    unfold kill at this
    cases x <;> simp [kill, kill1, revive, this]
end Mir

set_option Elab.async false
set_option linter.all false
set_option maxRecDepth 100000
namespace Mir
open PySem PySem.Spec PyProof.Rows L2
/-! ### a name that holds a def of a table -/
def alt (alts : List (Str × (List W → Sto → Rz W))) (x : Str) : Option (List W → Sto → Rz W) := (alts.find? fun p => decide (p.1 = x)).map (·.2)
noncomputable def eCallV (i : Nat) (alts : List (Str × (List W → Sto → Rz W))) (fa : FA) : FE := fun ρ s => match ρ[i]? with
  | some (some (.fn x)) => match alt alts x with
    | some F => bd (fa ρ s) F
    | none => none
  | _ => none
def Alts (P : Program) (w : World) (K : PySem.W.Frag) (mg : Str → Option Value) (base : Heap) (k : Nat) (alts : List (Str × (List W → Sto → Rz W))) : Prop :=
  ∀ x F, (x, F) ∈ alts → ∃ ps, Own P w K mg base k x ps F ∧ ∃ f, mg x = some (.ref f) ∧ PySem.W.nsIn K mainGlobals x = some (some (.ref f))
section
variable {P : Program} {w : World} {K : PySem.W.Frag} {mg : Str → Option Value} {base : Heap} {k j : Nat}
theorem alts_nil : Alts P w K mg base k [] := fun _ _ h => by cases h
theorem alts_cons {x : Str} {ps : List Str} {F : List W → Sto → Rz W} {f : Addr} {r : List (Str × (List W → Sto → Rz W))} (O : Own P w K mg base k x ps F) (g : mg x = some (.ref f)) (a : PySem.W.nsIn K mainGlobals x = some (some (.ref f))) (h : Alts P w K mg base k r) : Alts P w K mg base k ((x, F) :: r) := fun y G hy => by
  rcases List.mem_cons.mp hy with e | hy
  · cases e; exact ⟨ps, O, f, g, a⟩
  · exact h y G hy
theorem Alts.mono {alts : List (Str × (List W → Sto → Rz W))} (h : Alts P w K mg base j alts) (q : j ≤ k) : Alts P w K mg base k alts := fun x F hx => by
  obtain ⟨ps, O, r⟩ := h x F hx
  exact ⟨ps, O.mono q, r⟩
theorem alt_mem {alts : List (Str × (List W → Sto → Rz W))} {x : Str} {F : List W → Sto → Rz W} (h : alt alts x = some F) : (x, F) ∈ alts := by
  unfold alt at h
  cases e : alts.find? (fun p => decide (p.1 = x)) with
  | none => rw [e] at h; cases h
  | some p =>
    rw [e] at h
    cases h
    have h1 := List.mem_of_find?_eq_some e
    have h2 := List.find?_some e
    have h2 : p.1 = x := of_decide_eq_true h2
    rw [← h2]
    exact h1
theorem Own.alias {x y : Str} {ps : List Str} {F : List W → Sto → Rz W} {f : Addr} (O : Own P w K mg base k x ps F) (g : mg x = some (.ref f)) (g' : mg y = some (.ref f)) : Own P w K mg base k y ps F := by
  obtain ⟨f', fd, h1, h2, h3, h4⟩ := O.ex
  have e : f' = f := by rw [g] at h4; cases h4; rfl
  subst e
  exact ⟨⟨f', fd, h1, h2, h3, g'⟩, O.ln⟩
theorem cst_fn {x : Str} {f : Addr} (g : mg x = some (.ref f)) (a : PySem.W.nsIn K mainGlobals x = some (some (.ref f))) : Cst K mg x (.fn x) := ⟨.ref f, .ref f, g, rfl, fun _ _ => .fn a⟩
end
section
variable {X : Cx} {e : Expr} {es : List Expr} {pos : Pos}
theorem m_callV {k i : Nat} {alts : List (Str × (List W → Sto → Rz W))} {fa : FA} {x : Str} {p : Pos} (A : Alts X.prog X.w X.K X.mg X.base k alts) (hr : Room k X.A) (hN : X.N[i]? = some x) (hv : Vis X.env.scope x) (ha : PA X (e :: es) (tA X.K fa))
    (hdb : (x == ("__debug__" : Str)) = false := by decide) (hcd : (x == ("__classdict__" : Str)) = false := by decide)
    (he : starEach (e :: es) X.env = (false, eval e X.env) :: starEach es X.env := by rfl) (hpl : (backTo pos (starEach es X.env)).any (·.1) = false := by rfl) : PE X (.Call (.Name x p) (e :: es) [] pos) (tF X.K (eCallV i alts fa)) := by
  refine ⟨fun pins s σ H Q I ⟨m, ρ, st, er, sr, w, st', e1, q⟩ => ?_⟩
  unfold eCallV at e1
  cases ei : ρ[i]? with
  | none => simp only [ei] at e1; cases e1
  | some y =>
    cases y with
    | none => simp only [ei] at e1; cases e1
    | some y =>
      cases y with
      | fn y =>
        simp only [ei] at e1
        cases ea : alt alts y with
        | none => simp only [ea] at e1; cases e1
        | some F =>
          simp only [ea] at e1
          obtain ⟨ws, st1, e2, e6⟩ := bd_inv e1
          obtain ⟨v, hs, r⟩ := er.get ei
          obtain ⟨ps, O, f, hm, hn⟩ := A y F (alt_mem ea)
          cases r with
          | @fn _ a ha' =>
            have ef : a = f := by rw [ha'] at hn; cases hn; rfl
            subst ef
            obtain ⟨f', fd, h1, h2, h3, h4⟩ := O.ex
            have e : f' = a := by rw [hm] at h4; cases h4; rfl
            subst e
            refine (pe_callL (i := i) (f := f') (dvs := []) h1 hr hN hv h3 h2 .nil pass0 ha hdb hcd he hpl).run pins s σ H Q I ⟨hs, m, ρ, st, er, sr, ws, st1, e2, fun m1 H1 vs A1 S1 r1 => ?_⟩
            show spF X.K ps.length F (vs ++ []) H1 Q E0
            rw [List.append_nil]
            exact ⟨by rw [r1.len]; exact O.ln _ _ _ e6, m1, st1, ws, r1, S1, w, st', e6, fun m2 H2 v A2 => q m2 H2 v (A1.trans A2)⟩
      | _ => simp only [ei] at e1; cases e1
theorem wp_callV {i : Nat} {alts : List (Str × (List W → Sto → Rz W))} {fa : FA} {ρ : EnvM} {s : Sto} {x : Str} {F : List W → Sto → Rz W} {R : W → Sto → Prop} (h1 : ρ[i]? = some (some (.fn x))) (h2 : alt alts x = some F) (h : Wp (fa ρ s) fun ws s1 => Wp (F ws s1) R) : Wp (eCallV i alts fa ρ s) R := by
  unfold eCallV
  simp only [h1, h2, wp_bd]
  exact h
end

/-! ### what is never reached -/
def eNever : FE := fun _ _ => none
theorem m_neverE {X : Cx} {e : Expr} : PE X e (tF X.K eNever) := ⟨fun pins s σ H Q I ⟨m, ρ, st, er, sr, w, st', e1, q⟩ => by cases e1⟩
end Mir

set_option Elab.async false
set_option linter.all false
set_option maxRecDepth 100000
namespace Mir
open PySem PySem.Spec PyProof.Rows L2
/-! ### two defs that make lambdas: two tables -/
theorem sr_tab2 {K : PySem.W.Frag} {H : Hp} {P P' : Addr} {q q' : Str} (h : H P = some (.tbl #[])) (h' : H P' = some (.tbl #[])) (ne : P ≠ P') : SR K [P, P'] H [.tab P q, .tab P' q'] := by
  refine ⟨rfl, by simp [ne], fun n a o h1 h2 => ?_⟩
  match n with
  | 0 =>
    cases h1; cases h2
    exact ⟨rfl, #[], h, trivial, fun pos cv e => by cases e⟩
  | 1 =>
    cases h1; cases h2
    exact ⟨rfl, #[], h', trivial, fun pos cv e => by cases e⟩
  | n + 2 => cases h1
theorem law_spL2 {K : PySem.W.Frag} {F : List W → Sto → Rz W} {H : Hp} {a P P' : Addr} {q q' : Str} {ns : List Int} (hP : H P = some (.tbl #[])) (hP' : H P' = some (.tbl #[])) (ne : P ≠ P') (hS : SqL K H a (ns.map V.int)) (h : ∃ s, F [.lro (ns.map W.int)] [.tab P q, .tab P' q'] = some (.bl true, s)) : spL K F [.ref a] H (fun v _ => v = .bl true) (fun _ _ _ => False) := by
  obtain ⟨s, e⟩ := h
  refine ⟨rfl, ?_⟩
  rcases hS with (h | h) | h
  · refine .inr ⟨a, _, rfl, h, fun o => ⟨rfl, [P, P'], _, _, .cons (.lro (.inl ⟨o, upd_same⟩) (ints_rl ns)) .nil, sr_tab2 (q := q) (q' := q') ?_ ?_ ne, .bl true, s, e, fun m' H' v _ _ r => by cases r; rfl⟩⟩
    · rw [upd_ne fun z => by rw [z, h] at hP; cases hP]
      exact hP
    · rw [upd_ne fun z => by rw [z, h] at hP'; cases hP']
      exact hP'
  · exact .inl ⟨rfl, [P, P'], _, _, .cons (.lro (.inl h) (ints_rl ns)) .nil, sr_tab2 (q := q) (q' := q') hP hP' ne, .bl true, s, e, fun m' H' v _ _ r => by cases r; rfl⟩
  · exact .inl ⟨rfl, [P, P'], _, _, .cons (.lro (.inr h) (ints_rl ns)) .nil, sr_tab2 (q := q) (q' := q') hP hP' ne, .bl true, s, e, fun m' H' v _ _ r => by cases r; rfl⟩
theorem law_at2 {l : PySem.W.OpenLaw} {w : World} {K : PySem.W.Frag} {k : Nat} {mg : Str → Option Value} {fa c P c' P' : Addr} {h : Heap} {q q' : Str} {F : Addr → Addr → List W → Sto → Rz W} (hT : h.get? P = some (PySem.W.tabObj #[])) (nT : K.lookup P = none) (hT' : h.get? P' = some (PySem.W.tabObj #[])) (nT' : K.lookup P' = none) (nd : P ≠ P') (X : K.In h) (C : PySem.W.codeHdIn K c P = true) (C' : PySem.W.codeHdIn K c' P' = true)
    (hF : ∃ fd : FuncData, (∀ (s : Shared) (v : Value), BindsTo s fd ⟨[v], []⟩ [("script", v)]) ∧ ∀ base : Heap, K.In base → base.Ns mainGlobals mg → LamX.TabB base mg c P → LamX.TabB base mg c' P' → FnOk l.prog w K mg base CX0 k fa fd ["script"] (spF K 1 (F P P')))
    (hp : ∀ (P P' : Addr) (ns : List Int), ns.length ≤ 63 → ∃ s, F P P' [.lro (ns.map W.int)] [.tab P q, .tab P' q'] = some (.bl true, s)) : LamX.LawAtS l w K CX0 k 63 "script" mg fa h := by
  obtain ⟨fd, hb, hF⟩ := hF
  have one : ∀ {p : Addr × Addr}, p ∈ [(c, P), (c', P')] → p = (c, P) ∨ p = (c', P') := fun h => by simpa using h
  refine ⟨fd, [(c, P), (c', P')], spL K (F P P'), fun p hp => ?_, fun p hp => ?_, fun p hp => ?_, hb, fun H a ns hl _ hH hS => ?_, fun base hK hN hTB => fn_lock (hF base hK hN (hTB (c, P) (by simp)) (hTB (c', P') (by simp)))⟩
  · rcases one hp with e | e <;> rw [e]
    · exact hT
    · exact hT'
  · rcases one hp with e | e <;> rw [e]
    · exact nT
    · exact nT'
  · rcases one hp with e | e <;> rw [e]
    · exact PySem.W.codeHd_of_K X C
    · exact PySem.W.codeHd_of_K X C'
  · exact law_spL2 (hH (c, P) (by simp)) (hH (c', P') (by simp)) nd hS (hp P P' ns hl)
end Mir

set_option Elab.async false
set_option linter.all false
set_option maxRecDepth 100000
namespace K62
open PySem PySem.Spec PyProof.Rows L2 Mir
def topS (i : Nat) : Stmt := PySem.Challenge.pw_shapewright_k62_instructions.main.body.getD i (.Pass ⟨0, 0, 0, 0⟩)
abbrev sIsNumber : Stmt := topS 3
theorem scIsNumber : FnScope ["value"] ["value"] (defScope sIsNumber) := ⟨rfl, rfl, rfl, by decide +kernel, rfl, by decide +kernel, by decide +kernel⟩
abbrev sIsInteger : Stmt := topS 4
theorem scIsInteger : FnScope ["value"] ["value"] (defScope sIsInteger) := ⟨rfl, rfl, rfl, by decide +kernel, rfl, by decide +kernel, by decide +kernel⟩
abbrev sOperands : Stmt := topS 9
theorem scOperands : FnScope ["name"] ["name"] (defScope sOperands) := ⟨rfl, rfl, rfl, by decide +kernel, rfl, by decide +kernel, by decide +kernel⟩
abbrev sIsString : Stmt := topS 10
theorem scIsString : FnScope ["value"] ["value"] (defScope sIsString) := ⟨rfl, rfl, rfl, by decide +kernel, rfl, by decide +kernel, by decide +kernel⟩
abbrev sIsTruth : Stmt := topS 11
theorem scIsTruth : FnScope ["value"] ["value"] (defScope sIsTruth) := ⟨rfl, rfl, rfl, by decide +kernel, rfl, by decide +kernel, by decide +kernel⟩
abbrev sIsFixed : Stmt := topS 12
theorem scIsFixed : FnScope ["value"] ["value"] (defScope sIsFixed) := ⟨rfl, rfl, rfl, by decide +kernel, rfl, by decide +kernel, by decide +kernel⟩
abbrev sIsIndex : Stmt := topS 13
theorem scIsIndex : FnScope ["value"] ["value"] (defScope sIsIndex) := ⟨rfl, rfl, rfl, by decide +kernel, rfl, by decide +kernel, by decide +kernel⟩
abbrev sIsLength : Stmt := topS 14
theorem scIsLength : FnScope ["value"] ["value"] (defScope sIsLength) := ⟨rfl, rfl, rfl, by decide +kernel, rfl, by decide +kernel, by decide +kernel⟩
abbrev sIsLabels : Stmt := topS 15
theorem scIsLabels : FnScope ["value", "label"] ["value"] (defScope sIsLabels) := ⟨rfl, rfl, rfl, by decide +kernel, rfl, by decide +kernel, by decide +kernel⟩
abbrev sIsOperation : Stmt := topS 16
theorem scIsOperation : FnScope ["value"] ["value"] (defScope sIsOperation) := ⟨rfl, rfl, rfl, by decide +kernel, rfl, by decide +kernel, by decide +kernel⟩
abbrev sIsInstruction : Stmt := topS 18
theorem scIsInstruction : FnScope ["value", "form", "test", "part"] ["value"] (defScope sIsInstruction) := ⟨rfl, rfl, rfl, by decide +kernel, rfl, by decide +kernel, by decide +kernel⟩
abbrev sLawMix : Stmt := topS 20
theorem scLawMix : FnScope ["number"] ["number"] (defScope sLawMix) := ⟨rfl, rfl, rfl, by decide +kernel, rfl, by decide +kernel, by decide +kernel⟩
abbrev sLawTape : Stmt := topS 21
theorem scLawTape : FnScope ["script", "budget"] ["script", "budget"] (defScope sLawTape) := ⟨rfl, rfl, rfl, by decide +kernel, rfl, by decide +kernel, by decide +kernel⟩
abbrev sLawTake : Stmt := topS 22
theorem scLawTake : FnScope ["tape", "many", "cell", "digit"] ["tape", "many"] (defScope sLawTake) := ⟨rfl, rfl, rfl, by decide +kernel, rfl, by decide +kernel, by decide +kernel⟩
abbrev sLawOperations : Stmt := topS 23
theorem scLawOperations : FnScope [] [] (defScope sLawOperations) := ⟨rfl, rfl, rfl, by decide +kernel, rfl, by decide +kernel, by decide +kernel⟩
abbrev sLawInstruction : Stmt := topS 24
theorem scLawInstruction : FnScope ["tape", "n", "name", "operation", "labels", "number", "rows"] ["tape"] (defScope sLawInstruction) := ⟨rfl, rfl, rfl, by decide +kernel, rfl, by decide +kernel, by decide +kernel⟩
abbrev sLawWrong : Stmt := topS 25
theorem scLawWrong : FnScope ["tape", "n", "rows"] ["tape"] (defScope sLawWrong) := ⟨rfl, rfl, rfl, by decide +kernel, rfl, by decide +kernel, by decide +kernel⟩
abbrev sLaw : Stmt := topS 26
theorem scLaw : FnScope ["script", "tape", "row", "name", "due"] ["script"] (defScope sLaw) := ⟨rfl, rfl, rfl, by decide +kernel, rfl, by decide +kernel, by decide +kernel⟩
def T_OPERAND_COUNTS : List (Str × Option W) := [("add", some (.int 2)), ("sub", some (.int 2)), ("mul", some (.int 2)), ("div", some (.int 2)), ("mod", some (.int 2)), ("neg", some (.int 1)), ("less", some (.int 2)), ("leq", some (.int 2)), ("equal", some (.int 2)), ("ref", some (.int 1)), ("fetch", some (.int 1)), ("assign", some (.int 2)), ("print", some (.int 1)), ("plus", none), ("", none), ("adds", none), ("subs", none), ("muls", none), ("divs", none), ("mods", none), ("negs", none), ("lesss", none), ("leqs", none), ("equals", none), ("refs", none), ("fetchs", none), ("assigns", none), ("prints", none)]
def T_FORMS : List (Str × Option W) := ("int", some (.tup [(.fn "is_integer")])) :: ("fixed", some (.tup [(.fn "is_fixed")])) :: ("slot", some (.tup [(.fn "is_number")])) :: ("store", some (.tup [(.fn "is_number")])) :: ("captured", some (.tup [(.fn "is_number")])) :: ("drop", some (.tup [])) :: ("tuple", some (.tup [(.fn "is_length")])) :: ("part", some (.tup [(.fn "is_number")])) :: ("record", some (.tup [(.fn "is_labels")])) :: ("field", some (.tup [(.fn "is_string")])) :: ("con", some (.tup [(.fn "is_index"), (.fn "is_string")])) :: ("wrap", some (.tup [(.fn "is_index"), (.fn "is_string")])) :: ("argument", some (.tup [])) :: ("closure", some (.tup [(.fn "is_number")])) :: ("sibling", some (.tup [(.fn "is_number")])) :: ("call", some (.tup [])) :: ("tail", some (.tup [])) :: ("return", some (.tup [])) :: ("jump", some (.tup [(.fn "is_number")])) :: ("constructor", some (.tup [(.fn "is_index"), (.fn "is_number")])) :: ("integer", some (.tup [(.fn "is_integer"), (.fn "is_number")])) :: ("exception", some (.tup [(.fn "is_number")])) :: ("new", some (.tup [(.fn "is_string")])) :: ("packet", some (.tup [(.fn "is_truth")])) :: ("raise", some (.tup [])) :: ("try", some (.tup [(.fn "is_number")])) :: ("end", some (.tup [])) :: ("prim", some (.tup [(.fn "is_operation")])) :: ("go", none) :: ("", none) :: ("no slot", none) :: ("no store", none) :: ("no captured", none) :: ("no part", none) :: ("no closure", none) :: ("no sibling", none) :: ("no jump", none) :: ("no exception", none) :: ("no try", none) :: ("no int", none) :: ("no fixed", none) :: ("no tuple", none) :: ("no record", none) :: ("no field", none) :: ("no new", none) :: ("no packet", none) :: ("no prim", none) :: ("no con", none) :: ("no wrap", none) :: ("no constructor", none) :: ("no integer", none) :: ("no drop", none) :: ("no argument", none) :: ("no call", none) :: ("no tail", none) :: ("no return", none) :: ("no raise", none) :: ("no end", none) :: []
noncomputable def BIsNumber : FS := (sRet (eAnd (eIsi "int" (eVar 0)) (eAnd (eNot (eIsi "bool" (eVar 0))) (eOp gGe (eVar 0) (eC (.int 0))))))
noncomputable def FIsNumber : List W → Sto → Rz W := mkF 1 1 BIsNumber
noncomputable def BIsInteger : FS := (sCons (sIf (bOr (bTruth (eIsi "bool" (eVar 0))) (bNot (bTruth (eIsi "int" (eVar 0))))) (sRet (eC (.bl false))) sNil)
    (sRet (eChain gLe gLe (eC (.int (-2147483648))) (eVar 0) (eC (.int 2147483647)))))
noncomputable def FIsInteger : List W → Sto → Rz W := mkF 1 1 BIsInteger
noncomputable def BOperands : FS := (sRet (eCget2 T_OPERAND_COUNTS (eVar 0) (eC (.int 0))))
noncomputable def FOperands : List W → Sto → Rz W := mkF 1 1 BOperands
noncomputable def BIsString : FS := (sRet (eIsi "str" (eVar 0)))
noncomputable def FIsString : List W → Sto → Rz W := mkF 1 1 BIsString
noncomputable def BIsTruth : FS := (sRet (eIsi "bool" (eVar 0)))
noncomputable def FIsTruth : List W → Sto → Rz W := mkF 1 1 BIsTruth
noncomputable def BIsFixed : FS := (sRet (eAnd (eFn FIsNumber (aCons (eVar 0) aNil)) (eOp gLe (eVar 0) (eC (.int 3)))))
noncomputable def FIsFixed : List W → Sto → Rz W := mkF 1 1 BIsFixed
noncomputable def BIsIndex : FS := (sRet (eAnd (eFn FIsNumber (aCons (eVar 0) aNil)) (eOp gLe (eVar 0) (eC (.int 11)))))
noncomputable def FIsIndex : List W → Sto → Rz W := mkF 1 1 BIsIndex
noncomputable def BIsLength : FS := (sRet (eAnd (eFn FIsNumber (aCons (eVar 0) aNil)) (eOp gIn (eVar 0) (eC (.tup [(.int 0), (.int 2), (.int 3), (.int 4), (.int 5), (.int 6)])))))
noncomputable def FIsLength : List W → Sto → Rz W := mkF 1 1 BIsLength
noncomputable def BIsLabels : FS := (sCons (sIf (bOr (bNot (bTruth (eIsi "tuple" (eVar 0)))) (bNot (bTruth (eFn gAll (aCons (eLc [1] (iSeq (eVar 0)) (.name 1) bYes (eFn FIsString (aCons (eVar 1) aNil))) aNil))))) (sRet (eC (.bl false))) sNil)
    (sRet (eOp gEq (eLsc (eVar 0)) (eFn gLen (aCons (eVar 0) aNil)))))
noncomputable def FIsLabels : List W → Sto → Rz W := mkF 1 2 BIsLabels
noncomputable def BIsOperation : FS := (sRet (eAnd (eFn FIsString (aCons (eVar 0) aNil)) (eCin false T_OPERAND_COUNTS (eVar 0))))
noncomputable def FIsOperation : List W → Sto → Rz W := mkF 1 1 BIsOperation
noncomputable def Alts_FORMS : List (Str × (List W → Sto → Rz W)) := [("is_integer", FIsInteger), ("is_fixed", FIsFixed), ("is_number", FIsNumber), ("is_length", FIsLength), ("is_labels", FIsLabels), ("is_string", FIsString), ("is_index", FIsIndex), ("is_truth", FIsTruth), ("is_operation", FIsOperation)]
noncomputable def BIsInstruction : FS := (sCons (sIf (bOr (bNot (bTruth (eVar 0))) (bOr (bNot (bTruth (eFn FIsString (aCons (eOp gIx (eVar 0) (eC (.int 0))) aNil)))) (bTest (eCin true T_FORMS (eOp gIx (eVar 0) (eC (.int 0))))))) (sRet (eC (.bl false))) sNil)
    (sCons (sSet 1 (eCget T_FORMS (eOp gIx (eVar 0) (eC (.int 0)))))
    (sCons (sIf (bTest (eOp gNe (eFn gLen (aCons (eVar 0) aNil)) (eOp gAdd (eC (.int 1)) (eFn gLen (aCons (eVar 1) aNil))))) (sRet (eC (.bl false))) sNil)
    (sCons (sFor (iZip (eVar 1) (eSl gSlA (eVar 0) (pAt (eC (.int 1))) pNo)) (.tup [(.name 2), (.name 3)]) (sIf (bNot (bTruth (eCallV 2 Alts_FORMS (aCons (eVar 3) aNil)))) (sRet (eC (.bl false))) sNil))
    (sRet (eC (.bl true)))))))
noncomputable def FIsInstruction : List W → Sto → Rz W := mkF 1 4 BIsInstruction
noncomputable def BLawMix : FS := (sCons (sSet 0 (eOp gMod (eFn gInt1 (aCons (eOp gAdd (eOp gMul (eVar 0) (eC (.int 6364136223846793005))) (eC (.int 1442695040888963407))) aNil)) (eC (.int 18446744073709551616))))
    (sRet (eOp gMod (eFn gInt1 (aCons (eOp gAdd (eOp gDivW (eOp gMul (eVar 0) (eVar 0)) (eC (.int 4294967296))) (eOp gMul (eVar 0) (eC (.int 69621)))) aNil)) (eC (.int 18446744073709551557)))))
noncomputable def FLawMix : List W → Sto → Rz W := mkF 1 1 BLawMix
noncomputable def BLawTape : FS := (sRet (eLst (aCons (eFn gList (aCons (eVar 0) aNil)) (aCons (eC (.int 0)) (aCons (eC (.int 0)) (aCons (eC (.int 1)) (aCons (eVar 1) aNil)))))))
noncomputable def FLawTape : List W → Sto → Rz W := mkF 2 2 BLawTape
noncomputable def BLawTake : FS := (sCons (sIf (bTest (eOp gLt (eOp gIx (eVar 0) (eC (.int 2))) (eVar 1))) (sIf (bTest (eOp gLt (eOp gIx (eVar 0) (eC (.int 1))) (eFn gLen (aCons (eOp gIx (eVar 0) (eC (.int 0))) aNil)))) (sCons (sSet 2 (eOp gIx (eOp gIx (eVar 0) (eC (.int 0))) (eOp gIx (eVar 0) (eC (.int 1)))))
    (sCons (sSet 2 (eIf (bTest (eOp gGe (eVar 2) (eC (.int 0)))) (eOp gMul (eC (.int 2)) (eVar 2)) (eOp gSub (eOp gMul (eUn gNeg (eC (.int 2))) (eVar 2)) (eC (.int 1)))))
    (sCons (sPut (eVar 0) (eC (.int 1)) (eOp gAdd (eOp gIx (eVar 0) (eC (.int 1))) (eC (.int 1))))
    (sCons (sPut (eVar 0) (eC (.int 3)) (eFn FLawMix (aCons (eOp gAdd (eOp gIx (eVar 0) (eC (.int 3))) (eVar 2)) aNil)))
    (sPut (eVar 0) (eC (.int 2)) (eIf (bTest (eOp gGe (eVar 2) (eOp gPow (eC (.int 10)) (eC (.int 18))))) (eVar 2) (eFn FLawMix (aCons (eFn FLawMix (aCons (eVar 2) aNil)) aNil)))))))) (sCons (sPut (eVar 0) (eC (.int 3)) (eFn FLawMix (aCons (eOp gAdd (eOp gIx (eVar 0) (eC (.int 3))) (eC (.int 1))) aNil)))
    (sPut (eVar 0) (eC (.int 2)) (eOp gIx (eVar 0) (eC (.int 3)))))) sNil)
    (sCons (sSet 3 (eOp gMod (eFn gInt1 (aCons (eOp gIx (eVar 0) (eC (.int 2))) aNil)) (eVar 1)))
    (sCons (sPut (eVar 0) (eC (.int 2)) (eOp gDivW (eOp gIx (eVar 0) (eC (.int 2))) (eVar 1)))
    (sRet (eVar 3)))))
noncomputable def FLawTake : List W → Sto → Rz W := mkF 2 4 BLawTake
noncomputable def BLawOperations : FS := (sRet (eLst (aCons (eC (.str "add")) (aCons (eC (.str "sub")) (aCons (eC (.str "mul")) (aCons (eC (.str "div")) (aCons (eC (.str "mod")) (aCons (eC (.str "neg")) (aCons (eC (.str "less")) (aCons (eC (.str "leq")) (aCons (eC (.str "equal")) (aCons (eC (.str "ref")) (aCons (eC (.str "fetch")) (aCons (eC (.str "assign")) (aCons (eC (.str "print")) aNil)))))))))))))))
noncomputable def FLawOperations : List W → Sto → Rz W := mkF 0 0 BLawOperations
noncomputable def BLawInstruction : FS := (sCons (sSet 1 (eFn FLawTake (aCons (eVar 0) (aCons (eC (.int 5000)) aNil))))
    (sCons (sSet 2 (eOp gIx (eLst (aCons (eC (.str "a")) (aCons (eC (.str "Some")) (aCons (eC (.str "exn E")) (aCons (eC (.str "val x")) aNil))))) (eFn FLawTake (aCons (eVar 0) (aCons (eC (.int 4)) aNil)))))
    (sCons (sSet 3 (eOp gIx (eFn FLawOperations aNil) (eFn FLawTake (aCons (eVar 0) (aCons (eC (.int 13)) aNil)))))
    (sCons (sSet 4 (eOp gIx (eLst (aCons (eTup aNil) (aCons (eTup (aCons (eC (.str "val x")) aNil)) (aCons (eTup (aCons (eC (.str "val x")) (aCons (eC (.str "mod M")) aNil))) (aCons (eTup (aCons (eC (.str "c")) (aCons (eC (.str "b")) (aCons (eC (.str "a")) aNil)))) aNil))))) (eFn FLawTake (aCons (eVar 0) (aCons (eC (.int 4)) aNil)))))
    (sCons (sSet 5 (eOp gSub (eFn FLawTake (aCons (eVar 0) (aCons (eC (.int 4294967296)) aNil))) (eC (.int 2147483648))))
    (sCons (sSet 6 (eLst (aCons (eTup (aCons (eC (.str "slot")) (aCons (eVar 1) aNil))) (aCons (eTup (aCons (eC (.str "store")) (aCons (eVar 1) aNil))) (aCons (eTup (aCons (eC (.str "captured")) (aCons (eVar 1) aNil))) (aCons (eTup (aCons (eC (.str "part")) (aCons (eVar 1) aNil))) (aCons (eTup (aCons (eC (.str "closure")) (aCons (eVar 1) aNil))) (aCons (eTup (aCons (eC (.str "sibling")) (aCons (eVar 1) aNil))) (aCons (eTup (aCons (eC (.str "jump")) (aCons (eVar 1) aNil))) aNil)))))))))
    (sCons (sSet 6 (eOp gAdd (eVar 6) (eLst (aCons (eTup (aCons (eC (.str "exception")) (aCons (eVar 1) aNil))) (aCons (eTup (aCons (eC (.str "try")) (aCons (eVar 1) aNil))) (aCons (eTup (aCons (eC (.str "int")) (aCons (eVar 5) aNil))) (aCons (eTup (aCons (eC (.str "fixed")) (aCons (eOp gMod (eVar 1) (eC (.int 4))) aNil))) (aCons (eTup (aCons (eC (.str "tuple")) (aCons (eOp gIx (eLst (aCons (eC (.int 0)) (aCons (eC (.int 2)) (aCons (eC (.int 3)) (aCons (eC (.int 4)) (aCons (eC (.int 5)) (aCons (eC (.int 6)) aNil))))))) (eOp gMod (eVar 1) (eC (.int 6)))) aNil))) aNil))))))))
    (sCons (sSet 6 (eOp gAdd (eVar 6) (eLst (aCons (eTup (aCons (eC (.str "record")) (aCons (eVar 4) aNil))) (aCons (eTup (aCons (eC (.str "field")) (aCons (eVar 2) aNil))) (aCons (eTup (aCons (eC (.str "new")) (aCons (eVar 2) aNil))) (aCons (eTup (aCons (eC (.str "packet")) (aCons (eOp gEq (eOp gMod (eVar 1) (eC (.int 2))) (eC (.int 0))) aNil))) (aCons (eTup (aCons (eC (.str "prim")) (aCons (eVar 3) aNil))) aNil))))))))
    (sCons (sSet 6 (eOp gAdd (eVar 6) (eLst (aCons (eTup (aCons (eC (.str "con")) (aCons (eOp gMod (eVar 1) (eC (.int 12))) (aCons (eVar 2) aNil)))) (aCons (eTup (aCons (eC (.str "wrap")) (aCons (eOp gMod (eVar 1) (eC (.int 12))) (aCons (eVar 2) aNil)))) (aCons (eTup (aCons (eC (.str "constructor")) (aCons (eOp gMod (eVar 1) (eC (.int 12))) (aCons (eVar 1) aNil)))) (aCons (eTup (aCons (eC (.str "integer")) (aCons (eVar 5) (aCons (eVar 1) aNil)))) aNil)))))))
    (sCons (sSet 6 (eOp gAdd (eVar 6) (eLst (aCons (eTup (aCons (eC (.str "drop")) aNil)) (aCons (eTup (aCons (eC (.str "argument")) aNil)) (aCons (eTup (aCons (eC (.str "call")) aNil)) (aCons (eTup (aCons (eC (.str "tail")) aNil)) (aCons (eTup (aCons (eC (.str "return")) aNil)) (aCons (eTup (aCons (eC (.str "raise")) aNil)) (aCons (eTup (aCons (eC (.str "end")) aNil)) aNil))))))))))
    (sRet (eOp gIx (eVar 6) (eFn FLawTake (aCons (eVar 0) (aCons (eFn gLen (aCons (eVar 6) aNil)) aNil)))))))))))))))
noncomputable def FLawInstruction : List W → Sto → Rz W := mkF 1 7 BLawInstruction
noncomputable def BLawWrong : FS := (sCons (sSet 1 (eOp gAdd (eC (.int 1)) (eFn FLawTake (aCons (eVar 0) (aCons (eC (.int 50)) aNil)))))
    (sCons (sSet 2 (eLst (aCons (eTup (aCons (eC (.str "slot")) (aCons (eUn gNeg (eVar 1)) aNil))) (aCons (eTup (aCons (eC (.str "slot")) (aCons (eC (.str "b")) aNil))) (aCons (eTup (aCons (eC (.str "slot")) (aCons (eC (.str "a")) aNil))) (aCons (eTup (aCons (eC (.str "store")) aNil)) (aCons (eTup (aCons (eC (.str "drop")) (aCons (eVar 1) aNil))) (aCons (eTup (aCons (eC (.str "tuple")) (aCons (eC (.int 1)) aNil))) (aCons (eTup (aCons (eC (.str "tuple")) (aCons (eOp gAdd (eC (.int 6)) (eVar 1)) aNil))) (aCons (eTup (aCons (eC (.str "fixed")) (aCons (eC (.int 4)) aNil))) aNil))))))))))
    (sCons (sSet 2 (eOp gAdd (eVar 2) (eLst (aCons (eTup (aCons (eC (.str "record")) (aCons (eTup (aCons (eC (.str "a")) (aCons (eC (.str "a")) aNil))) aNil))) (aCons (eTup (aCons (eC (.str "record")) (aCons (eTup (aCons (eC (.str "a")) (aCons (eC (.str "b")) (aCons (eC (.str "a")) aNil)))) aNil))) (aCons (eTup (aCons (eC (.str "record")) (aCons (eC (.str "ab")) aNil))) (aCons (eTup (aCons (eC (.str "field")) (aCons (eUn gNeg (eVar 1)) aNil))) (aCons (eTup (aCons (eC (.str "field")) (aCons (eVar 1) aNil))) (aCons (eTup (aCons (eC (.str "new")) (aCons (eVar 1) aNil))) aNil)))))))))
    (sCons (sSet 2 (eOp gAdd (eVar 2) (eLst (aCons (eTup (aCons (eC (.str "packet")) (aCons (eC (.int 1)) aNil))) (aCons (eTup (aCons (eC (.str "packet")) (aCons (eC (.str "yes")) aNil))) (aCons (eTup (aCons (eC (.str "prim")) (aCons (eC (.str "plus")) aNil))) (aCons (eTup (aCons (eC (.str "prim")) (aCons (eVar 1) aNil))) (aCons (eTup (aCons (eC (.str "con")) (aCons (eC (.int 12)) (aCons (eC (.str "A")) aNil)))) (aCons (eTup (aCons (eC (.str "con")) (aCons (eUn gNeg (eC (.int 1))) (aCons (eC (.str "A")) aNil)))) aNil)))))))))
    (sCons (sSet 2 (eOp gAdd (eVar 2) (eLst (aCons (eTup (aCons (eC (.str "con")) (aCons (eOp gMod (eVar 1) (eC (.int 12))) (aCons (eVar 1) aNil)))) (aCons (eTup (aCons (eC (.str "wrap")) (aCons (eOp gMod (eVar 1) (eC (.int 12))) aNil))) (aCons (eTup (aCons (eC (.str "constructor")) (aCons (eC (.int 12)) (aCons (eVar 1) aNil)))) (aCons (eTup (aCons (eC (.str "constructor")) (aCons (eOp gMod (eVar 1) (eC (.int 12))) aNil))) (aCons (eTup (aCons (eC (.str "integer")) (aCons (eVar 1) aNil))) aNil))))))))
    (sCons (sSet 2 (eOp gAdd (eVar 2) (eLst (aCons (eTup (aCons (eC (.str "integer")) (aCons (eC (.int 2147483648)) (aCons (eVar 1) aNil)))) (aCons (eTup (aCons (eC (.str "int")) (aCons (eUn gNeg (eC (.int 2147483649))) aNil))) (aCons (eTup (aCons (eC (.str "int")) (aCons (eC (.str "0")) aNil))) (aCons (eTup (aCons (eC (.str "int")) (aCons (eC (.str "1")) aNil))) (aCons (eTup (aCons (eC (.str "go")) (aCons (eVar 1) aNil))) (aCons (eTup aNil) (aCons (eTup (aCons (eC (.str "")) aNil)) aNil))))))))))
    (sCons (sSet 2 (eOp gAdd (eVar 2) (eLst (aCons (eTup (aCons (eC (.str "jump")) (aCons (eUn gNeg (eC (.int 1))) aNil))) (aCons (eTup (aCons (eC (.str "try")) (aCons (eC (.str "")) aNil))) (aCons (eTup (aCons (eC (.str "exception")) (aCons (eC (.str "x")) aNil))) (aCons (eTup (aCons (eC (.str "return")) (aCons (eC (.int 0)) aNil))) (aCons (eTup (aCons (eC (.str "fixed")) (aCons (eUn gNeg (eC (.int 1))) aNil))) (aCons (eTup (aCons (eC (.str "tuple")) (aCons (eUn gNeg (eVar 1)) aNil))) (aCons (eTup (aCons (eC (.str "drop")) (aCons (eC (.str "drop")) aNil))) aNil))))))))))
    (sRet (eOp gIx (eVar 2) (eFn FLawTake (aCons (eVar 0) (aCons (eFn gLen (aCons (eVar 2) aNil)) aNil))))))))))))
noncomputable def FLawWrong : List W → Sto → Rz W := mkF 1 3 BLawWrong
noncomputable def BLaw : FS := (sCons (sSet 1 (eFn FLawTape (aCons (eVar 0) (aCons (eC (.int 0)) aNil))))
    (sCons (sSet 2 (eFn FLawInstruction (aCons (eVar 1) aNil)))
    (sCons (sIf (bOr (bTest (eOp gIsNot (eFn FIsInstruction (aCons (eVar 2) aNil)) (eC (.bl true)))) (bTest (eOp gIsNot (eFn FIsInstruction (aCons (eFn FLawWrong (aCons (eVar 1) aNil)) aNil)) (eC (.bl false))))) (sRet (eC (.bl false))) sNil)
    (sCons (sIf (bOr (bTest (eOp gIsNot (eFn FIsInstruction (aCons (eOp gAdd (eVar 2) (eTup (aCons (eC (.str "x")) aNil))) aNil)) (eC (.bl false)))) (bTest (eOp gIsNot (eFn FIsInstruction (aCons (eOp gAdd (eTup (aCons (eOp gAdd (eC (.str "no ")) (eOp gIx (eVar 2) (eC (.int 0)))) aNil)) (eSl gSlA (eVar 2) (pAt (eC (.int 1))) pNo)) aNil)) (eC (.bl false))))) (sRet (eC (.bl false))) sNil)
    (sCons (sSet 3 (eOp gIx (eFn FLawOperations aNil) (eFn FLawTake (aCons (eVar 1) (aCons (eC (.int 13)) aNil)))))
    (sCons (sSet 4 (eIf (bTest (eOp gIn (eVar 3) (eTup (aCons (eC (.str "neg")) (aCons (eC (.str "ref")) (aCons (eC (.str "fetch")) (aCons (eC (.str "print")) aNil))))))) (eC (.int 1)) (eC (.int 2))))
    (sRet (eAnd (eOp gEq (eFn FOperands (aCons (eVar 3) aNil)) (eVar 4)) (eAnd (eOp gEq (eFn FOperands (aCons (eOp gAdd (eVar 3) (eC (.str "s"))) aNil)) (eC (.int 0))) (eOp gEq (eFn FOperands (aCons (eC (.str "")) aNil)) (eC (.int 0))))))))))))
noncomputable def FLaw : List W → Sto → Rz W := mkF 1 5 BLaw
end K62

set_option Elab.async false
set_option linter.all false
set_option maxRecDepth 100000
namespace K62
open PySem PySem.Spec PyProof.Rows L2 Mir
theorem okIsNumber {P : Program} {w : World} {K : PySem.W.Frag} {mg : Str → Option Value} {base : Heap} {f : Addr} {fd : FuncData} {k : Nat} (F : Fun K "is_number" "is_number" sIsNumber f fd) (hb : Binds K fd ["value"] []) (hm : mg "is_number" = some (.ref f)) (nb_bool : mg "bool" = none) (nb_int : mg "int" = none) (nb_isinstance : mg "isinstance" = none) : Own P w K mg base (k + 1) "is_number" ["value"] FIsNumber :=
  own_of F scIsNumber hb hm fun cdv A outer s H E hr =>
    (mss_one (ms_ret (m_and (m_isi kit_int rfl nb_isinstance rfl nb_int (by decide +kernel) (m_var 0)) (m_and (m_not (m_isi kit_bool rfl nb_isinstance rfl nb_bool (by decide +kernel) (m_var 0))) (m_one (m_cmp op_ge f_ge (m_var 0) m_int (nomark _)))))))
theorem okIsInteger {P : Program} {w : World} {K : PySem.W.Frag} {mg : Str → Option Value} {base : Heap} {f : Addr} {fd : FuncData} {k : Nat} (F : Fun K "is_integer" "is_integer" sIsInteger f fd) (hb : Binds K fd ["value"] []) (hm : mg "is_integer" = some (.ref f)) (nb_bool : mg "bool" = none) (nb_int : mg "int" = none) (nb_isinstance : mg "isinstance" = none) (c_GREATEST_INTEGER : Cst K mg "GREATEST_INTEGER" (.int 2147483647)) (c_LEAST_INTEGER : Cst K mg "LEAST_INTEGER" (.int (-2147483648))) : Own P w K mg base (k + 1) "is_integer" ["value"] FIsInteger :=
  own_of F scIsInteger hb hm fun cdv A outer s H E hr =>
    (mss_cons (ms_if (PW.pt (mw_or (mt_truth (m_isi kit_bool rfl nb_isinstance rfl nb_bool (by decide +kernel) (m_var 0))) (mw_or1 (mt_not (mt_truth (m_isi kit_int rfl nb_isinstance rfl nb_int (by decide +kernel) (m_var 0))))))) (mss_one (ms_ret m_bl)) mss_nil)
    (mss_one (ms_ret (m_chain op_le op_le f_le f_le (m_glob c_LEAST_INTEGER rfl) (m_var 0) (m_glob c_GREATEST_INTEGER rfl)))))
theorem okOperands {P : Program} {w : World} {K : PySem.W.Frag} {mg : Str → Option Value} {base : Heap} {f : Addr} {fd : FuncData} {k : Nat} (F : Fun K "operands" "operands" sOperands f fd) (hb : Binds K fd ["name"] []) (hm : mg "operands" = some (.ref f)) (c_OPERAND_COUNTS : CDct K w mg "OPERAND_COUNTS" T_OPERAND_COUNTS) : Own P w K mg base (k + 1) "operands" ["name"] FOperands :=
  own_of F scOperands hb hm fun cdv A outer s H E hr =>
    (mss_one (ms_ret (m_cget2 c_OPERAND_COUNTS rfl (m_var 0) m_int ⟨rfl, rfl, rfl, rfl⟩)))
theorem okIsString {P : Program} {w : World} {K : PySem.W.Frag} {mg : Str → Option Value} {base : Heap} {f : Addr} {fd : FuncData} {k : Nat} (F : Fun K "is_string" "is_string" sIsString f fd) (hb : Binds K fd ["value"] []) (hm : mg "is_string" = some (.ref f)) (nb_isinstance : mg "isinstance" = none) (nb_str : mg "str" = none) : Own P w K mg base (k + 1) "is_string" ["value"] FIsString :=
  own_of F scIsString hb hm fun cdv A outer s H E hr =>
    (mss_one (ms_ret (m_isi kit_str rfl nb_isinstance rfl nb_str (by decide +kernel) (m_var 0))))
theorem okIsTruth {P : Program} {w : World} {K : PySem.W.Frag} {mg : Str → Option Value} {base : Heap} {f : Addr} {fd : FuncData} {k : Nat} (F : Fun K "is_truth" "is_truth" sIsTruth f fd) (hb : Binds K fd ["value"] []) (hm : mg "is_truth" = some (.ref f)) (nb_bool : mg "bool" = none) (nb_isinstance : mg "isinstance" = none) : Own P w K mg base (k + 1) "is_truth" ["value"] FIsTruth :=
  own_of F scIsTruth hb hm fun cdv A outer s H E hr =>
    (mss_one (ms_ret (m_isi kit_bool rfl nb_isinstance rfl nb_bool (by decide +kernel) (m_var 0))))
theorem okIsFixed {P : Program} {w : World} {K : PySem.W.Frag} {mg : Str → Option Value} {base : Heap} {f : Addr} {fd : FuncData} {k : Nat} (F : Fun K "is_fixed" "is_fixed" sIsFixed f fd) (hb : Binds K fd ["value"] []) (hm : mg "is_fixed" = some (.ref f)) (OIsNumber : Own P w K mg base k "is_number" ["value"] FIsNumber) : Own P w K mg base (k + 1) "is_fixed" ["value"] FIsFixed :=
  own_of F scIsFixed hb hm fun cdv A outer s H E hr =>
    (mss_one (ms_ret (m_and (m_call OIsNumber hr rfl (ma_cons (m_var 0) ma_nil)) (m_one (m_cmp op_le f_le (m_var 0) m_int (nomark _))))))
theorem okIsIndex {P : Program} {w : World} {K : PySem.W.Frag} {mg : Str → Option Value} {base : Heap} {f : Addr} {fd : FuncData} {k : Nat} (F : Fun K "is_index" "is_index" sIsIndex f fd) (hb : Binds K fd ["value"] []) (hm : mg "is_index" = some (.ref f)) (OIsNumber : Own P w K mg base k "is_number" ["value"] FIsNumber) (c_MAX_INDEX : Cst K mg "MAX_INDEX" (.int 11)) : Own P w K mg base (k + 1) "is_index" ["value"] FIsIndex :=
  own_of F scIsIndex hb hm fun cdv A outer s H E hr =>
    (mss_one (ms_ret (m_and (m_call OIsNumber hr rfl (ma_cons (m_var 0) ma_nil)) (m_one (m_cmp op_le f_le (m_var 0) (m_glob c_MAX_INDEX rfl) (nomark _))))))
theorem okIsLength {P : Program} {w : World} {K : PySem.W.Frag} {mg : Str → Option Value} {base : Heap} {f : Addr} {fd : FuncData} {k : Nat} (F : Fun K "is_length" "is_length" sIsLength f fd) (hb : Binds K fd ["value"] []) (hm : mg "is_length" = some (.ref f)) (OIsNumber : Own P w K mg base k "is_number" ["value"] FIsNumber) (c_TUPLE_LENGTHS : Cst K mg "TUPLE_LENGTHS" (.tup [(.int 0), (.int 2), (.int 3), (.int 4), (.int 5), (.int 6)])) : Own P w K mg base (k + 1) "is_length" ["value"] FIsLength :=
  own_of F scIsLength hb hm fun cdv A outer s H E hr =>
    (mss_one (ms_ret (m_and (m_call OIsNumber hr rfl (ma_cons (m_var 0) ma_nil)) (m_one (m_cmp (op_inA (hu65 hr)) f_in (m_var 0) (m_glob c_TUPLE_LENGTHS rfl) (by with_unfolding_all rfl))))))
theorem okIsLabels {P : Program} {w : World} {K : PySem.W.Frag} {mg : Str → Option Value} {base : Heap} {f : Addr} {fd : FuncData} {k : Nat} (F : Fun K "is_labels" "is_labels" sIsLabels f fd) (hb : Binds K fd ["value"] []) (hm : mg "is_labels" = some (.ref f)) (OIsString : Own P w K mg base k "is_string" ["value"] FIsString) (nb_all : mg "all" = none) (nb_isinstance : mg "isinstance" = none) (nb_len : mg "len" = none) (nb_tuple : mg "tuple" = none) : Own P w K mg base (k + 1) "is_labels" ["value"] FIsLabels :=
  own_of F scIsLabels hb hm fun cdv A outer s H E hr =>
    (mss_cons (ms_if (PW.pt (mw_or (mt_not (mt_truth (m_isi kit_tuple rfl nb_isinstance rfl nb_tuple (by decide +kernel) (m_var 0)))) (mw_or1 (mt_not (mt_truth (m_callB (cr_all rfl) f_all rfl nb_all (by decide +kernel) (ma_cons (m_lc (own := [("label", 1)]) (t := (.name 1)) (u := bYes) (f := (eFn FIsString (aCons (eVar 1) aNil))) (by decide) rfl scIsLabels.nd (mi_seq (m_var 0)) (blkOk_by (own := [("label", 1)]) (N := ["value", "label"]) (sc := defScope sIsLabels) (by decide +kernel)) (fun _ _ _ _ _ => (pg_name (i := 1) scIsLabels.nd rfl (.inl rfl))) (fun _ _ _ _ _ => mts_nil) (fun _ _ _ _ _ => (m_call OIsString hr rfl (ma_cons (m_var 1) ma_nil)))) ma_nil))))))) (mss_one (ms_ret m_bl)) mss_nil)
    (mss_one (ms_ret (m_cmp (op_eqA hr.units) f_eq (m_lsc rfl rfl nb_len (m_var 0) (cl := []) (by rfl) (by decide +kernel) rfl (by decide +kernel) (by decide +kernel) (by decide +kernel)) (m_callB call_lenA f_len rfl nb_len (by decide +kernel) (ma_cons (m_var 0) ma_nil)) (nomark _)))))
theorem okIsOperation {P : Program} {w : World} {K : PySem.W.Frag} {mg : Str → Option Value} {base : Heap} {f : Addr} {fd : FuncData} {k : Nat} (F : Fun K "is_operation" "is_operation" sIsOperation f fd) (hb : Binds K fd ["value"] []) (hm : mg "is_operation" = some (.ref f)) (OIsString : Own P w K mg base k "is_string" ["value"] FIsString) (c_OPERAND_COUNTS : CDct K w mg "OPERAND_COUNTS" T_OPERAND_COUNTS) : Own P w K mg base (k + 1) "is_operation" ["value"] FIsOperation :=
  own_of F scIsOperation hb hm fun cdv A outer s H E hr =>
    (mss_one (ms_ret (m_and (m_call OIsString hr rfl (ma_cons (m_var 0) ma_nil)) (m_one (m_cin c_OPERAND_COUNTS rfl (m_var 0))))))
theorem okIsInstruction {P : Program} {w : World} {K : PySem.W.Frag} {mg : Str → Option Value} {base : Heap} {f : Addr} {fd : FuncData} {k : Nat} (F : Fun K "is_instruction" "is_instruction" sIsInstruction f fd) (hb : Binds K fd ["value"] []) (hm : mg "is_instruction" = some (.ref f)) (OIsString : Own P w K mg base k "is_string" ["value"] FIsString) (AL_FORMS : Alts P w K mg base k Alts_FORMS) (nb_len : mg "len" = none) (nb_zip : mg "zip" = none) (c_FORMS : CDct K w mg "FORMS" T_FORMS) : Own P w K mg base (k + 1) "is_instruction" ["value"] FIsInstruction :=
  own_of F scIsInstruction hb hm fun cdv A outer s H E hr =>
    (mss_cons (ms_if (PW.pt (mw_or (mt_not (mt_truth (m_var 0))) (mw_or (mt_not (mt_truth (m_call OIsString hr rfl (ma_cons (m_ix ix_seq f_ix (m_var 0) m_int (fun _ _ => rfl)) ma_nil)))) (mw_or1 (mt_cnotin c_FORMS rfl (m_ix ix_seq f_ix (m_var 0) m_int (fun _ _ => rfl))))))) (mss_one (ms_ret m_bl)) mss_nil)
    (mss_cons (ms_set (i := 1) scIsInstruction.nd rfl (.inl rfl) (m_cget c_FORMS rfl (m_ix ix_seq f_ix (m_var 0) m_int (fun _ _ => rfl)) (fun _ _ => rfl)))
    (mss_cons (ms_if (mt_cmp (op_neA hr.units) f_ne (m_callB call_lenA f_len rfl nb_len (by decide +kernel) (ma_cons (m_var 0) ma_nil)) (m_op op_addA f_add m_int (m_callB call_lenA f_len rfl nb_len (by decide +kernel) (ma_cons (m_var 1) ma_nil))) (nomark _)) (mss_one (ms_ret m_bl)) mss_nil)
    (mss_cons (ms_for (t := (.tup [(.name 2), (.name 3)])) PassesOwn.never rfl (mi_zip rfl nb_zip (m_var 1) (m_slice sl_any f_sl (m_var 0) (mp_some m_int) mp_none)) (pg_tup rfl (pgs_cons (pg_name (i := 2) scIsInstruction.nd rfl (.inl rfl)) (pgs_cons (pg_name (i := 3) scIsInstruction.nd rfl (.inl rfl)) pgs_nil))) (mss_one (ms_if (mt_not (mt_truth (m_callV (i := 2) AL_FORMS hr rfl (by first | exact Or.inl rfl | exact Or.inr (Or.inl rfl) | exact Or.inr (Or.inr rfl)) (ma_cons (m_var 3) ma_nil)))) (mss_one (ms_ret m_bl)) mss_nil)))
    (mss_one (ms_ret m_bl))))))
theorem okLawMix {P : Program} {w : World} {K : PySem.W.Frag} {mg : Str → Option Value} {base : Heap} {f : Addr} {fd : FuncData} {k : Nat} (F : Fun K "_law_mix" "_law_mix" sLawMix f fd) (hb : Binds K fd ["number"] []) (hm : mg "_law_mix" = some (.ref f)) (nb_int : mg "int" = none) : Own P w K mg base (k + 1) "_law_mix" ["number"] FLawMix :=
  own_of F scLawMix hb hm fun cdv A outer s H E hr =>
    (mss_cons (ms_set (i := 0) scLawMix.nd rfl (.inl rfl) (m_op op_mod f_mod (m_callTy call_int1 f_int1 rfl nb_int (by decide +kernel) (ma_cons (m_op op_addA f_add (m_op op_mulA f_mul (m_var 0) m_int) m_int) ma_nil)) m_int))
    (mss_one (ms_ret (m_op op_mod f_mod (m_callTy call_int1 f_int1 rfl nb_int (by decide +kernel) (ma_cons (m_op op_addA f_add (m_op op_fdivW f_divW (m_op op_mulA f_mul (m_var 0) (m_var 0)) m_int) (m_op op_mulA f_mul (m_var 0) m_int)) ma_nil)) m_int))))
theorem okLawTape {P : Program} {w : World} {K : PySem.W.Frag} {mg : Str → Option Value} {base : Heap} {f : Addr} {fd : FuncData} {k : Nat} (F : Fun K "_law_tape" "_law_tape" sLawTape f fd) (hb : Binds K fd ["script", "budget"] []) (hm : mg "_law_tape" = some (.ref f)) (nb_list : mg "list" = none) : Own P w K mg base (k + 1) "_law_tape" ["script", "budget"] FLawTape :=
  own_of F scLawTape hb hm fun cdv A outer s H E hr =>
    (mss_one (ms_ret (m_lst (ma_cons (m_callTy call_list_of f_list rfl nb_list (by decide +kernel) (ma_cons (m_var 0) ma_nil)) (ma_cons m_int (ma_cons m_int (ma_cons m_int (ma_cons (m_var 1) ma_nil))))))))
theorem okLawTake {P : Program} {w : World} {K : PySem.W.Frag} {mg : Str → Option Value} {base : Heap} {f : Addr} {fd : FuncData} {k : Nat} (F : Fun K "_law_take" "_law_take" sLawTake f fd) (hb : Binds K fd ["tape", "many"] []) (hm : mg "_law_take" = some (.ref f)) (OLawMix : Own P w K mg base k "_law_mix" ["number"] FLawMix) (nb_int : mg "int" = none) (nb_len : mg "len" = none) : Own P w K mg base (k + 1) "_law_take" ["tape", "many"] FLawTake :=
  own_of F scLawTake hb hm fun cdv A outer s H E hr =>
    (mss_cons (ms_if (mt_cmp op_lt f_lt (m_ix ix_seq f_ix (m_var 0) m_int (fun _ _ => rfl)) (m_var 1) (nomark _)) (mss_one (ms_if (mt_cmp op_lt f_lt (m_ix ix_seq f_ix (m_var 0) m_int (fun _ _ => rfl)) (m_callB call_lenA f_len rfl nb_len (by decide +kernel) (ma_cons (m_ix ix_seq f_ix (m_var 0) m_int (fun _ _ => rfl)) ma_nil)) (nomark _)) (mss_cons (ms_set (i := 2) scLawTake.nd rfl (.inl rfl) (m_ix ix_seq f_ix (m_ix ix_seq f_ix (m_var 0) m_int (fun _ _ => rfl)) (m_ix ix_seq f_ix (m_var 0) m_int (fun _ _ => rfl)) (fun _ _ => rfl)))
    (mss_cons (ms_set (i := 2) scLawTake.nd rfl (.inl rfl) (m_if (mt_cmp op_ge f_ge (m_var 2) m_int (nomark _)) (m_op op_mulA f_mul m_int (m_var 2)) (m_op op_sub f_sub (m_op op_mulA f_mul (m_un un_neg f_neg m_int) (m_var 2)) m_int)))
    (mss_cons (ms_put (m_op op_addA f_add (m_ix ix_seq f_ix (m_var 0) m_int (fun _ _ => rfl)) m_int) (m_var 0) m_int)
    (mss_cons (ms_put (m_call OLawMix hr rfl (ma_cons (m_op op_addA f_add (m_ix ix_seq f_ix (m_var 0) m_int (fun _ _ => rfl)) (m_var 2)) ma_nil)) (m_var 0) m_int)
    (mss_one (ms_put (m_if (mt_cmp op_ge f_ge (m_var 2) (m_op op_pow f_pow m_int m_int) (nomark _)) (m_var 2) (m_call OLawMix hr rfl (ma_cons (m_call OLawMix hr rfl (ma_cons (m_var 2) ma_nil)) ma_nil))) (m_var 0) m_int)))))) (mss_cons (ms_put (m_call OLawMix hr rfl (ma_cons (m_op op_addA f_add (m_ix ix_seq f_ix (m_var 0) m_int (fun _ _ => rfl)) m_int) ma_nil)) (m_var 0) m_int)
    (mss_one (ms_put (m_ix ix_seq f_ix (m_var 0) m_int (fun _ _ => rfl)) (m_var 0) m_int))))) mss_nil)
    (mss_cons (ms_set (i := 3) scLawTake.nd rfl (.inl rfl) (m_op op_mod f_mod (m_callTy call_int1 f_int1 rfl nb_int (by decide +kernel) (ma_cons (m_ix ix_seq f_ix (m_var 0) m_int (fun _ _ => rfl)) ma_nil)) (m_var 1)))
    (mss_cons (ms_put (m_op op_fdivW f_divW (m_ix ix_seq f_ix (m_var 0) m_int (fun _ _ => rfl)) (m_var 1)) (m_var 0) m_int)
    (mss_one (ms_ret (m_var 3))))))
theorem okLawOperations {P : Program} {w : World} {K : PySem.W.Frag} {mg : Str → Option Value} {base : Heap} {f : Addr} {fd : FuncData} {k : Nat} (F : Fun K "_law_operations" "_law_operations" sLawOperations f fd) (hb : Binds K fd [] []) (hm : mg "_law_operations" = some (.ref f)) : Own P w K mg base (k + 1) "_law_operations" [] FLawOperations :=
  own_of F scLawOperations hb hm fun cdv A outer s H E hr =>
    (mss_one (ms_ret (m_lst (ma_cons m_str (ma_cons m_str (ma_cons m_str (ma_cons m_str (ma_cons m_str (ma_cons m_str (ma_cons m_str (ma_cons m_str (ma_cons m_str (ma_cons m_str (ma_cons m_str (ma_cons m_str (ma_cons m_str ma_nil))))))))))))))))
theorem okLawInstruction {P : Program} {w : World} {K : PySem.W.Frag} {mg : Str → Option Value} {base : Heap} {f : Addr} {fd : FuncData} {k : Nat} (F : Fun K "_law_instruction" "_law_instruction" sLawInstruction f fd) (hb : Binds K fd ["tape"] []) (hm : mg "_law_instruction" = some (.ref f)) (OLawTake : Own P w K mg base k "_law_take" ["tape", "many"] FLawTake) (OLawOperations : Own P w K mg base k "_law_operations" [] FLawOperations) (nb_len : mg "len" = none) : Own P w K mg base (k + 1) "_law_instruction" ["tape"] FLawInstruction :=
  own_of F scLawInstruction hb hm fun cdv A outer s H E hr =>
    (mss_cons (ms_set (i := 1) scLawInstruction.nd rfl (.inl rfl) (m_call OLawTake hr rfl (ma_cons (m_var 0) (ma_cons m_int ma_nil))))
    (mss_cons (ms_set (i := 2) scLawInstruction.nd rfl (.inl rfl) (m_ix ix_seq f_ix (m_lst (ma_cons m_str (ma_cons m_str (ma_cons m_str (ma_cons m_str ma_nil))))) (m_call OLawTake hr rfl (ma_cons (m_var 0) (ma_cons m_int ma_nil))) (fun _ _ => rfl)))
    (mss_cons (ms_set (i := 3) scLawInstruction.nd rfl (.inl rfl) (m_ix ix_seq f_ix (m_call0 OLawOperations hr rfl) (m_call OLawTake hr rfl (ma_cons (m_var 0) (ma_cons m_int ma_nil))) (fun _ _ => rfl)))
    (mss_cons (ms_set (i := 4) scLawInstruction.nd rfl (.inl rfl) (m_ix ix_seq f_ix (m_lst (ma_cons (m_tup ma_nil) (ma_cons (m_tup (ma_cons m_str ma_nil)) (ma_cons (m_tup (ma_cons m_str (ma_cons m_str ma_nil))) (ma_cons (m_tup (ma_cons m_str (ma_cons m_str (ma_cons m_str ma_nil)))) ma_nil))))) (m_call OLawTake hr rfl (ma_cons (m_var 0) (ma_cons m_int ma_nil))) (fun _ _ => rfl)))
    (mss_cons (ms_set (i := 5) scLawInstruction.nd rfl (.inl rfl) (m_op op_sub f_sub (m_call OLawTake hr rfl (ma_cons (m_var 0) (ma_cons m_int ma_nil))) m_int))
    (mss_cons (ms_set (i := 6) scLawInstruction.nd rfl (.inl rfl) (m_lst (ma_cons (m_tup (ma_cons m_str (ma_cons (m_var 1) ma_nil))) (ma_cons (m_tup (ma_cons m_str (ma_cons (m_var 1) ma_nil))) (ma_cons (m_tup (ma_cons m_str (ma_cons (m_var 1) ma_nil))) (ma_cons (m_tup (ma_cons m_str (ma_cons (m_var 1) ma_nil))) (ma_cons (m_tup (ma_cons m_str (ma_cons (m_var 1) ma_nil))) (ma_cons (m_tup (ma_cons m_str (ma_cons (m_var 1) ma_nil))) (ma_cons (m_tup (ma_cons m_str (ma_cons (m_var 1) ma_nil))) ma_nil)))))))))
    (mss_cons (ms_set (i := 6) scLawInstruction.nd rfl (.inl rfl) (m_op op_addA f_add (m_var 6) (m_lst (ma_cons (m_tup (ma_cons m_str (ma_cons (m_var 1) ma_nil))) (ma_cons (m_tup (ma_cons m_str (ma_cons (m_var 1) ma_nil))) (ma_cons (m_tup (ma_cons m_str (ma_cons (m_var 5) ma_nil))) (ma_cons (m_tup (ma_cons m_str (ma_cons (m_op op_mod f_mod (m_var 1) m_int) ma_nil))) (ma_cons (m_tup (ma_cons m_str (ma_cons (m_ix ix_seq f_ix (m_lst (ma_cons m_int (ma_cons m_int (ma_cons m_int (ma_cons m_int (ma_cons m_int (ma_cons m_int ma_nil))))))) (m_op op_mod f_mod (m_var 1) m_int) (fun _ _ => rfl)) ma_nil))) ma_nil))))))))
    (mss_cons (ms_set (i := 6) scLawInstruction.nd rfl (.inl rfl) (m_op op_addA f_add (m_var 6) (m_lst (ma_cons (m_tup (ma_cons m_str (ma_cons (m_var 4) ma_nil))) (ma_cons (m_tup (ma_cons m_str (ma_cons (m_var 2) ma_nil))) (ma_cons (m_tup (ma_cons m_str (ma_cons (m_var 2) ma_nil))) (ma_cons (m_tup (ma_cons m_str (ma_cons (m_cmp (op_eqA hr.units) f_eq (m_op op_mod f_mod (m_var 1) m_int) m_int (nomark _)) ma_nil))) (ma_cons (m_tup (ma_cons m_str (ma_cons (m_var 3) ma_nil))) ma_nil))))))))
    (mss_cons (ms_set (i := 6) scLawInstruction.nd rfl (.inl rfl) (m_op op_addA f_add (m_var 6) (m_lst (ma_cons (m_tup (ma_cons m_str (ma_cons (m_op op_mod f_mod (m_var 1) m_int) (ma_cons (m_var 2) ma_nil)))) (ma_cons (m_tup (ma_cons m_str (ma_cons (m_op op_mod f_mod (m_var 1) m_int) (ma_cons (m_var 2) ma_nil)))) (ma_cons (m_tup (ma_cons m_str (ma_cons (m_op op_mod f_mod (m_var 1) m_int) (ma_cons (m_var 1) ma_nil)))) (ma_cons (m_tup (ma_cons m_str (ma_cons (m_var 5) (ma_cons (m_var 1) ma_nil)))) ma_nil)))))))
    (mss_cons (ms_set (i := 6) scLawInstruction.nd rfl (.inl rfl) (m_op op_addA f_add (m_var 6) (m_lst (ma_cons (m_tup (ma_cons m_str ma_nil)) (ma_cons (m_tup (ma_cons m_str ma_nil)) (ma_cons (m_tup (ma_cons m_str ma_nil)) (ma_cons (m_tup (ma_cons m_str ma_nil)) (ma_cons (m_tup (ma_cons m_str ma_nil)) (ma_cons (m_tup (ma_cons m_str ma_nil)) (ma_cons (m_tup (ma_cons m_str ma_nil)) ma_nil))))))))))
    (mss_one (ms_ret (m_ix ix_seq f_ix (m_var 6) (m_call OLawTake hr rfl (ma_cons (m_var 0) (ma_cons (m_callB call_lenA f_len rfl nb_len (by decide +kernel) (ma_cons (m_var 6) ma_nil)) ma_nil))) (fun _ _ => rfl))))))))))))))
theorem okLawWrong {P : Program} {w : World} {K : PySem.W.Frag} {mg : Str → Option Value} {base : Heap} {f : Addr} {fd : FuncData} {k : Nat} (F : Fun K "_law_wrong" "_law_wrong" sLawWrong f fd) (hb : Binds K fd ["tape"] []) (hm : mg "_law_wrong" = some (.ref f)) (OLawTake : Own P w K mg base k "_law_take" ["tape", "many"] FLawTake) (nb_len : mg "len" = none) : Own P w K mg base (k + 1) "_law_wrong" ["tape"] FLawWrong :=
  own_of F scLawWrong hb hm fun cdv A outer s H E hr =>
    (mss_cons (ms_set (i := 1) scLawWrong.nd rfl (.inl rfl) (m_op op_addA f_add m_int (m_call OLawTake hr rfl (ma_cons (m_var 0) (ma_cons m_int ma_nil)))))
    (mss_cons (ms_set (i := 2) scLawWrong.nd rfl (.inl rfl) (m_lst (ma_cons (m_tup (ma_cons m_str (ma_cons (m_un un_neg f_neg (m_var 1)) ma_nil))) (ma_cons (m_tup (ma_cons m_str (ma_cons m_str ma_nil))) (ma_cons (m_tup (ma_cons m_str (ma_cons m_str ma_nil))) (ma_cons (m_tup (ma_cons m_str ma_nil)) (ma_cons (m_tup (ma_cons m_str (ma_cons (m_var 1) ma_nil))) (ma_cons (m_tup (ma_cons m_str (ma_cons m_int ma_nil))) (ma_cons (m_tup (ma_cons m_str (ma_cons (m_op op_addA f_add m_int (m_var 1)) ma_nil))) (ma_cons (m_tup (ma_cons m_str (ma_cons m_int ma_nil))) ma_nil))))))))))
    (mss_cons (ms_set (i := 2) scLawWrong.nd rfl (.inl rfl) (m_op op_addA f_add (m_var 2) (m_lst (ma_cons (m_tup (ma_cons m_str (ma_cons (m_tup (ma_cons m_str (ma_cons m_str ma_nil))) ma_nil))) (ma_cons (m_tup (ma_cons m_str (ma_cons (m_tup (ma_cons m_str (ma_cons m_str (ma_cons m_str ma_nil)))) ma_nil))) (ma_cons (m_tup (ma_cons m_str (ma_cons m_str ma_nil))) (ma_cons (m_tup (ma_cons m_str (ma_cons (m_un un_neg f_neg (m_var 1)) ma_nil))) (ma_cons (m_tup (ma_cons m_str (ma_cons (m_var 1) ma_nil))) (ma_cons (m_tup (ma_cons m_str (ma_cons (m_var 1) ma_nil))) ma_nil)))))))))
    (mss_cons (ms_set (i := 2) scLawWrong.nd rfl (.inl rfl) (m_op op_addA f_add (m_var 2) (m_lst (ma_cons (m_tup (ma_cons m_str (ma_cons m_int ma_nil))) (ma_cons (m_tup (ma_cons m_str (ma_cons m_str ma_nil))) (ma_cons (m_tup (ma_cons m_str (ma_cons m_str ma_nil))) (ma_cons (m_tup (ma_cons m_str (ma_cons (m_var 1) ma_nil))) (ma_cons (m_tup (ma_cons m_str (ma_cons m_int (ma_cons m_str ma_nil)))) (ma_cons (m_tup (ma_cons m_str (ma_cons (m_un un_neg f_neg m_int) (ma_cons m_str ma_nil)))) ma_nil)))))))))
    (mss_cons (ms_set (i := 2) scLawWrong.nd rfl (.inl rfl) (m_op op_addA f_add (m_var 2) (m_lst (ma_cons (m_tup (ma_cons m_str (ma_cons (m_op op_mod f_mod (m_var 1) m_int) (ma_cons (m_var 1) ma_nil)))) (ma_cons (m_tup (ma_cons m_str (ma_cons (m_op op_mod f_mod (m_var 1) m_int) ma_nil))) (ma_cons (m_tup (ma_cons m_str (ma_cons m_int (ma_cons (m_var 1) ma_nil)))) (ma_cons (m_tup (ma_cons m_str (ma_cons (m_op op_mod f_mod (m_var 1) m_int) ma_nil))) (ma_cons (m_tup (ma_cons m_str (ma_cons (m_var 1) ma_nil))) ma_nil))))))))
    (mss_cons (ms_set (i := 2) scLawWrong.nd rfl (.inl rfl) (m_op op_addA f_add (m_var 2) (m_lst (ma_cons (m_tup (ma_cons m_str (ma_cons m_int (ma_cons (m_var 1) ma_nil)))) (ma_cons (m_tup (ma_cons m_str (ma_cons (m_un un_neg f_neg m_int) ma_nil))) (ma_cons (m_tup (ma_cons m_str (ma_cons m_str ma_nil))) (ma_cons (m_tup (ma_cons m_str (ma_cons m_str ma_nil))) (ma_cons (m_tup (ma_cons m_str (ma_cons (m_var 1) ma_nil))) (ma_cons (m_tup ma_nil) (ma_cons (m_tup (ma_cons m_str ma_nil)) ma_nil))))))))))
    (mss_cons (ms_set (i := 2) scLawWrong.nd rfl (.inl rfl) (m_op op_addA f_add (m_var 2) (m_lst (ma_cons (m_tup (ma_cons m_str (ma_cons (m_un un_neg f_neg m_int) ma_nil))) (ma_cons (m_tup (ma_cons m_str (ma_cons m_str ma_nil))) (ma_cons (m_tup (ma_cons m_str (ma_cons m_str ma_nil))) (ma_cons (m_tup (ma_cons m_str (ma_cons m_int ma_nil))) (ma_cons (m_tup (ma_cons m_str (ma_cons (m_un un_neg f_neg m_int) ma_nil))) (ma_cons (m_tup (ma_cons m_str (ma_cons (m_un un_neg f_neg (m_var 1)) ma_nil))) (ma_cons (m_tup (ma_cons m_str (ma_cons m_str ma_nil))) ma_nil))))))))))
    (mss_one (ms_ret (m_ix ix_seq f_ix (m_var 2) (m_call OLawTake hr rfl (ma_cons (m_var 0) (ma_cons (m_callB call_lenA f_len rfl nb_len (by decide +kernel) (ma_cons (m_var 2) ma_nil)) ma_nil))) (fun _ _ => rfl)))))))))))
theorem okLaw {P : Program} {w : World} {K : PySem.W.Frag} {mg : Str → Option Value} {base : Heap} {f : Addr} {fd : FuncData} {k : Nat} (F : Fun K "law" "law" sLaw f fd) (OOperands : Own P w K mg base k "operands" ["name"] FOperands) (OLawOperations : Own P w K mg base k "_law_operations" [] FLawOperations) (OLawTake : Own P w K mg base k "_law_take" ["tape", "many"] FLawTake) (OIsInstruction : Own P w K mg base k "is_instruction" ["value"] FIsInstruction) (OLawWrong : Own P w K mg base k "_law_wrong" ["tape"] FLawWrong) (OLawInstruction : Own P w K mg base k "_law_instruction" ["tape"] FLawInstruction) (OLawTape : Own P w K mg base k "_law_tape" ["script", "budget"] FLawTape) : FnOk P w K mg base CX0 (k + 1) f fd ["script"] (spF K 1 FLaw) :=
  fnm_of F scLaw fun cdv A outer s H E hr =>
    (mss_cons (ms_set (i := 1) scLaw.nd rfl (.inl rfl) (m_call OLawTape hr rfl (ma_cons (m_var 0) (ma_cons m_int ma_nil))))
    (mss_cons (ms_set (i := 2) scLaw.nd rfl (.inl rfl) (m_call OLawInstruction hr rfl (ma_cons (m_var 1) ma_nil)))
    (mss_cons (ms_if (PW.pt (mw_or (mt_cmp op_notA f_isNot (m_call OIsInstruction hr rfl (ma_cons (m_var 2) ma_nil)) m_bl (nomark _)) (mw_or1 (mt_cmp op_notA f_isNot (m_call OIsInstruction hr rfl (ma_cons (m_call OLawWrong hr rfl (ma_cons (m_var 1) ma_nil)) ma_nil)) m_bl (nomark _))))) (mss_one (ms_ret m_bl)) mss_nil)
    (mss_cons (ms_if (PW.pt (mw_or (mt_cmp op_notA f_isNot (m_call OIsInstruction hr rfl (ma_cons (m_op op_addA f_add (m_var 2) (m_tup (ma_cons m_str ma_nil))) ma_nil)) m_bl (nomark _)) (mw_or1 (mt_cmp op_notA f_isNot (m_call OIsInstruction hr rfl (ma_cons (m_op op_addA f_add (m_tup (ma_cons (m_op op_addA f_add m_str (m_ix ix_seq f_ix (m_var 2) m_int (fun _ _ => rfl))) ma_nil)) (m_slice sl_any f_sl (m_var 2) (mp_some m_int) mp_none)) ma_nil)) m_bl (nomark _))))) (mss_one (ms_ret m_bl)) mss_nil)
    (mss_cons (ms_set (i := 3) scLaw.nd rfl (.inl rfl) (m_ix ix_seq f_ix (m_call0 OLawOperations hr rfl) (m_call OLawTake hr rfl (ma_cons (m_var 1) (ma_cons m_int ma_nil))) (fun _ _ => rfl)))
    (mss_cons (ms_set (i := 4) scLaw.nd rfl (.inl rfl) (m_if (mt_cmp (op_inA (hu65 hr)) f_in (m_var 3) (m_tup (ma_cons m_str (ma_cons m_str (ma_cons m_str (ma_cons m_str ma_nil))))) (by with_unfolding_all rfl)) m_int m_int))
    (mss_one (ms_ret (m_and (m_cmp (op_eqA hr.units) f_eq (m_call OOperands hr rfl (ma_cons (m_var 3) ma_nil)) (m_var 4) (nomark _)) (m_and (m_cmp (op_eqA hr.units) f_eq (m_call OOperands hr rfl (ma_cons (m_op op_addA f_add (m_var 3) m_str) ma_nil)) m_int (nomark _)) (m_one (m_cmp (op_eqA hr.units) f_eq (m_call OOperands hr rfl (ma_cons m_str ma_nil)) m_int (nomark _)))))))))))))
end K62

set_option Elab.async false
set_option linter.all false
set_option maxRecDepth 100000
namespace K62
open PySem PySem.Spec PyProof.Rows L2 Mir
/-! ### tests of parts -/
def Ts (fn : Str) (w : W) (b : Bool) : Prop := ∃ F, alt Alts_FORMS fn = some F ∧ ∀ (s : Sto) (R : W → Sto → Prop), (∀ s', Mir.Fr [] s s' → R (.bl b) s') → Wp (F [w] s) R
theorem tInt {i : Int} {s : Sto} : tyW (.int i) s = some "int" := rfl
theorem tStr {z : Str} {s : Sto} : tyW (.str z) s = some "str" := rfl
theorem tBl {b : Bool} {s : Sto} : tyW (.bl b) s = some "bool" := rfl
theorem tTup {l : List W} {s : Sto} : tyW (.tup l) s = some "tuple" := rfl
theorem ii1 : isiT "int" "int" = true := by decide
theorem ii2 : isiT "int" "bool" = false := by decide
theorem ii3 : isiT "int" "str" = false := by decide
theorem ii4 : isiT "str" "int" = false := by decide
theorem ii5 : isiT "str" "bool" = false := by decide
theorem ii6 : isiT "str" "str" = true := by decide
theorem ii7 : isiT "bool" "bool" = true := by decide
theorem ii8 : isiT "str" "tuple" = false := by decide
theorem ii9 : isiT "tuple" "tuple" = true := by decide
theorem leI {i j : Int} {s : Sto} : gLe (.int i) (.int j) s = some (.bl (decide (i ≤ j)), s) := rfl
theorem geI {i j : Int} {s : Sto} : gGe (.int i) (.int j) s = some (.bl (decide (j ≤ i)), s) := rfl
section
variable {s : Sto} {R : W → Sto → Prop}
theorem num_int {i : Int} (h : R (.bl (decide (0 ≤ i))) s) : Wp (FIsNumber [.int i] s) R := by
  unfold FIsNumber
  rw [wp_mkF (by rfl)]
  unfold BIsNumber
  repeat first | with_reducible refine Eq.mpr wps_cons ?_ | with_reducible refine Eq.mpr wps_pass ?_ | with_reducible refine Eq.mpr wps_nil ?_ | with_reducible refine Eq.mpr wps_set ?_ | with_reducible refine Eq.mpr wps_do ?_ | with_reducible refine Eq.mpr wps_ret ?_ | with_reducible refine Eq.mpr wps_retN ?_ | with_reducible refine Eq.mpr wps_brk ?_ | with_reducible refine Eq.mpr wps_cnt ?_ | with_reducible refine Eq.mpr wps_if ?_ | with_reducible refine Eq.mpr wps_asg ?_ | with_reducible refine wps_asgL ?_ | with_reducible refine Eq.mpr wps_put ?_ | with_reducible refine Eq.mpr wps_dput ?_ | with_reducible refine Eq.mpr wps_aug ?_ | with_reducible refine Eq.mpr wps_par ?_ | with_reducible refine Eq.mpr wps_for ?_ | with_reducible refine Eq.mpr wps_wh ?_ | with_reducible refine wh_go ?_ | with_reducible refine fo_goN ?_ | with_reducible refine fo_goC ?_ | simp only [wp_tup0, wp_tup1, wp_tup2, wp_tup3, wp_tup4, wp_tup5, wp_tup6, wp_tup7, wp_lst0, wp_lst1, wp_lst2, wp_lst3, wp_lst4, wp_lst5, wp_lst6, wp_lst7, wp_lst8, wp_lst9, wp_lst10, wp_lst11, wp_lst12, wp_bd, wp_lc, ql_nx, ql_ct, ql_bk, ql_rt, iSeq, iEnu, Mir.iRev, chkR, chkT, chkO, lstO, wp_some, wp_ite, wp_none, bd_some, eVar, eC, eOp, eUn, eFn, eMt, aNil, aCons,  eAnd, eOr, eNot, eIf, eIsi, eChain, bTest, bTruth, bAnd, bOr, bNot, bYes, eSl, pNo, pAt, eRinA, eRinB, eDnew, eDin, eDget, eDget2, tgM_name, tgM_tup, tgMs_nil, tgMs_name, tgMs_tup, List.getElem?_cons_succ, List.getElem?_cons_zero, List.set_cons_succ, List.set_cons_zero, List.map_cons, List.map_nil, List.length_cons, List.length_nil, List.replicate, List.nil_append, List.cons_append, if_true, if_false, Bool.false_eq_true, Bool.true_eq_false, Nat.reduceAdd, Nat.reduceSub, Nat.reduceLeDiff, Nat.zero_add, Bool.not_true, Bool.not_false, nc0, nc1, nc2, nc3, not_true_eq_false, not_false_eq_true, ii, addI, subI, negI, int1, eqI, neI, eqS, neS, ix0, ix1, ix2, ix3, decide_eq_true_eq, Bool.not_eq_true', decide_eq_false_iff_not, truB, truN, keyI, keyS, lenT, wipeM, qw_nx, qw_ct, qw_bk, qw_rt, qf_nx, qf_ct, qf_bk, qf_rt, okN, lcf_goN, lcf_goC, lcf_goT, slT1, slT2, List.drop_succ_cons, List.drop_zero, List.take_succ_cons, List.take_zero, true_and, and_true, ofString_inj, String.reduceEq, decide_true, decide_false, Bool.or_self, Bool.or_true, Bool.true_or, Bool.or_false, Bool.false_or, Bool.and_self, Bool.and_true, Bool.true_and, Bool.and_false, Bool.false_and, isN, isnN, Mir.isNon, truB, tInt, ii1, ii2, geI]
  exact h
theorem num_str {z : Str} (h : R (.bl false) s) : Wp (FIsNumber [.str z] s) R := by
  unfold FIsNumber
  rw [wp_mkF (by rfl)]
  unfold BIsNumber
  repeat first | with_reducible refine Eq.mpr wps_cons ?_ | with_reducible refine Eq.mpr wps_pass ?_ | with_reducible refine Eq.mpr wps_nil ?_ | with_reducible refine Eq.mpr wps_set ?_ | with_reducible refine Eq.mpr wps_do ?_ | with_reducible refine Eq.mpr wps_ret ?_ | with_reducible refine Eq.mpr wps_retN ?_ | with_reducible refine Eq.mpr wps_brk ?_ | with_reducible refine Eq.mpr wps_cnt ?_ | with_reducible refine Eq.mpr wps_if ?_ | with_reducible refine Eq.mpr wps_asg ?_ | with_reducible refine wps_asgL ?_ | with_reducible refine Eq.mpr wps_put ?_ | with_reducible refine Eq.mpr wps_dput ?_ | with_reducible refine Eq.mpr wps_aug ?_ | with_reducible refine Eq.mpr wps_par ?_ | with_reducible refine Eq.mpr wps_for ?_ | with_reducible refine Eq.mpr wps_wh ?_ | with_reducible refine wh_go ?_ | with_reducible refine fo_goN ?_ | with_reducible refine fo_goC ?_ | simp only [wp_tup0, wp_tup1, wp_tup2, wp_tup3, wp_tup4, wp_tup5, wp_tup6, wp_tup7, wp_lst0, wp_lst1, wp_lst2, wp_lst3, wp_lst4, wp_lst5, wp_lst6, wp_lst7, wp_lst8, wp_lst9, wp_lst10, wp_lst11, wp_lst12, wp_bd, wp_lc, ql_nx, ql_ct, ql_bk, ql_rt, iSeq, iEnu, Mir.iRev, chkR, chkT, chkO, lstO, wp_some, wp_ite, wp_none, bd_some, eVar, eC, eOp, eUn, eFn, eMt, aNil, aCons,  eAnd, eOr, eNot, eIf, eIsi, eChain, bTest, bTruth, bAnd, bOr, bNot, bYes, eSl, pNo, pAt, eRinA, eRinB, eDnew, eDin, eDget, eDget2, tgM_name, tgM_tup, tgMs_nil, tgMs_name, tgMs_tup, List.getElem?_cons_succ, List.getElem?_cons_zero, List.set_cons_succ, List.set_cons_zero, List.map_cons, List.map_nil, List.length_cons, List.length_nil, List.replicate, List.nil_append, List.cons_append, if_true, if_false, Bool.false_eq_true, Bool.true_eq_false, Nat.reduceAdd, Nat.reduceSub, Nat.reduceLeDiff, Nat.zero_add, Bool.not_true, Bool.not_false, nc0, nc1, nc2, nc3, not_true_eq_false, not_false_eq_true, ii, addI, subI, negI, int1, eqI, neI, eqS, neS, ix0, ix1, ix2, ix3, decide_eq_true_eq, Bool.not_eq_true', decide_eq_false_iff_not, truB, truN, keyI, keyS, lenT, wipeM, qw_nx, qw_ct, qw_bk, qw_rt, qf_nx, qf_ct, qf_bk, qf_rt, okN, lcf_goN, lcf_goC, lcf_goT, slT1, slT2, List.drop_succ_cons, List.drop_zero, List.take_succ_cons, List.take_zero, true_and, and_true, ofString_inj, String.reduceEq, decide_true, decide_false, Bool.or_self, Bool.or_true, Bool.true_or, Bool.or_false, Bool.false_or, Bool.and_self, Bool.and_true, Bool.true_and, Bool.and_false, Bool.false_and, isN, isnN, Mir.isNon, truB, tStr, ii4]
  exact h
theorem str_str {z : Str} (h : R (.bl true) s) : Wp (FIsString [.str z] s) R := by
  unfold FIsString
  rw [wp_mkF (by rfl)]
  unfold BIsString
  repeat first | with_reducible refine Eq.mpr wps_cons ?_ | with_reducible refine Eq.mpr wps_pass ?_ | with_reducible refine Eq.mpr wps_nil ?_ | with_reducible refine Eq.mpr wps_set ?_ | with_reducible refine Eq.mpr wps_do ?_ | with_reducible refine Eq.mpr wps_ret ?_ | with_reducible refine Eq.mpr wps_retN ?_ | with_reducible refine Eq.mpr wps_brk ?_ | with_reducible refine Eq.mpr wps_cnt ?_ | with_reducible refine Eq.mpr wps_if ?_ | with_reducible refine Eq.mpr wps_asg ?_ | with_reducible refine wps_asgL ?_ | with_reducible refine Eq.mpr wps_put ?_ | with_reducible refine Eq.mpr wps_dput ?_ | with_reducible refine Eq.mpr wps_aug ?_ | with_reducible refine Eq.mpr wps_par ?_ | with_reducible refine Eq.mpr wps_for ?_ | with_reducible refine Eq.mpr wps_wh ?_ | with_reducible refine wh_go ?_ | with_reducible refine fo_goN ?_ | with_reducible refine fo_goC ?_ | simp only [wp_tup0, wp_tup1, wp_tup2, wp_tup3, wp_tup4, wp_tup5, wp_tup6, wp_tup7, wp_lst0, wp_lst1, wp_lst2, wp_lst3, wp_lst4, wp_lst5, wp_lst6, wp_lst7, wp_lst8, wp_lst9, wp_lst10, wp_lst11, wp_lst12, wp_bd, wp_lc, ql_nx, ql_ct, ql_bk, ql_rt, iSeq, iEnu, Mir.iRev, chkR, chkT, chkO, lstO, wp_some, wp_ite, wp_none, bd_some, eVar, eC, eOp, eUn, eFn, eMt, aNil, aCons,  eAnd, eOr, eNot, eIf, eIsi, eChain, bTest, bTruth, bAnd, bOr, bNot, bYes, eSl, pNo, pAt, eRinA, eRinB, eDnew, eDin, eDget, eDget2, tgM_name, tgM_tup, tgMs_nil, tgMs_name, tgMs_tup, List.getElem?_cons_succ, List.getElem?_cons_zero, List.set_cons_succ, List.set_cons_zero, List.map_cons, List.map_nil, List.length_cons, List.length_nil, List.replicate, List.nil_append, List.cons_append, if_true, if_false, Bool.false_eq_true, Bool.true_eq_false, Nat.reduceAdd, Nat.reduceSub, Nat.reduceLeDiff, Nat.zero_add, Bool.not_true, Bool.not_false, nc0, nc1, nc2, nc3, not_true_eq_false, not_false_eq_true, ii, addI, subI, negI, int1, eqI, neI, eqS, neS, ix0, ix1, ix2, ix3, decide_eq_true_eq, Bool.not_eq_true', decide_eq_false_iff_not, truB, truN, keyI, keyS, lenT, wipeM, qw_nx, qw_ct, qw_bk, qw_rt, qf_nx, qf_ct, qf_bk, qf_rt, okN, lcf_goN, lcf_goC, lcf_goT, slT1, slT2, List.drop_succ_cons, List.drop_zero, List.take_succ_cons, List.take_zero, true_and, and_true, ofString_inj, String.reduceEq, decide_true, decide_false, Bool.or_self, Bool.or_true, Bool.true_or, Bool.or_false, Bool.false_or, Bool.and_self, Bool.and_true, Bool.true_and, Bool.and_false, Bool.false_and, isN, isnN, Mir.isNon, truB, tStr, ii6]
  exact h
theorem str_int {z : Int} (h : R (.bl false) s) : Wp (FIsString [.int z] s) R := by
  unfold FIsString
  rw [wp_mkF (by rfl)]
  unfold BIsString
  repeat first | with_reducible refine Eq.mpr wps_cons ?_ | with_reducible refine Eq.mpr wps_pass ?_ | with_reducible refine Eq.mpr wps_nil ?_ | with_reducible refine Eq.mpr wps_set ?_ | with_reducible refine Eq.mpr wps_do ?_ | with_reducible refine Eq.mpr wps_ret ?_ | with_reducible refine Eq.mpr wps_retN ?_ | with_reducible refine Eq.mpr wps_brk ?_ | with_reducible refine Eq.mpr wps_cnt ?_ | with_reducible refine Eq.mpr wps_if ?_ | with_reducible refine Eq.mpr wps_asg ?_ | with_reducible refine wps_asgL ?_ | with_reducible refine Eq.mpr wps_put ?_ | with_reducible refine Eq.mpr wps_dput ?_ | with_reducible refine Eq.mpr wps_aug ?_ | with_reducible refine Eq.mpr wps_par ?_ | with_reducible refine Eq.mpr wps_for ?_ | with_reducible refine Eq.mpr wps_wh ?_ | with_reducible refine wh_go ?_ | with_reducible refine fo_goN ?_ | with_reducible refine fo_goC ?_ | simp only [wp_tup0, wp_tup1, wp_tup2, wp_tup3, wp_tup4, wp_tup5, wp_tup6, wp_tup7, wp_lst0, wp_lst1, wp_lst2, wp_lst3, wp_lst4, wp_lst5, wp_lst6, wp_lst7, wp_lst8, wp_lst9, wp_lst10, wp_lst11, wp_lst12, wp_bd, wp_lc, ql_nx, ql_ct, ql_bk, ql_rt, iSeq, iEnu, Mir.iRev, chkR, chkT, chkO, lstO, wp_some, wp_ite, wp_none, bd_some, eVar, eC, eOp, eUn, eFn, eMt, aNil, aCons,  eAnd, eOr, eNot, eIf, eIsi, eChain, bTest, bTruth, bAnd, bOr, bNot, bYes, eSl, pNo, pAt, eRinA, eRinB, eDnew, eDin, eDget, eDget2, tgM_name, tgM_tup, tgMs_nil, tgMs_name, tgMs_tup, List.getElem?_cons_succ, List.getElem?_cons_zero, List.set_cons_succ, List.set_cons_zero, List.map_cons, List.map_nil, List.length_cons, List.length_nil, List.replicate, List.nil_append, List.cons_append, if_true, if_false, Bool.false_eq_true, Bool.true_eq_false, Nat.reduceAdd, Nat.reduceSub, Nat.reduceLeDiff, Nat.zero_add, Bool.not_true, Bool.not_false, nc0, nc1, nc2, nc3, not_true_eq_false, not_false_eq_true, ii, addI, subI, negI, int1, eqI, neI, eqS, neS, ix0, ix1, ix2, ix3, decide_eq_true_eq, Bool.not_eq_true', decide_eq_false_iff_not, truB, truN, keyI, keyS, lenT, wipeM, qw_nx, qw_ct, qw_bk, qw_rt, qf_nx, qf_ct, qf_bk, qf_rt, okN, lcf_goN, lcf_goC, lcf_goT, slT1, slT2, List.drop_succ_cons, List.drop_zero, List.take_succ_cons, List.take_zero, true_and, and_true, ofString_inj, String.reduceEq, decide_true, decide_false, Bool.or_self, Bool.or_true, Bool.true_or, Bool.or_false, Bool.false_or, Bool.and_self, Bool.and_true, Bool.true_and, Bool.and_false, Bool.false_and, isN, isnN, Mir.isNon, truB, tInt, ii3]
  exact h
end
theorem t_num {i : Int} : Ts "is_number" (.int i) (decide (0 ≤ i)) := ⟨FIsNumber, rfl, fun s R h => num_int (h _ Fr.refl)⟩
theorem t_numS {z : Str} : Ts "is_number" (.str z) false := ⟨FIsNumber, rfl, fun s R h => num_str (h _ Fr.refl)⟩
theorem t_str {z : Str} : Ts "is_string" (.str z) true := ⟨FIsString, rfl, fun s R h => str_str (h _ Fr.refl)⟩
theorem t_strI {i : Int} : Ts "is_string" (.int i) false := ⟨FIsString, rfl, fun s R h => str_int (h _ Fr.refl)⟩
theorem t_int {i : Int} : Ts "is_integer" (.int i) (decide (-2147483648 ≤ i) && decide (i ≤ 2147483647)) := ⟨FIsInteger, rfl, fun s R h => by
  unfold FIsInteger
  rw [wp_mkF (by rfl)]
  unfold BIsInteger
  by_cases c : -2147483648 ≤ i
  · repeat first | with_reducible refine Eq.mpr wps_cons ?_ | with_reducible refine Eq.mpr wps_pass ?_ | with_reducible refine Eq.mpr wps_nil ?_ | with_reducible refine Eq.mpr wps_set ?_ | with_reducible refine Eq.mpr wps_do ?_ | with_reducible refine Eq.mpr wps_ret ?_ | with_reducible refine Eq.mpr wps_retN ?_ | with_reducible refine Eq.mpr wps_brk ?_ | with_reducible refine Eq.mpr wps_cnt ?_ | with_reducible refine Eq.mpr wps_if ?_ | with_reducible refine Eq.mpr wps_asg ?_ | with_reducible refine wps_asgL ?_ | with_reducible refine Eq.mpr wps_put ?_ | with_reducible refine Eq.mpr wps_dput ?_ | with_reducible refine Eq.mpr wps_aug ?_ | with_reducible refine Eq.mpr wps_par ?_ | with_reducible refine Eq.mpr wps_for ?_ | with_reducible refine Eq.mpr wps_wh ?_ | with_reducible refine wh_go ?_ | with_reducible refine fo_goN ?_ | with_reducible refine fo_goC ?_ | simp only [wp_tup0, wp_tup1, wp_tup2, wp_tup3, wp_tup4, wp_tup5, wp_tup6, wp_tup7, wp_lst0, wp_lst1, wp_lst2, wp_lst3, wp_lst4, wp_lst5, wp_lst6, wp_lst7, wp_lst8, wp_lst9, wp_lst10, wp_lst11, wp_lst12, wp_bd, wp_lc, ql_nx, ql_ct, ql_bk, ql_rt, iSeq, iEnu, Mir.iRev, chkR, chkT, chkO, lstO, wp_some, wp_ite, wp_none, bd_some, eVar, eC, eOp, eUn, eFn, eMt, aNil, aCons,  eAnd, eOr, eNot, eIf, eIsi, eChain, bTest, bTruth, bAnd, bOr, bNot, bYes, eSl, pNo, pAt, eRinA, eRinB, eDnew, eDin, eDget, eDget2, tgM_name, tgM_tup, tgMs_nil, tgMs_name, tgMs_tup, List.getElem?_cons_succ, List.getElem?_cons_zero, List.set_cons_succ, List.set_cons_zero, List.map_cons, List.map_nil, List.length_cons, List.length_nil, List.replicate, List.nil_append, List.cons_append, if_true, if_false, Bool.false_eq_true, Bool.true_eq_false, Nat.reduceAdd, Nat.reduceSub, Nat.reduceLeDiff, Nat.zero_add, Bool.not_true, Bool.not_false, nc0, nc1, nc2, nc3, not_true_eq_false, not_false_eq_true, ii, addI, subI, negI, int1, eqI, neI, eqS, neS, ix0, ix1, ix2, ix3, decide_eq_true_eq, Bool.not_eq_true', decide_eq_false_iff_not, truB, truN, keyI, keyS, lenT, wipeM, qw_nx, qw_ct, qw_bk, qw_rt, qf_nx, qf_ct, qf_bk, qf_rt, okN, lcf_goN, lcf_goC, lcf_goT, slT1, slT2, List.drop_succ_cons, List.drop_zero, List.take_succ_cons, List.take_zero, true_and, and_true, ofString_inj, String.reduceEq, decide_true, decide_false, Bool.or_self, Bool.or_true, Bool.true_or, Bool.or_false, Bool.false_or, Bool.and_self, Bool.and_true, Bool.true_and, Bool.and_false, Bool.false_and, isN, isnN, Mir.isNon, truB, tInt, ii1, ii2, leI, c]
    simpa [c] using h s Fr.refl
  · repeat first | with_reducible refine Eq.mpr wps_cons ?_ | with_reducible refine Eq.mpr wps_pass ?_ | with_reducible refine Eq.mpr wps_nil ?_ | with_reducible refine Eq.mpr wps_set ?_ | with_reducible refine Eq.mpr wps_do ?_ | with_reducible refine Eq.mpr wps_ret ?_ | with_reducible refine Eq.mpr wps_retN ?_ | with_reducible refine Eq.mpr wps_brk ?_ | with_reducible refine Eq.mpr wps_cnt ?_ | with_reducible refine Eq.mpr wps_if ?_ | with_reducible refine Eq.mpr wps_asg ?_ | with_reducible refine wps_asgL ?_ | with_reducible refine Eq.mpr wps_put ?_ | with_reducible refine Eq.mpr wps_dput ?_ | with_reducible refine Eq.mpr wps_aug ?_ | with_reducible refine Eq.mpr wps_par ?_ | with_reducible refine Eq.mpr wps_for ?_ | with_reducible refine Eq.mpr wps_wh ?_ | with_reducible refine wh_go ?_ | with_reducible refine fo_goN ?_ | with_reducible refine fo_goC ?_ | simp only [wp_tup0, wp_tup1, wp_tup2, wp_tup3, wp_tup4, wp_tup5, wp_tup6, wp_tup7, wp_lst0, wp_lst1, wp_lst2, wp_lst3, wp_lst4, wp_lst5, wp_lst6, wp_lst7, wp_lst8, wp_lst9, wp_lst10, wp_lst11, wp_lst12, wp_bd, wp_lc, ql_nx, ql_ct, ql_bk, ql_rt, iSeq, iEnu, Mir.iRev, chkR, chkT, chkO, lstO, wp_some, wp_ite, wp_none, bd_some, eVar, eC, eOp, eUn, eFn, eMt, aNil, aCons,  eAnd, eOr, eNot, eIf, eIsi, eChain, bTest, bTruth, bAnd, bOr, bNot, bYes, eSl, pNo, pAt, eRinA, eRinB, eDnew, eDin, eDget, eDget2, tgM_name, tgM_tup, tgMs_nil, tgMs_name, tgMs_tup, List.getElem?_cons_succ, List.getElem?_cons_zero, List.set_cons_succ, List.set_cons_zero, List.map_cons, List.map_nil, List.length_cons, List.length_nil, List.replicate, List.nil_append, List.cons_append, if_true, if_false, Bool.false_eq_true, Bool.true_eq_false, Nat.reduceAdd, Nat.reduceSub, Nat.reduceLeDiff, Nat.zero_add, Bool.not_true, Bool.not_false, nc0, nc1, nc2, nc3, not_true_eq_false, not_false_eq_true, ii, addI, subI, negI, int1, eqI, neI, eqS, neS, ix0, ix1, ix2, ix3, decide_eq_true_eq, Bool.not_eq_true', decide_eq_false_iff_not, truB, truN, keyI, keyS, lenT, wipeM, qw_nx, qw_ct, qw_bk, qw_rt, qf_nx, qf_ct, qf_bk, qf_rt, okN, lcf_goN, lcf_goC, lcf_goT, slT1, slT2, List.drop_succ_cons, List.drop_zero, List.take_succ_cons, List.take_zero, true_and, and_true, ofString_inj, String.reduceEq, decide_true, decide_false, Bool.or_self, Bool.or_true, Bool.true_or, Bool.or_false, Bool.false_or, Bool.and_self, Bool.and_true, Bool.true_and, Bool.and_false, Bool.false_and, isN, isnN, Mir.isNon, truB, tInt, ii1, ii2, leI, c]
    simpa [c] using h s Fr.refl⟩
theorem t_intS {z : Str} : Ts "is_integer" (.str z) false := ⟨FIsInteger, rfl, fun s R h => by
  unfold FIsInteger
  rw [wp_mkF (by rfl)]
  unfold BIsInteger
  repeat first | with_reducible refine Eq.mpr wps_cons ?_ | with_reducible refine Eq.mpr wps_pass ?_ | with_reducible refine Eq.mpr wps_nil ?_ | with_reducible refine Eq.mpr wps_set ?_ | with_reducible refine Eq.mpr wps_do ?_ | with_reducible refine Eq.mpr wps_ret ?_ | with_reducible refine Eq.mpr wps_retN ?_ | with_reducible refine Eq.mpr wps_brk ?_ | with_reducible refine Eq.mpr wps_cnt ?_ | with_reducible refine Eq.mpr wps_if ?_ | with_reducible refine Eq.mpr wps_asg ?_ | with_reducible refine wps_asgL ?_ | with_reducible refine Eq.mpr wps_put ?_ | with_reducible refine Eq.mpr wps_dput ?_ | with_reducible refine Eq.mpr wps_aug ?_ | with_reducible refine Eq.mpr wps_par ?_ | with_reducible refine Eq.mpr wps_for ?_ | with_reducible refine Eq.mpr wps_wh ?_ | with_reducible refine wh_go ?_ | with_reducible refine fo_goN ?_ | with_reducible refine fo_goC ?_ | simp only [wp_tup0, wp_tup1, wp_tup2, wp_tup3, wp_tup4, wp_tup5, wp_tup6, wp_tup7, wp_lst0, wp_lst1, wp_lst2, wp_lst3, wp_lst4, wp_lst5, wp_lst6, wp_lst7, wp_lst8, wp_lst9, wp_lst10, wp_lst11, wp_lst12, wp_bd, wp_lc, ql_nx, ql_ct, ql_bk, ql_rt, iSeq, iEnu, Mir.iRev, chkR, chkT, chkO, lstO, wp_some, wp_ite, wp_none, bd_some, eVar, eC, eOp, eUn, eFn, eMt, aNil, aCons,  eAnd, eOr, eNot, eIf, eIsi, eChain, bTest, bTruth, bAnd, bOr, bNot, bYes, eSl, pNo, pAt, eRinA, eRinB, eDnew, eDin, eDget, eDget2, tgM_name, tgM_tup, tgMs_nil, tgMs_name, tgMs_tup, List.getElem?_cons_succ, List.getElem?_cons_zero, List.set_cons_succ, List.set_cons_zero, List.map_cons, List.map_nil, List.length_cons, List.length_nil, List.replicate, List.nil_append, List.cons_append, if_true, if_false, Bool.false_eq_true, Bool.true_eq_false, Nat.reduceAdd, Nat.reduceSub, Nat.reduceLeDiff, Nat.zero_add, Bool.not_true, Bool.not_false, nc0, nc1, nc2, nc3, not_true_eq_false, not_false_eq_true, ii, addI, subI, negI, int1, eqI, neI, eqS, neS, ix0, ix1, ix2, ix3, decide_eq_true_eq, Bool.not_eq_true', decide_eq_false_iff_not, truB, truN, keyI, keyS, lenT, wipeM, qw_nx, qw_ct, qw_bk, qw_rt, qf_nx, qf_ct, qf_bk, qf_rt, okN, lcf_goN, lcf_goC, lcf_goT, slT1, slT2, List.drop_succ_cons, List.drop_zero, List.take_succ_cons, List.take_zero, true_and, and_true, ofString_inj, String.reduceEq, decide_true, decide_false, Bool.or_self, Bool.or_true, Bool.true_or, Bool.or_false, Bool.false_or, Bool.and_self, Bool.and_true, Bool.true_and, Bool.and_false, Bool.false_and, isN, isnN, Mir.isNon, truB, tStr, ii4, ii5]
  exact h _ Fr.refl⟩
theorem t_truth {b : Bool} : Ts "is_truth" (.bl b) true := ⟨FIsTruth, rfl, fun s R h => by
  unfold FIsTruth
  rw [wp_mkF (by rfl)]
  unfold BIsTruth
  repeat first | with_reducible refine Eq.mpr wps_cons ?_ | with_reducible refine Eq.mpr wps_pass ?_ | with_reducible refine Eq.mpr wps_nil ?_ | with_reducible refine Eq.mpr wps_set ?_ | with_reducible refine Eq.mpr wps_do ?_ | with_reducible refine Eq.mpr wps_ret ?_ | with_reducible refine Eq.mpr wps_retN ?_ | with_reducible refine Eq.mpr wps_brk ?_ | with_reducible refine Eq.mpr wps_cnt ?_ | with_reducible refine Eq.mpr wps_if ?_ | with_reducible refine Eq.mpr wps_asg ?_ | with_reducible refine wps_asgL ?_ | with_reducible refine Eq.mpr wps_put ?_ | with_reducible refine Eq.mpr wps_dput ?_ | with_reducible refine Eq.mpr wps_aug ?_ | with_reducible refine Eq.mpr wps_par ?_ | with_reducible refine Eq.mpr wps_for ?_ | with_reducible refine Eq.mpr wps_wh ?_ | with_reducible refine wh_go ?_ | with_reducible refine fo_goN ?_ | with_reducible refine fo_goC ?_ | simp only [wp_tup0, wp_tup1, wp_tup2, wp_tup3, wp_tup4, wp_tup5, wp_tup6, wp_tup7, wp_lst0, wp_lst1, wp_lst2, wp_lst3, wp_lst4, wp_lst5, wp_lst6, wp_lst7, wp_lst8, wp_lst9, wp_lst10, wp_lst11, wp_lst12, wp_bd, wp_lc, ql_nx, ql_ct, ql_bk, ql_rt, iSeq, iEnu, Mir.iRev, chkR, chkT, chkO, lstO, wp_some, wp_ite, wp_none, bd_some, eVar, eC, eOp, eUn, eFn, eMt, aNil, aCons,  eAnd, eOr, eNot, eIf, eIsi, eChain, bTest, bTruth, bAnd, bOr, bNot, bYes, eSl, pNo, pAt, eRinA, eRinB, eDnew, eDin, eDget, eDget2, tgM_name, tgM_tup, tgMs_nil, tgMs_name, tgMs_tup, List.getElem?_cons_succ, List.getElem?_cons_zero, List.set_cons_succ, List.set_cons_zero, List.map_cons, List.map_nil, List.length_cons, List.length_nil, List.replicate, List.nil_append, List.cons_append, if_true, if_false, Bool.false_eq_true, Bool.true_eq_false, Nat.reduceAdd, Nat.reduceSub, Nat.reduceLeDiff, Nat.zero_add, Bool.not_true, Bool.not_false, nc0, nc1, nc2, nc3, not_true_eq_false, not_false_eq_true, ii, addI, subI, negI, int1, eqI, neI, eqS, neS, ix0, ix1, ix2, ix3, decide_eq_true_eq, Bool.not_eq_true', decide_eq_false_iff_not, truB, truN, keyI, keyS, lenT, wipeM, qw_nx, qw_ct, qw_bk, qw_rt, qf_nx, qf_ct, qf_bk, qf_rt, okN, lcf_goN, lcf_goC, lcf_goT, slT1, slT2, List.drop_succ_cons, List.drop_zero, List.take_succ_cons, List.take_zero, true_and, and_true, ofString_inj, String.reduceEq, decide_true, decide_false, Bool.or_self, Bool.or_true, Bool.true_or, Bool.or_false, Bool.false_or, Bool.and_self, Bool.and_true, Bool.true_and, Bool.and_false, Bool.false_and, isN, isnN, Mir.isNon, truB, tBl, ii7]
  exact h _ Fr.refl⟩
theorem t_truthI {i : Int} : Ts "is_truth" (.int i) false := ⟨FIsTruth, rfl, fun s R h => by
  unfold FIsTruth
  rw [wp_mkF (by rfl)]
  unfold BIsTruth
  repeat first | with_reducible refine Eq.mpr wps_cons ?_ | with_reducible refine Eq.mpr wps_pass ?_ | with_reducible refine Eq.mpr wps_nil ?_ | with_reducible refine Eq.mpr wps_set ?_ | with_reducible refine Eq.mpr wps_do ?_ | with_reducible refine Eq.mpr wps_ret ?_ | with_reducible refine Eq.mpr wps_retN ?_ | with_reducible refine Eq.mpr wps_brk ?_ | with_reducible refine Eq.mpr wps_cnt ?_ | with_reducible refine Eq.mpr wps_if ?_ | with_reducible refine Eq.mpr wps_asg ?_ | with_reducible refine wps_asgL ?_ | with_reducible refine Eq.mpr wps_put ?_ | with_reducible refine Eq.mpr wps_dput ?_ | with_reducible refine Eq.mpr wps_aug ?_ | with_reducible refine Eq.mpr wps_par ?_ | with_reducible refine Eq.mpr wps_for ?_ | with_reducible refine Eq.mpr wps_wh ?_ | with_reducible refine wh_go ?_ | with_reducible refine fo_goN ?_ | with_reducible refine fo_goC ?_ | simp only [wp_tup0, wp_tup1, wp_tup2, wp_tup3, wp_tup4, wp_tup5, wp_tup6, wp_tup7, wp_lst0, wp_lst1, wp_lst2, wp_lst3, wp_lst4, wp_lst5, wp_lst6, wp_lst7, wp_lst8, wp_lst9, wp_lst10, wp_lst11, wp_lst12, wp_bd, wp_lc, ql_nx, ql_ct, ql_bk, ql_rt, iSeq, iEnu, Mir.iRev, chkR, chkT, chkO, lstO, wp_some, wp_ite, wp_none, bd_some, eVar, eC, eOp, eUn, eFn, eMt, aNil, aCons,  eAnd, eOr, eNot, eIf, eIsi, eChain, bTest, bTruth, bAnd, bOr, bNot, bYes, eSl, pNo, pAt, eRinA, eRinB, eDnew, eDin, eDget, eDget2, tgM_name, tgM_tup, tgMs_nil, tgMs_name, tgMs_tup, List.getElem?_cons_succ, List.getElem?_cons_zero, List.set_cons_succ, List.set_cons_zero, List.map_cons, List.map_nil, List.length_cons, List.length_nil, List.replicate, List.nil_append, List.cons_append, if_true, if_false, Bool.false_eq_true, Bool.true_eq_false, Nat.reduceAdd, Nat.reduceSub, Nat.reduceLeDiff, Nat.zero_add, Bool.not_true, Bool.not_false, nc0, nc1, nc2, nc3, not_true_eq_false, not_false_eq_true, ii, addI, subI, negI, int1, eqI, neI, eqS, neS, ix0, ix1, ix2, ix3, decide_eq_true_eq, Bool.not_eq_true', decide_eq_false_iff_not, truB, truN, keyI, keyS, lenT, wipeM, qw_nx, qw_ct, qw_bk, qw_rt, qf_nx, qf_ct, qf_bk, qf_rt, okN, lcf_goN, lcf_goC, lcf_goT, slT1, slT2, List.drop_succ_cons, List.drop_zero, List.take_succ_cons, List.take_zero, true_and, and_true, ofString_inj, String.reduceEq, decide_true, decide_false, Bool.or_self, Bool.or_true, Bool.true_or, Bool.or_false, Bool.false_or, Bool.and_self, Bool.and_true, Bool.true_and, Bool.and_false, Bool.false_and, isN, isnN, Mir.isNon, truB, tInt, ii2]
  exact h _ Fr.refl⟩
theorem t_truthS {z : Str} : Ts "is_truth" (.str z) false := ⟨FIsTruth, rfl, fun s R h => by
  unfold FIsTruth
  rw [wp_mkF (by rfl)]
  unfold BIsTruth
  repeat first | with_reducible refine Eq.mpr wps_cons ?_ | with_reducible refine Eq.mpr wps_pass ?_ | with_reducible refine Eq.mpr wps_nil ?_ | with_reducible refine Eq.mpr wps_set ?_ | with_reducible refine Eq.mpr wps_do ?_ | with_reducible refine Eq.mpr wps_ret ?_ | with_reducible refine Eq.mpr wps_retN ?_ | with_reducible refine Eq.mpr wps_brk ?_ | with_reducible refine Eq.mpr wps_cnt ?_ | with_reducible refine Eq.mpr wps_if ?_ | with_reducible refine Eq.mpr wps_asg ?_ | with_reducible refine wps_asgL ?_ | with_reducible refine Eq.mpr wps_put ?_ | with_reducible refine Eq.mpr wps_dput ?_ | with_reducible refine Eq.mpr wps_aug ?_ | with_reducible refine Eq.mpr wps_par ?_ | with_reducible refine Eq.mpr wps_for ?_ | with_reducible refine Eq.mpr wps_wh ?_ | with_reducible refine wh_go ?_ | with_reducible refine fo_goN ?_ | with_reducible refine fo_goC ?_ | simp only [wp_tup0, wp_tup1, wp_tup2, wp_tup3, wp_tup4, wp_tup5, wp_tup6, wp_tup7, wp_lst0, wp_lst1, wp_lst2, wp_lst3, wp_lst4, wp_lst5, wp_lst6, wp_lst7, wp_lst8, wp_lst9, wp_lst10, wp_lst11, wp_lst12, wp_bd, wp_lc, ql_nx, ql_ct, ql_bk, ql_rt, iSeq, iEnu, Mir.iRev, chkR, chkT, chkO, lstO, wp_some, wp_ite, wp_none, bd_some, eVar, eC, eOp, eUn, eFn, eMt, aNil, aCons,  eAnd, eOr, eNot, eIf, eIsi, eChain, bTest, bTruth, bAnd, bOr, bNot, bYes, eSl, pNo, pAt, eRinA, eRinB, eDnew, eDin, eDget, eDget2, tgM_name, tgM_tup, tgMs_nil, tgMs_name, tgMs_tup, List.getElem?_cons_succ, List.getElem?_cons_zero, List.set_cons_succ, List.set_cons_zero, List.map_cons, List.map_nil, List.length_cons, List.length_nil, List.replicate, List.nil_append, List.cons_append, if_true, if_false, Bool.false_eq_true, Bool.true_eq_false, Nat.reduceAdd, Nat.reduceSub, Nat.reduceLeDiff, Nat.zero_add, Bool.not_true, Bool.not_false, nc0, nc1, nc2, nc3, not_true_eq_false, not_false_eq_true, ii, addI, subI, negI, int1, eqI, neI, eqS, neS, ix0, ix1, ix2, ix3, decide_eq_true_eq, Bool.not_eq_true', decide_eq_false_iff_not, truB, truN, keyI, keyS, lenT, wipeM, qw_nx, qw_ct, qw_bk, qw_rt, qf_nx, qf_ct, qf_bk, qf_rt, okN, lcf_goN, lcf_goC, lcf_goT, slT1, slT2, List.drop_succ_cons, List.drop_zero, List.take_succ_cons, List.take_zero, true_and, and_true, ofString_inj, String.reduceEq, decide_true, decide_false, Bool.or_self, Bool.or_true, Bool.true_or, Bool.or_false, Bool.false_or, Bool.and_self, Bool.and_true, Bool.true_and, Bool.and_false, Bool.false_and, isN, isnN, Mir.isNon, truB, tStr, ii5]
  exact h _ Fr.refl⟩
theorem t_fixed {i : Int} : Ts "is_fixed" (.int i) (decide (0 ≤ i) && decide (i ≤ 3)) := ⟨FIsFixed, rfl, fun s R h => by
  unfold FIsFixed
  rw [wp_mkF (by rfl)]
  unfold BIsFixed
  repeat first | with_reducible refine Eq.mpr wps_cons ?_ | with_reducible refine Eq.mpr wps_pass ?_ | with_reducible refine Eq.mpr wps_nil ?_ | with_reducible refine Eq.mpr wps_set ?_ | with_reducible refine Eq.mpr wps_do ?_ | with_reducible refine Eq.mpr wps_ret ?_ | with_reducible refine Eq.mpr wps_retN ?_ | with_reducible refine Eq.mpr wps_brk ?_ | with_reducible refine Eq.mpr wps_cnt ?_ | with_reducible refine Eq.mpr wps_if ?_ | with_reducible refine Eq.mpr wps_asg ?_ | with_reducible refine wps_asgL ?_ | with_reducible refine Eq.mpr wps_put ?_ | with_reducible refine Eq.mpr wps_dput ?_ | with_reducible refine Eq.mpr wps_aug ?_ | with_reducible refine Eq.mpr wps_par ?_ | with_reducible refine Eq.mpr wps_for ?_ | with_reducible refine Eq.mpr wps_wh ?_ | with_reducible refine wh_go ?_ | with_reducible refine fo_goN ?_ | with_reducible refine fo_goC ?_ | simp only [wp_tup0, wp_tup1, wp_tup2, wp_tup3, wp_tup4, wp_tup5, wp_tup6, wp_tup7, wp_lst0, wp_lst1, wp_lst2, wp_lst3, wp_lst4, wp_lst5, wp_lst6, wp_lst7, wp_lst8, wp_lst9, wp_lst10, wp_lst11, wp_lst12, wp_bd, wp_lc, ql_nx, ql_ct, ql_bk, ql_rt, iSeq, iEnu, Mir.iRev, chkR, chkT, chkO, lstO, wp_some, wp_ite, wp_none, bd_some, eVar, eC, eOp, eUn, eFn, eMt, aNil, aCons,  eAnd, eOr, eNot, eIf, eIsi, eChain, bTest, bTruth, bAnd, bOr, bNot, bYes, eSl, pNo, pAt, eRinA, eRinB, eDnew, eDin, eDget, eDget2, tgM_name, tgM_tup, tgMs_nil, tgMs_name, tgMs_tup, List.getElem?_cons_succ, List.getElem?_cons_zero, List.set_cons_succ, List.set_cons_zero, List.map_cons, List.map_nil, List.length_cons, List.length_nil, List.replicate, List.nil_append, List.cons_append, if_true, if_false, Bool.false_eq_true, Bool.true_eq_false, Nat.reduceAdd, Nat.reduceSub, Nat.reduceLeDiff, Nat.zero_add, Bool.not_true, Bool.not_false, nc0, nc1, nc2, nc3, not_true_eq_false, not_false_eq_true, ii, addI, subI, negI, int1, eqI, neI, eqS, neS, ix0, ix1, ix2, ix3, decide_eq_true_eq, Bool.not_eq_true', decide_eq_false_iff_not, truB, truN, keyI, keyS, lenT, wipeM, qw_nx, qw_ct, qw_bk, qw_rt, qf_nx, qf_ct, qf_bk, qf_rt, okN, lcf_goN, lcf_goC, lcf_goT, slT1, slT2, List.drop_succ_cons, List.drop_zero, List.take_succ_cons, List.take_zero, true_and, and_true, ofString_inj, String.reduceEq, decide_true, decide_false, Bool.or_self, Bool.or_true, Bool.true_or, Bool.or_false, Bool.false_or, Bool.and_self, Bool.and_true, Bool.true_and, Bool.and_false, Bool.false_and, isN, isnN, Mir.isNon, truB]
  refine num_int ?_
  by_cases c : 0 ≤ i
  · repeat first | with_reducible refine Eq.mpr wps_cons ?_ | with_reducible refine Eq.mpr wps_pass ?_ | with_reducible refine Eq.mpr wps_nil ?_ | with_reducible refine Eq.mpr wps_set ?_ | with_reducible refine Eq.mpr wps_do ?_ | with_reducible refine Eq.mpr wps_ret ?_ | with_reducible refine Eq.mpr wps_retN ?_ | with_reducible refine Eq.mpr wps_brk ?_ | with_reducible refine Eq.mpr wps_cnt ?_ | with_reducible refine Eq.mpr wps_if ?_ | with_reducible refine Eq.mpr wps_asg ?_ | with_reducible refine wps_asgL ?_ | with_reducible refine Eq.mpr wps_put ?_ | with_reducible refine Eq.mpr wps_dput ?_ | with_reducible refine Eq.mpr wps_aug ?_ | with_reducible refine Eq.mpr wps_par ?_ | with_reducible refine Eq.mpr wps_for ?_ | with_reducible refine Eq.mpr wps_wh ?_ | with_reducible refine wh_go ?_ | with_reducible refine fo_goN ?_ | with_reducible refine fo_goC ?_ | simp only [wp_tup0, wp_tup1, wp_tup2, wp_tup3, wp_tup4, wp_tup5, wp_tup6, wp_tup7, wp_lst0, wp_lst1, wp_lst2, wp_lst3, wp_lst4, wp_lst5, wp_lst6, wp_lst7, wp_lst8, wp_lst9, wp_lst10, wp_lst11, wp_lst12, wp_bd, wp_lc, ql_nx, ql_ct, ql_bk, ql_rt, iSeq, iEnu, Mir.iRev, chkR, chkT, chkO, lstO, wp_some, wp_ite, wp_none, bd_some, eVar, eC, eOp, eUn, eFn, eMt, aNil, aCons,  eAnd, eOr, eNot, eIf, eIsi, eChain, bTest, bTruth, bAnd, bOr, bNot, bYes, eSl, pNo, pAt, eRinA, eRinB, eDnew, eDin, eDget, eDget2, tgM_name, tgM_tup, tgMs_nil, tgMs_name, tgMs_tup, List.getElem?_cons_succ, List.getElem?_cons_zero, List.set_cons_succ, List.set_cons_zero, List.map_cons, List.map_nil, List.length_cons, List.length_nil, List.replicate, List.nil_append, List.cons_append, if_true, if_false, Bool.false_eq_true, Bool.true_eq_false, Nat.reduceAdd, Nat.reduceSub, Nat.reduceLeDiff, Nat.zero_add, Bool.not_true, Bool.not_false, nc0, nc1, nc2, nc3, not_true_eq_false, not_false_eq_true, ii, addI, subI, negI, int1, eqI, neI, eqS, neS, ix0, ix1, ix2, ix3, decide_eq_true_eq, Bool.not_eq_true', decide_eq_false_iff_not, truB, truN, keyI, keyS, lenT, wipeM, qw_nx, qw_ct, qw_bk, qw_rt, qf_nx, qf_ct, qf_bk, qf_rt, okN, lcf_goN, lcf_goC, lcf_goT, slT1, slT2, List.drop_succ_cons, List.drop_zero, List.take_succ_cons, List.take_zero, true_and, and_true, ofString_inj, String.reduceEq, decide_true, decide_false, Bool.or_self, Bool.or_true, Bool.true_or, Bool.or_false, Bool.false_or, Bool.and_self, Bool.and_true, Bool.true_and, Bool.and_false, Bool.false_and, isN, isnN, Mir.isNon, truB, c, leI]
    simpa [c] using h s Fr.refl
  · repeat first | with_reducible refine Eq.mpr wps_cons ?_ | with_reducible refine Eq.mpr wps_pass ?_ | with_reducible refine Eq.mpr wps_nil ?_ | with_reducible refine Eq.mpr wps_set ?_ | with_reducible refine Eq.mpr wps_do ?_ | with_reducible refine Eq.mpr wps_ret ?_ | with_reducible refine Eq.mpr wps_retN ?_ | with_reducible refine Eq.mpr wps_brk ?_ | with_reducible refine Eq.mpr wps_cnt ?_ | with_reducible refine Eq.mpr wps_if ?_ | with_reducible refine Eq.mpr wps_asg ?_ | with_reducible refine wps_asgL ?_ | with_reducible refine Eq.mpr wps_put ?_ | with_reducible refine Eq.mpr wps_dput ?_ | with_reducible refine Eq.mpr wps_aug ?_ | with_reducible refine Eq.mpr wps_par ?_ | with_reducible refine Eq.mpr wps_for ?_ | with_reducible refine Eq.mpr wps_wh ?_ | with_reducible refine wh_go ?_ | with_reducible refine fo_goN ?_ | with_reducible refine fo_goC ?_ | simp only [wp_tup0, wp_tup1, wp_tup2, wp_tup3, wp_tup4, wp_tup5, wp_tup6, wp_tup7, wp_lst0, wp_lst1, wp_lst2, wp_lst3, wp_lst4, wp_lst5, wp_lst6, wp_lst7, wp_lst8, wp_lst9, wp_lst10, wp_lst11, wp_lst12, wp_bd, wp_lc, ql_nx, ql_ct, ql_bk, ql_rt, iSeq, iEnu, Mir.iRev, chkR, chkT, chkO, lstO, wp_some, wp_ite, wp_none, bd_some, eVar, eC, eOp, eUn, eFn, eMt, aNil, aCons,  eAnd, eOr, eNot, eIf, eIsi, eChain, bTest, bTruth, bAnd, bOr, bNot, bYes, eSl, pNo, pAt, eRinA, eRinB, eDnew, eDin, eDget, eDget2, tgM_name, tgM_tup, tgMs_nil, tgMs_name, tgMs_tup, List.getElem?_cons_succ, List.getElem?_cons_zero, List.set_cons_succ, List.set_cons_zero, List.map_cons, List.map_nil, List.length_cons, List.length_nil, List.replicate, List.nil_append, List.cons_append, if_true, if_false, Bool.false_eq_true, Bool.true_eq_false, Nat.reduceAdd, Nat.reduceSub, Nat.reduceLeDiff, Nat.zero_add, Bool.not_true, Bool.not_false, nc0, nc1, nc2, nc3, not_true_eq_false, not_false_eq_true, ii, addI, subI, negI, int1, eqI, neI, eqS, neS, ix0, ix1, ix2, ix3, decide_eq_true_eq, Bool.not_eq_true', decide_eq_false_iff_not, truB, truN, keyI, keyS, lenT, wipeM, qw_nx, qw_ct, qw_bk, qw_rt, qf_nx, qf_ct, qf_bk, qf_rt, okN, lcf_goN, lcf_goC, lcf_goT, slT1, slT2, List.drop_succ_cons, List.drop_zero, List.take_succ_cons, List.take_zero, true_and, and_true, ofString_inj, String.reduceEq, decide_true, decide_false, Bool.or_self, Bool.or_true, Bool.true_or, Bool.or_false, Bool.false_or, Bool.and_self, Bool.and_true, Bool.true_and, Bool.and_false, Bool.false_and, isN, isnN, Mir.isNon, truB, c, leI]
    simpa [c] using h s Fr.refl⟩
theorem t_index {i : Int} : Ts "is_index" (.int i) (decide (0 ≤ i) && decide (i ≤ 11)) := ⟨FIsIndex, rfl, fun s R h => by
  unfold FIsIndex
  rw [wp_mkF (by rfl)]
  unfold BIsIndex
  repeat first | with_reducible refine Eq.mpr wps_cons ?_ | with_reducible refine Eq.mpr wps_pass ?_ | with_reducible refine Eq.mpr wps_nil ?_ | with_reducible refine Eq.mpr wps_set ?_ | with_reducible refine Eq.mpr wps_do ?_ | with_reducible refine Eq.mpr wps_ret ?_ | with_reducible refine Eq.mpr wps_retN ?_ | with_reducible refine Eq.mpr wps_brk ?_ | with_reducible refine Eq.mpr wps_cnt ?_ | with_reducible refine Eq.mpr wps_if ?_ | with_reducible refine Eq.mpr wps_asg ?_ | with_reducible refine wps_asgL ?_ | with_reducible refine Eq.mpr wps_put ?_ | with_reducible refine Eq.mpr wps_dput ?_ | with_reducible refine Eq.mpr wps_aug ?_ | with_reducible refine Eq.mpr wps_par ?_ | with_reducible refine Eq.mpr wps_for ?_ | with_reducible refine Eq.mpr wps_wh ?_ | with_reducible refine wh_go ?_ | with_reducible refine fo_goN ?_ | with_reducible refine fo_goC ?_ | simp only [wp_tup0, wp_tup1, wp_tup2, wp_tup3, wp_tup4, wp_tup5, wp_tup6, wp_tup7, wp_lst0, wp_lst1, wp_lst2, wp_lst3, wp_lst4, wp_lst5, wp_lst6, wp_lst7, wp_lst8, wp_lst9, wp_lst10, wp_lst11, wp_lst12, wp_bd, wp_lc, ql_nx, ql_ct, ql_bk, ql_rt, iSeq, iEnu, Mir.iRev, chkR, chkT, chkO, lstO, wp_some, wp_ite, wp_none, bd_some, eVar, eC, eOp, eUn, eFn, eMt, aNil, aCons,  eAnd, eOr, eNot, eIf, eIsi, eChain, bTest, bTruth, bAnd, bOr, bNot, bYes, eSl, pNo, pAt, eRinA, eRinB, eDnew, eDin, eDget, eDget2, tgM_name, tgM_tup, tgMs_nil, tgMs_name, tgMs_tup, List.getElem?_cons_succ, List.getElem?_cons_zero, List.set_cons_succ, List.set_cons_zero, List.map_cons, List.map_nil, List.length_cons, List.length_nil, List.replicate, List.nil_append, List.cons_append, if_true, if_false, Bool.false_eq_true, Bool.true_eq_false, Nat.reduceAdd, Nat.reduceSub, Nat.reduceLeDiff, Nat.zero_add, Bool.not_true, Bool.not_false, nc0, nc1, nc2, nc3, not_true_eq_false, not_false_eq_true, ii, addI, subI, negI, int1, eqI, neI, eqS, neS, ix0, ix1, ix2, ix3, decide_eq_true_eq, Bool.not_eq_true', decide_eq_false_iff_not, truB, truN, keyI, keyS, lenT, wipeM, qw_nx, qw_ct, qw_bk, qw_rt, qf_nx, qf_ct, qf_bk, qf_rt, okN, lcf_goN, lcf_goC, lcf_goT, slT1, slT2, List.drop_succ_cons, List.drop_zero, List.take_succ_cons, List.take_zero, true_and, and_true, ofString_inj, String.reduceEq, decide_true, decide_false, Bool.or_self, Bool.or_true, Bool.true_or, Bool.or_false, Bool.false_or, Bool.and_self, Bool.and_true, Bool.true_and, Bool.and_false, Bool.false_and, isN, isnN, Mir.isNon, truB]
  refine num_int ?_
  by_cases c : 0 ≤ i
  · repeat first | with_reducible refine Eq.mpr wps_cons ?_ | with_reducible refine Eq.mpr wps_pass ?_ | with_reducible refine Eq.mpr wps_nil ?_ | with_reducible refine Eq.mpr wps_set ?_ | with_reducible refine Eq.mpr wps_do ?_ | with_reducible refine Eq.mpr wps_ret ?_ | with_reducible refine Eq.mpr wps_retN ?_ | with_reducible refine Eq.mpr wps_brk ?_ | with_reducible refine Eq.mpr wps_cnt ?_ | with_reducible refine Eq.mpr wps_if ?_ | with_reducible refine Eq.mpr wps_asg ?_ | with_reducible refine wps_asgL ?_ | with_reducible refine Eq.mpr wps_put ?_ | with_reducible refine Eq.mpr wps_dput ?_ | with_reducible refine Eq.mpr wps_aug ?_ | with_reducible refine Eq.mpr wps_par ?_ | with_reducible refine Eq.mpr wps_for ?_ | with_reducible refine Eq.mpr wps_wh ?_ | with_reducible refine wh_go ?_ | with_reducible refine fo_goN ?_ | with_reducible refine fo_goC ?_ | simp only [wp_tup0, wp_tup1, wp_tup2, wp_tup3, wp_tup4, wp_tup5, wp_tup6, wp_tup7, wp_lst0, wp_lst1, wp_lst2, wp_lst3, wp_lst4, wp_lst5, wp_lst6, wp_lst7, wp_lst8, wp_lst9, wp_lst10, wp_lst11, wp_lst12, wp_bd, wp_lc, ql_nx, ql_ct, ql_bk, ql_rt, iSeq, iEnu, Mir.iRev, chkR, chkT, chkO, lstO, wp_some, wp_ite, wp_none, bd_some, eVar, eC, eOp, eUn, eFn, eMt, aNil, aCons,  eAnd, eOr, eNot, eIf, eIsi, eChain, bTest, bTruth, bAnd, bOr, bNot, bYes, eSl, pNo, pAt, eRinA, eRinB, eDnew, eDin, eDget, eDget2, tgM_name, tgM_tup, tgMs_nil, tgMs_name, tgMs_tup, List.getElem?_cons_succ, List.getElem?_cons_zero, List.set_cons_succ, List.set_cons_zero, List.map_cons, List.map_nil, List.length_cons, List.length_nil, List.replicate, List.nil_append, List.cons_append, if_true, if_false, Bool.false_eq_true, Bool.true_eq_false, Nat.reduceAdd, Nat.reduceSub, Nat.reduceLeDiff, Nat.zero_add, Bool.not_true, Bool.not_false, nc0, nc1, nc2, nc3, not_true_eq_false, not_false_eq_true, ii, addI, subI, negI, int1, eqI, neI, eqS, neS, ix0, ix1, ix2, ix3, decide_eq_true_eq, Bool.not_eq_true', decide_eq_false_iff_not, truB, truN, keyI, keyS, lenT, wipeM, qw_nx, qw_ct, qw_bk, qw_rt, qf_nx, qf_ct, qf_bk, qf_rt, okN, lcf_goN, lcf_goC, lcf_goT, slT1, slT2, List.drop_succ_cons, List.drop_zero, List.take_succ_cons, List.take_zero, true_and, and_true, ofString_inj, String.reduceEq, decide_true, decide_false, Bool.or_self, Bool.or_true, Bool.true_or, Bool.or_false, Bool.false_or, Bool.and_self, Bool.and_true, Bool.true_and, Bool.and_false, Bool.false_and, isN, isnN, Mir.isNon, truB, c, leI]
    simpa [c] using h s Fr.refl
  · repeat first | with_reducible refine Eq.mpr wps_cons ?_ | with_reducible refine Eq.mpr wps_pass ?_ | with_reducible refine Eq.mpr wps_nil ?_ | with_reducible refine Eq.mpr wps_set ?_ | with_reducible refine Eq.mpr wps_do ?_ | with_reducible refine Eq.mpr wps_ret ?_ | with_reducible refine Eq.mpr wps_retN ?_ | with_reducible refine Eq.mpr wps_brk ?_ | with_reducible refine Eq.mpr wps_cnt ?_ | with_reducible refine Eq.mpr wps_if ?_ | with_reducible refine Eq.mpr wps_asg ?_ | with_reducible refine wps_asgL ?_ | with_reducible refine Eq.mpr wps_put ?_ | with_reducible refine Eq.mpr wps_dput ?_ | with_reducible refine Eq.mpr wps_aug ?_ | with_reducible refine Eq.mpr wps_par ?_ | with_reducible refine Eq.mpr wps_for ?_ | with_reducible refine Eq.mpr wps_wh ?_ | with_reducible refine wh_go ?_ | with_reducible refine fo_goN ?_ | with_reducible refine fo_goC ?_ | simp only [wp_tup0, wp_tup1, wp_tup2, wp_tup3, wp_tup4, wp_tup5, wp_tup6, wp_tup7, wp_lst0, wp_lst1, wp_lst2, wp_lst3, wp_lst4, wp_lst5, wp_lst6, wp_lst7, wp_lst8, wp_lst9, wp_lst10, wp_lst11, wp_lst12, wp_bd, wp_lc, ql_nx, ql_ct, ql_bk, ql_rt, iSeq, iEnu, Mir.iRev, chkR, chkT, chkO, lstO, wp_some, wp_ite, wp_none, bd_some, eVar, eC, eOp, eUn, eFn, eMt, aNil, aCons,  eAnd, eOr, eNot, eIf, eIsi, eChain, bTest, bTruth, bAnd, bOr, bNot, bYes, eSl, pNo, pAt, eRinA, eRinB, eDnew, eDin, eDget, eDget2, tgM_name, tgM_tup, tgMs_nil, tgMs_name, tgMs_tup, List.getElem?_cons_succ, List.getElem?_cons_zero, List.set_cons_succ, List.set_cons_zero, List.map_cons, List.map_nil, List.length_cons, List.length_nil, List.replicate, List.nil_append, List.cons_append, if_true, if_false, Bool.false_eq_true, Bool.true_eq_false, Nat.reduceAdd, Nat.reduceSub, Nat.reduceLeDiff, Nat.zero_add, Bool.not_true, Bool.not_false, nc0, nc1, nc2, nc3, not_true_eq_false, not_false_eq_true, ii, addI, subI, negI, int1, eqI, neI, eqS, neS, ix0, ix1, ix2, ix3, decide_eq_true_eq, Bool.not_eq_true', decide_eq_false_iff_not, truB, truN, keyI, keyS, lenT, wipeM, qw_nx, qw_ct, qw_bk, qw_rt, qf_nx, qf_ct, qf_bk, qf_rt, okN, lcf_goN, lcf_goC, lcf_goT, slT1, slT2, List.drop_succ_cons, List.drop_zero, List.take_succ_cons, List.take_zero, true_and, and_true, ofString_inj, String.reduceEq, decide_true, decide_false, Bool.or_self, Bool.or_true, Bool.true_or, Bool.or_false, Bool.false_or, Bool.and_self, Bool.and_true, Bool.true_and, Bool.and_false, Bool.false_and, isN, isnN, Mir.isNon, truB, c, leI]
    simpa [c] using h s Fr.refl⟩
theorem inI {i : Int} {l : List Int} {s : Sto} : gIn (.int i) (.tup (l.map W.int)) s = some (.bl (l.any fun y => decide (i = y)), s) := by
  have f1 : flatW (.int i) = true := rfl
  have f2 : ∀ l : List Int, (l.map W.int).all flatW = true := by
    intro l
    induction l with
    | nil => rfl
    | cons x r ih => simp [flatW, ih]
  have f3 : ∀ l : List Int, inW (.int i) (l.map W.int) = l.any fun y => decide (i = y) := by
    intro l
    rw [inW, List.any_map]
    congr 1
    funext y
    simp only [Function.comp, eqF]
    by_cases c : i = y
    · subst c; simp
    · have : y ≠ i := fun h => c h.symm
      simp [c, this]
  simp only [gIn, insW, seqOf, f1, f2, f3, and_self, if_true]
theorem t_length {i : Int} : Ts "is_length" (.int i) (decide (0 ≤ i) && ([0, 2, 3, 4, 5, 6] : List Int).any fun y => decide (i = y)) := ⟨FIsLength, rfl, fun s R h => by
  unfold FIsLength
  rw [wp_mkF (by rfl)]
  unfold BIsLength
  have e : ∀ s, gIn (.int i) (.tup [.int 0, .int 2, .int 3, .int 4, .int 5, .int 6]) s = some (.bl (([0, 2, 3, 4, 5, 6] : List Int).any fun y => decide (i = y)), s) := fun s => inI (l := [0, 2, 3, 4, 5, 6])
  repeat first | with_reducible refine Eq.mpr wps_cons ?_ | with_reducible refine Eq.mpr wps_pass ?_ | with_reducible refine Eq.mpr wps_nil ?_ | with_reducible refine Eq.mpr wps_set ?_ | with_reducible refine Eq.mpr wps_do ?_ | with_reducible refine Eq.mpr wps_ret ?_ | with_reducible refine Eq.mpr wps_retN ?_ | with_reducible refine Eq.mpr wps_brk ?_ | with_reducible refine Eq.mpr wps_cnt ?_ | with_reducible refine Eq.mpr wps_if ?_ | with_reducible refine Eq.mpr wps_asg ?_ | with_reducible refine wps_asgL ?_ | with_reducible refine Eq.mpr wps_put ?_ | with_reducible refine Eq.mpr wps_dput ?_ | with_reducible refine Eq.mpr wps_aug ?_ | with_reducible refine Eq.mpr wps_par ?_ | with_reducible refine Eq.mpr wps_for ?_ | with_reducible refine Eq.mpr wps_wh ?_ | with_reducible refine wh_go ?_ | with_reducible refine fo_goN ?_ | with_reducible refine fo_goC ?_ | simp only [wp_tup0, wp_tup1, wp_tup2, wp_tup3, wp_tup4, wp_tup5, wp_tup6, wp_tup7, wp_lst0, wp_lst1, wp_lst2, wp_lst3, wp_lst4, wp_lst5, wp_lst6, wp_lst7, wp_lst8, wp_lst9, wp_lst10, wp_lst11, wp_lst12, wp_bd, wp_lc, ql_nx, ql_ct, ql_bk, ql_rt, iSeq, iEnu, Mir.iRev, chkR, chkT, chkO, lstO, wp_some, wp_ite, wp_none, bd_some, eVar, eC, eOp, eUn, eFn, eMt, aNil, aCons,  eAnd, eOr, eNot, eIf, eIsi, eChain, bTest, bTruth, bAnd, bOr, bNot, bYes, eSl, pNo, pAt, eRinA, eRinB, eDnew, eDin, eDget, eDget2, tgM_name, tgM_tup, tgMs_nil, tgMs_name, tgMs_tup, List.getElem?_cons_succ, List.getElem?_cons_zero, List.set_cons_succ, List.set_cons_zero, List.map_cons, List.map_nil, List.length_cons, List.length_nil, List.replicate, List.nil_append, List.cons_append, if_true, if_false, Bool.false_eq_true, Bool.true_eq_false, Nat.reduceAdd, Nat.reduceSub, Nat.reduceLeDiff, Nat.zero_add, Bool.not_true, Bool.not_false, nc0, nc1, nc2, nc3, not_true_eq_false, not_false_eq_true, ii, addI, subI, negI, int1, eqI, neI, eqS, neS, ix0, ix1, ix2, ix3, decide_eq_true_eq, Bool.not_eq_true', decide_eq_false_iff_not, truB, truN, keyI, keyS, lenT, wipeM, qw_nx, qw_ct, qw_bk, qw_rt, qf_nx, qf_ct, qf_bk, qf_rt, okN, lcf_goN, lcf_goC, lcf_goT, slT1, slT2, List.drop_succ_cons, List.drop_zero, List.take_succ_cons, List.take_zero, true_and, and_true, ofString_inj, String.reduceEq, decide_true, decide_false, Bool.or_self, Bool.or_true, Bool.true_or, Bool.or_false, Bool.false_or, Bool.and_self, Bool.and_true, Bool.true_and, Bool.and_false, Bool.false_and, isN, isnN, Mir.isNon, truB]
  refine num_int ?_
  by_cases c : 0 ≤ i
  · repeat first | with_reducible refine Eq.mpr wps_cons ?_ | with_reducible refine Eq.mpr wps_pass ?_ | with_reducible refine Eq.mpr wps_nil ?_ | with_reducible refine Eq.mpr wps_set ?_ | with_reducible refine Eq.mpr wps_do ?_ | with_reducible refine Eq.mpr wps_ret ?_ | with_reducible refine Eq.mpr wps_retN ?_ | with_reducible refine Eq.mpr wps_brk ?_ | with_reducible refine Eq.mpr wps_cnt ?_ | with_reducible refine Eq.mpr wps_if ?_ | with_reducible refine Eq.mpr wps_asg ?_ | with_reducible refine wps_asgL ?_ | with_reducible refine Eq.mpr wps_put ?_ | with_reducible refine Eq.mpr wps_dput ?_ | with_reducible refine Eq.mpr wps_aug ?_ | with_reducible refine Eq.mpr wps_par ?_ | with_reducible refine Eq.mpr wps_for ?_ | with_reducible refine Eq.mpr wps_wh ?_ | with_reducible refine wh_go ?_ | with_reducible refine fo_goN ?_ | with_reducible refine fo_goC ?_ | simp only [wp_tup0, wp_tup1, wp_tup2, wp_tup3, wp_tup4, wp_tup5, wp_tup6, wp_tup7, wp_lst0, wp_lst1, wp_lst2, wp_lst3, wp_lst4, wp_lst5, wp_lst6, wp_lst7, wp_lst8, wp_lst9, wp_lst10, wp_lst11, wp_lst12, wp_bd, wp_lc, ql_nx, ql_ct, ql_bk, ql_rt, iSeq, iEnu, Mir.iRev, chkR, chkT, chkO, lstO, wp_some, wp_ite, wp_none, bd_some, eVar, eC, eOp, eUn, eFn, eMt, aNil, aCons,  eAnd, eOr, eNot, eIf, eIsi, eChain, bTest, bTruth, bAnd, bOr, bNot, bYes, eSl, pNo, pAt, eRinA, eRinB, eDnew, eDin, eDget, eDget2, tgM_name, tgM_tup, tgMs_nil, tgMs_name, tgMs_tup, List.getElem?_cons_succ, List.getElem?_cons_zero, List.set_cons_succ, List.set_cons_zero, List.map_cons, List.map_nil, List.length_cons, List.length_nil, List.replicate, List.nil_append, List.cons_append, if_true, if_false, Bool.false_eq_true, Bool.true_eq_false, Nat.reduceAdd, Nat.reduceSub, Nat.reduceLeDiff, Nat.zero_add, Bool.not_true, Bool.not_false, nc0, nc1, nc2, nc3, not_true_eq_false, not_false_eq_true, ii, addI, subI, negI, int1, eqI, neI, eqS, neS, ix0, ix1, ix2, ix3, decide_eq_true_eq, Bool.not_eq_true', decide_eq_false_iff_not, truB, truN, keyI, keyS, lenT, wipeM, qw_nx, qw_ct, qw_bk, qw_rt, qf_nx, qf_ct, qf_bk, qf_rt, okN, lcf_goN, lcf_goC, lcf_goT, slT1, slT2, List.drop_succ_cons, List.drop_zero, List.take_succ_cons, List.take_zero, true_and, and_true, ofString_inj, String.reduceEq, decide_true, decide_false, Bool.or_self, Bool.or_true, Bool.true_or, Bool.or_false, Bool.false_or, Bool.and_self, Bool.and_true, Bool.true_and, Bool.and_false, Bool.false_and, isN, isnN, Mir.isNon, truB, c, e]
    simpa [c] using h s Fr.refl
  · repeat first | with_reducible refine Eq.mpr wps_cons ?_ | with_reducible refine Eq.mpr wps_pass ?_ | with_reducible refine Eq.mpr wps_nil ?_ | with_reducible refine Eq.mpr wps_set ?_ | with_reducible refine Eq.mpr wps_do ?_ | with_reducible refine Eq.mpr wps_ret ?_ | with_reducible refine Eq.mpr wps_retN ?_ | with_reducible refine Eq.mpr wps_brk ?_ | with_reducible refine Eq.mpr wps_cnt ?_ | with_reducible refine Eq.mpr wps_if ?_ | with_reducible refine Eq.mpr wps_asg ?_ | with_reducible refine wps_asgL ?_ | with_reducible refine Eq.mpr wps_put ?_ | with_reducible refine Eq.mpr wps_dput ?_ | with_reducible refine Eq.mpr wps_aug ?_ | with_reducible refine Eq.mpr wps_par ?_ | with_reducible refine Eq.mpr wps_for ?_ | with_reducible refine Eq.mpr wps_wh ?_ | with_reducible refine wh_go ?_ | with_reducible refine fo_goN ?_ | with_reducible refine fo_goC ?_ | simp only [wp_tup0, wp_tup1, wp_tup2, wp_tup3, wp_tup4, wp_tup5, wp_tup6, wp_tup7, wp_lst0, wp_lst1, wp_lst2, wp_lst3, wp_lst4, wp_lst5, wp_lst6, wp_lst7, wp_lst8, wp_lst9, wp_lst10, wp_lst11, wp_lst12, wp_bd, wp_lc, ql_nx, ql_ct, ql_bk, ql_rt, iSeq, iEnu, Mir.iRev, chkR, chkT, chkO, lstO, wp_some, wp_ite, wp_none, bd_some, eVar, eC, eOp, eUn, eFn, eMt, aNil, aCons,  eAnd, eOr, eNot, eIf, eIsi, eChain, bTest, bTruth, bAnd, bOr, bNot, bYes, eSl, pNo, pAt, eRinA, eRinB, eDnew, eDin, eDget, eDget2, tgM_name, tgM_tup, tgMs_nil, tgMs_name, tgMs_tup, List.getElem?_cons_succ, List.getElem?_cons_zero, List.set_cons_succ, List.set_cons_zero, List.map_cons, List.map_nil, List.length_cons, List.length_nil, List.replicate, List.nil_append, List.cons_append, if_true, if_false, Bool.false_eq_true, Bool.true_eq_false, Nat.reduceAdd, Nat.reduceSub, Nat.reduceLeDiff, Nat.zero_add, Bool.not_true, Bool.not_false, nc0, nc1, nc2, nc3, not_true_eq_false, not_false_eq_true, ii, addI, subI, negI, int1, eqI, neI, eqS, neS, ix0, ix1, ix2, ix3, decide_eq_true_eq, Bool.not_eq_true', decide_eq_false_iff_not, truB, truN, keyI, keyS, lenT, wipeM, qw_nx, qw_ct, qw_bk, qw_rt, qf_nx, qf_ct, qf_bk, qf_rt, okN, lcf_goN, lcf_goC, lcf_goT, slT1, slT2, List.drop_succ_cons, List.drop_zero, List.take_succ_cons, List.take_zero, true_and, and_true, ofString_inj, String.reduceEq, decide_true, decide_false, Bool.or_self, Bool.or_true, Bool.true_or, Bool.or_false, Bool.false_or, Bool.and_self, Bool.and_true, Bool.true_and, Bool.and_false, Bool.false_and, isN, isnN, Mir.isNon, truB, c, e]
    simpa [c] using h s Fr.refl⟩
theorem t_op {z : Str} {o : Option W} (hb : tl T_OPERAND_COUNTS z = some o) : Ts "is_operation" (.str z) o.isSome := ⟨FIsOperation, rfl, fun s R h => by
  unfold FIsOperation
  rw [wp_mkF (by rfl)]
  unfold BIsOperation
  repeat first | with_reducible refine Eq.mpr wps_cons ?_ | with_reducible refine Eq.mpr wps_pass ?_ | with_reducible refine Eq.mpr wps_nil ?_ | with_reducible refine Eq.mpr wps_set ?_ | with_reducible refine Eq.mpr wps_do ?_ | with_reducible refine Eq.mpr wps_ret ?_ | with_reducible refine Eq.mpr wps_retN ?_ | with_reducible refine Eq.mpr wps_brk ?_ | with_reducible refine Eq.mpr wps_cnt ?_ | with_reducible refine Eq.mpr wps_if ?_ | with_reducible refine Eq.mpr wps_asg ?_ | with_reducible refine wps_asgL ?_ | with_reducible refine Eq.mpr wps_put ?_ | with_reducible refine Eq.mpr wps_dput ?_ | with_reducible refine Eq.mpr wps_aug ?_ | with_reducible refine Eq.mpr wps_par ?_ | with_reducible refine Eq.mpr wps_for ?_ | with_reducible refine Eq.mpr wps_wh ?_ | with_reducible refine wh_go ?_ | with_reducible refine fo_goN ?_ | with_reducible refine fo_goC ?_ | simp only [wp_tup0, wp_tup1, wp_tup2, wp_tup3, wp_tup4, wp_tup5, wp_tup6, wp_tup7, wp_lst0, wp_lst1, wp_lst2, wp_lst3, wp_lst4, wp_lst5, wp_lst6, wp_lst7, wp_lst8, wp_lst9, wp_lst10, wp_lst11, wp_lst12, wp_bd, wp_lc, ql_nx, ql_ct, ql_bk, ql_rt, iSeq, iEnu, Mir.iRev, chkR, chkT, chkO, lstO, wp_some, wp_ite, wp_none, bd_some, eVar, eC, eOp, eUn, eFn, eMt, aNil, aCons,  eAnd, eOr, eNot, eIf, eIsi, eChain, bTest, bTruth, bAnd, bOr, bNot, bYes, eSl, pNo, pAt, eRinA, eRinB, eDnew, eDin, eDget, eDget2, tgM_name, tgM_tup, tgMs_nil, tgMs_name, tgMs_tup, List.getElem?_cons_succ, List.getElem?_cons_zero, List.set_cons_succ, List.set_cons_zero, List.map_cons, List.map_nil, List.length_cons, List.length_nil, List.replicate, List.nil_append, List.cons_append, if_true, if_false, Bool.false_eq_true, Bool.true_eq_false, Nat.reduceAdd, Nat.reduceSub, Nat.reduceLeDiff, Nat.zero_add, Bool.not_true, Bool.not_false, nc0, nc1, nc2, nc3, not_true_eq_false, not_false_eq_true, ii, addI, subI, negI, int1, eqI, neI, eqS, neS, ix0, ix1, ix2, ix3, decide_eq_true_eq, Bool.not_eq_true', decide_eq_false_iff_not, truB, truN, keyI, keyS, lenT, wipeM, qw_nx, qw_ct, qw_bk, qw_rt, qf_nx, qf_ct, qf_bk, qf_rt, okN, lcf_goN, lcf_goC, lcf_goT, slT1, slT2, List.drop_succ_cons, List.drop_zero, List.take_succ_cons, List.take_zero, true_and, and_true, ofString_inj, String.reduceEq, decide_true, decide_false, Bool.or_self, Bool.or_true, Bool.true_or, Bool.or_false, Bool.false_or, Bool.and_self, Bool.and_true, Bool.true_and, Bool.and_false, Bool.false_and, isN, isnN, Mir.isNon, truB]
  refine str_str ?_
  repeat first | with_reducible refine Eq.mpr wps_cons ?_ | with_reducible refine Eq.mpr wps_pass ?_ | with_reducible refine Eq.mpr wps_nil ?_ | with_reducible refine Eq.mpr wps_set ?_ | with_reducible refine Eq.mpr wps_do ?_ | with_reducible refine Eq.mpr wps_ret ?_ | with_reducible refine Eq.mpr wps_retN ?_ | with_reducible refine Eq.mpr wps_brk ?_ | with_reducible refine Eq.mpr wps_cnt ?_ | with_reducible refine Eq.mpr wps_if ?_ | with_reducible refine Eq.mpr wps_asg ?_ | with_reducible refine wps_asgL ?_ | with_reducible refine Eq.mpr wps_put ?_ | with_reducible refine Eq.mpr wps_dput ?_ | with_reducible refine Eq.mpr wps_aug ?_ | with_reducible refine Eq.mpr wps_par ?_ | with_reducible refine Eq.mpr wps_for ?_ | with_reducible refine Eq.mpr wps_wh ?_ | with_reducible refine wh_go ?_ | with_reducible refine fo_goN ?_ | with_reducible refine fo_goC ?_ | simp only [wp_tup0, wp_tup1, wp_tup2, wp_tup3, wp_tup4, wp_tup5, wp_tup6, wp_tup7, wp_lst0, wp_lst1, wp_lst2, wp_lst3, wp_lst4, wp_lst5, wp_lst6, wp_lst7, wp_lst8, wp_lst9, wp_lst10, wp_lst11, wp_lst12, wp_bd, wp_lc, ql_nx, ql_ct, ql_bk, ql_rt, iSeq, iEnu, Mir.iRev, chkR, chkT, chkO, lstO, wp_some, wp_ite, wp_none, bd_some, eVar, eC, eOp, eUn, eFn, eMt, aNil, aCons,  eAnd, eOr, eNot, eIf, eIsi, eChain, bTest, bTruth, bAnd, bOr, bNot, bYes, eSl, pNo, pAt, eRinA, eRinB, eDnew, eDin, eDget, eDget2, tgM_name, tgM_tup, tgMs_nil, tgMs_name, tgMs_tup, List.getElem?_cons_succ, List.getElem?_cons_zero, List.set_cons_succ, List.set_cons_zero, List.map_cons, List.map_nil, List.length_cons, List.length_nil, List.replicate, List.nil_append, List.cons_append, if_true, if_false, Bool.false_eq_true, Bool.true_eq_false, Nat.reduceAdd, Nat.reduceSub, Nat.reduceLeDiff, Nat.zero_add, Bool.not_true, Bool.not_false, nc0, nc1, nc2, nc3, not_true_eq_false, not_false_eq_true, ii, addI, subI, negI, int1, eqI, neI, eqS, neS, ix0, ix1, ix2, ix3, decide_eq_true_eq, Bool.not_eq_true', decide_eq_false_iff_not, truB, truN, keyI, keyS, lenT, wipeM, qw_nx, qw_ct, qw_bk, qw_rt, qf_nx, qf_ct, qf_bk, qf_rt, okN, lcf_goN, lcf_goC, lcf_goT, slT1, slT2, List.drop_succ_cons, List.drop_zero, List.take_succ_cons, List.take_zero, true_and, and_true, ofString_inj, String.reduceEq, decide_true, decide_false, Bool.or_self, Bool.or_true, Bool.true_or, Bool.or_false, Bool.false_or, Bool.and_self, Bool.and_true, Bool.true_and, Bool.and_false, Bool.false_and, isN, isnN, Mir.isNon, truB, eCin, hb]
  exact h _ Fr.refl⟩
theorem t_opI {i : Int} : Ts "is_operation" (.int i) false := ⟨FIsOperation, rfl, fun s R h => by
  unfold FIsOperation
  rw [wp_mkF (by rfl)]
  unfold BIsOperation
  repeat first | with_reducible refine Eq.mpr wps_cons ?_ | with_reducible refine Eq.mpr wps_pass ?_ | with_reducible refine Eq.mpr wps_nil ?_ | with_reducible refine Eq.mpr wps_set ?_ | with_reducible refine Eq.mpr wps_do ?_ | with_reducible refine Eq.mpr wps_ret ?_ | with_reducible refine Eq.mpr wps_retN ?_ | with_reducible refine Eq.mpr wps_brk ?_ | with_reducible refine Eq.mpr wps_cnt ?_ | with_reducible refine Eq.mpr wps_if ?_ | with_reducible refine Eq.mpr wps_asg ?_ | with_reducible refine wps_asgL ?_ | with_reducible refine Eq.mpr wps_put ?_ | with_reducible refine Eq.mpr wps_dput ?_ | with_reducible refine Eq.mpr wps_aug ?_ | with_reducible refine Eq.mpr wps_par ?_ | with_reducible refine Eq.mpr wps_for ?_ | with_reducible refine Eq.mpr wps_wh ?_ | with_reducible refine wh_go ?_ | with_reducible refine fo_goN ?_ | with_reducible refine fo_goC ?_ | simp only [wp_tup0, wp_tup1, wp_tup2, wp_tup3, wp_tup4, wp_tup5, wp_tup6, wp_tup7, wp_lst0, wp_lst1, wp_lst2, wp_lst3, wp_lst4, wp_lst5, wp_lst6, wp_lst7, wp_lst8, wp_lst9, wp_lst10, wp_lst11, wp_lst12, wp_bd, wp_lc, ql_nx, ql_ct, ql_bk, ql_rt, iSeq, iEnu, Mir.iRev, chkR, chkT, chkO, lstO, wp_some, wp_ite, wp_none, bd_some, eVar, eC, eOp, eUn, eFn, eMt, aNil, aCons,  eAnd, eOr, eNot, eIf, eIsi, eChain, bTest, bTruth, bAnd, bOr, bNot, bYes, eSl, pNo, pAt, eRinA, eRinB, eDnew, eDin, eDget, eDget2, tgM_name, tgM_tup, tgMs_nil, tgMs_name, tgMs_tup, List.getElem?_cons_succ, List.getElem?_cons_zero, List.set_cons_succ, List.set_cons_zero, List.map_cons, List.map_nil, List.length_cons, List.length_nil, List.replicate, List.nil_append, List.cons_append, if_true, if_false, Bool.false_eq_true, Bool.true_eq_false, Nat.reduceAdd, Nat.reduceSub, Nat.reduceLeDiff, Nat.zero_add, Bool.not_true, Bool.not_false, nc0, nc1, nc2, nc3, not_true_eq_false, not_false_eq_true, ii, addI, subI, negI, int1, eqI, neI, eqS, neS, ix0, ix1, ix2, ix3, decide_eq_true_eq, Bool.not_eq_true', decide_eq_false_iff_not, truB, truN, keyI, keyS, lenT, wipeM, qw_nx, qw_ct, qw_bk, qw_rt, qf_nx, qf_ct, qf_bk, qf_rt, okN, lcf_goN, lcf_goC, lcf_goT, slT1, slT2, List.drop_succ_cons, List.drop_zero, List.take_succ_cons, List.take_zero, true_and, and_true, ofString_inj, String.reduceEq, decide_true, decide_false, Bool.or_self, Bool.or_true, Bool.true_or, Bool.or_false, Bool.false_or, Bool.and_self, Bool.and_true, Bool.true_and, Bool.and_false, Bool.false_and, isN, isnN, Mir.isNon, truB]
  refine str_int ?_
  repeat first | with_reducible refine Eq.mpr wps_cons ?_ | with_reducible refine Eq.mpr wps_pass ?_ | with_reducible refine Eq.mpr wps_nil ?_ | with_reducible refine Eq.mpr wps_set ?_ | with_reducible refine Eq.mpr wps_do ?_ | with_reducible refine Eq.mpr wps_ret ?_ | with_reducible refine Eq.mpr wps_retN ?_ | with_reducible refine Eq.mpr wps_brk ?_ | with_reducible refine Eq.mpr wps_cnt ?_ | with_reducible refine Eq.mpr wps_if ?_ | with_reducible refine Eq.mpr wps_asg ?_ | with_reducible refine wps_asgL ?_ | with_reducible refine Eq.mpr wps_put ?_ | with_reducible refine Eq.mpr wps_dput ?_ | with_reducible refine Eq.mpr wps_aug ?_ | with_reducible refine Eq.mpr wps_par ?_ | with_reducible refine Eq.mpr wps_for ?_ | with_reducible refine Eq.mpr wps_wh ?_ | with_reducible refine wh_go ?_ | with_reducible refine fo_goN ?_ | with_reducible refine fo_goC ?_ | simp only [wp_tup0, wp_tup1, wp_tup2, wp_tup3, wp_tup4, wp_tup5, wp_tup6, wp_tup7, wp_lst0, wp_lst1, wp_lst2, wp_lst3, wp_lst4, wp_lst5, wp_lst6, wp_lst7, wp_lst8, wp_lst9, wp_lst10, wp_lst11, wp_lst12, wp_bd, wp_lc, ql_nx, ql_ct, ql_bk, ql_rt, iSeq, iEnu, Mir.iRev, chkR, chkT, chkO, lstO, wp_some, wp_ite, wp_none, bd_some, eVar, eC, eOp, eUn, eFn, eMt, aNil, aCons,  eAnd, eOr, eNot, eIf, eIsi, eChain, bTest, bTruth, bAnd, bOr, bNot, bYes, eSl, pNo, pAt, eRinA, eRinB, eDnew, eDin, eDget, eDget2, tgM_name, tgM_tup, tgMs_nil, tgMs_name, tgMs_tup, List.getElem?_cons_succ, List.getElem?_cons_zero, List.set_cons_succ, List.set_cons_zero, List.map_cons, List.map_nil, List.length_cons, List.length_nil, List.replicate, List.nil_append, List.cons_append, if_true, if_false, Bool.false_eq_true, Bool.true_eq_false, Nat.reduceAdd, Nat.reduceSub, Nat.reduceLeDiff, Nat.zero_add, Bool.not_true, Bool.not_false, nc0, nc1, nc2, nc3, not_true_eq_false, not_false_eq_true, ii, addI, subI, negI, int1, eqI, neI, eqS, neS, ix0, ix1, ix2, ix3, decide_eq_true_eq, Bool.not_eq_true', decide_eq_false_iff_not, truB, truN, keyI, keyS, lenT, wipeM, qw_nx, qw_ct, qw_bk, qw_rt, qf_nx, qf_ct, qf_bk, qf_rt, okN, lcf_goN, lcf_goC, lcf_goT, slT1, slT2, List.drop_succ_cons, List.drop_zero, List.take_succ_cons, List.take_zero, true_and, and_true, ofString_inj, String.reduceEq, decide_true, decide_false, Bool.or_self, Bool.or_true, Bool.true_or, Bool.or_false, Bool.false_or, Bool.and_self, Bool.and_true, Bool.true_and, Bool.and_false, Bool.false_and, isN, isnN, Mir.isNon, truB]
  exact h _ Fr.refl⟩
/-! ### labels -/
theorem lcfC {ρ : EnvM} {s : Sto} {c : Option (Nat × List W)} {x : W} {xs : List W} {i : Nat} {f : FE} {R : List W → Sto → Prop} (h : okc c s) : Wp (lcf (.name i) bYes f c ρ (x :: xs) s) R = Wp (f (ρ.set i (some x)) s) (fun w s2 => Wp (lcf (.name i) bYes f c ρ xs s2) (fun ws s3 => R (w :: ws) s3)) := lcf_goC h
theorem lcfN1 {ρ : EnvM} {s : Sto} {c : Option (Nat × List W)} {t : Tg} {f : FE} {R : List W → Sto → Prop} (h : okc c s) : Wp (lcf t bYes f c ρ [] s) R = R [] s := lcf_goN h
theorem lab_lc : ∀ (l : List Str) (s : Sto) (ρ : EnvM) (R : List W → Sto → Prop), 1 < ρ.length → R (l.map fun _ => .bl true) s → Wp (lcf (.name 1) bYes (eFn FIsString (aCons (eVar 1) aNil)) none ρ (l.map W.str) s) R
  | [], s, ρ, R, _, h => by rw [List.map_nil, lcfN1 (by simp [okN])]; exact h
  | z :: l, s, ρ, R, hρ, h => by
    rw [List.map_cons, lcfC (by simp [okN])]
    have e : (ρ.set 1 (some (.str z)))[1]? = some (some (.str z)) := by simp [hρ]
    simp only [eFn, aCons, aNil, eVar, e, bd_some]
    exact str_str (lab_lc l s ρ _ hρ h)
theorem kyS : ∀ l : List Str, kyOf (l.map W.str) = some (l.map .inr)
  | [] => rfl
  | z :: l => by rw [List.map_cons, kyOf, kyS l]; rfl
theorem bls_t : ∀ l : List Str, blsOf (l.map fun _ => W.bl true) = some (l.map fun _ => true)
  | [] => rfl
  | b :: r => by rw [List.map_cons, blsOf, bls_t r]; rfl
theorem t_labels {l : List Str} (hl : l.length ≤ 1000) : Ts "is_labels" (.tup (l.map W.str)) (decide ((Vs.dn (l.map .inr) : Int) = (l.length : Int))) := ⟨FIsLabels, rfl, fun s R h => by
  unfold FIsLabels
  rw [wp_mkF (by rfl)]
  unfold BIsLabels
  repeat first | with_reducible refine Eq.mpr wps_cons ?_ | with_reducible refine Eq.mpr wps_pass ?_ | with_reducible refine Eq.mpr wps_nil ?_ | with_reducible refine Eq.mpr wps_set ?_ | with_reducible refine Eq.mpr wps_do ?_ | with_reducible refine Eq.mpr wps_ret ?_ | with_reducible refine Eq.mpr wps_retN ?_ | with_reducible refine Eq.mpr wps_brk ?_ | with_reducible refine Eq.mpr wps_cnt ?_ | with_reducible refine Eq.mpr wps_if ?_ | with_reducible refine Eq.mpr wps_asg ?_ | with_reducible refine wps_asgL ?_ | with_reducible refine Eq.mpr wps_put ?_ | with_reducible refine Eq.mpr wps_dput ?_ | with_reducible refine Eq.mpr wps_aug ?_ | with_reducible refine Eq.mpr wps_par ?_ | with_reducible refine Eq.mpr wps_for ?_ | with_reducible refine Eq.mpr wps_wh ?_ | with_reducible refine wh_go ?_ | with_reducible refine fo_goN ?_ | with_reducible refine fo_goC ?_ | simp only [wp_tup0, wp_tup1, wp_tup2, wp_tup3, wp_tup4, wp_tup5, wp_tup6, wp_tup7, wp_lst0, wp_lst1, wp_lst2, wp_lst3, wp_lst4, wp_lst5, wp_lst6, wp_lst7, wp_lst8, wp_lst9, wp_lst10, wp_lst11, wp_lst12, wp_bd, wp_lc, ql_nx, ql_ct, ql_bk, ql_rt, iSeq, iEnu, Mir.iRev, chkR, chkT, chkO, lstO, wp_some, wp_ite, wp_none, bd_some, eVar, eC, eOp, eUn, eFn, eMt, aNil, aCons,  eAnd, eOr, eNot, eIf, eIsi, eChain, bTest, bTruth, bAnd, bOr, bNot, bYes, eSl, pNo, pAt, eRinA, eRinB, eDnew, eDin, eDget, eDget2, tgM_name, tgM_tup, tgMs_nil, tgMs_name, tgMs_tup, List.getElem?_cons_succ, List.getElem?_cons_zero, List.set_cons_succ, List.set_cons_zero, List.map_cons, List.map_nil, List.length_cons, List.length_nil, List.replicate, List.nil_append, List.cons_append, if_true, if_false, Bool.false_eq_true, Bool.true_eq_false, Nat.reduceAdd, Nat.reduceSub, Nat.reduceLeDiff, Nat.zero_add, Bool.not_true, Bool.not_false, nc0, nc1, nc2, nc3, not_true_eq_false, not_false_eq_true, ii, addI, subI, negI, int1, eqI, neI, eqS, neS, ix0, ix1, ix2, ix3, decide_eq_true_eq, Bool.not_eq_true', decide_eq_false_iff_not, truB, truN, keyI, keyS, lenT, wipeM, qw_nx, qw_ct, qw_bk, qw_rt, qf_nx, qf_ct, qf_bk, qf_rt, okN, lcf_goN, lcf_goC, lcf_goT, slT1, slT2, List.drop_succ_cons, List.drop_zero, List.take_succ_cons, List.take_zero, true_and, and_true, ofString_inj, String.reduceEq, decide_true, decide_false, Bool.or_self, Bool.or_true, Bool.true_or, Bool.or_false, Bool.false_or, Bool.and_self, Bool.and_true, Bool.true_and, Bool.and_false, Bool.false_and, isN, isnN, Mir.isNon, truB, tTup, ii9]
  refine ⟨by simp; omega, ?_⟩
  refine lab_lc l _ _ _ (by simp) ?_
  have ga : gAll [.ref s.length] (s ++ [.lst (l.map fun _ => .bl true)]) = some (.bl true, s ++ [.lst (l.map fun _ => .bl true)]) := by
    simp only [gAll, gLB, lstR gnew, bls_t]
    simp
  have hk : (l.map (Sum.inr : Str → L2.Key)).length ≤ 1000 := by simpa using hl
  repeat first | with_reducible refine Eq.mpr wps_cons ?_ | with_reducible refine Eq.mpr wps_pass ?_ | with_reducible refine Eq.mpr wps_nil ?_ | with_reducible refine Eq.mpr wps_set ?_ | with_reducible refine Eq.mpr wps_do ?_ | with_reducible refine Eq.mpr wps_ret ?_ | with_reducible refine Eq.mpr wps_retN ?_ | with_reducible refine Eq.mpr wps_brk ?_ | with_reducible refine Eq.mpr wps_cnt ?_ | with_reducible refine Eq.mpr wps_if ?_ | with_reducible refine Eq.mpr wps_asg ?_ | with_reducible refine wps_asgL ?_ | with_reducible refine Eq.mpr wps_put ?_ | with_reducible refine Eq.mpr wps_dput ?_ | with_reducible refine Eq.mpr wps_aug ?_ | with_reducible refine Eq.mpr wps_par ?_ | with_reducible refine Eq.mpr wps_for ?_ | with_reducible refine Eq.mpr wps_wh ?_ | with_reducible refine wh_go ?_ | with_reducible refine fo_goN ?_ | with_reducible refine fo_goC ?_ | simp only [wp_tup0, wp_tup1, wp_tup2, wp_tup3, wp_tup4, wp_tup5, wp_tup6, wp_tup7, wp_lst0, wp_lst1, wp_lst2, wp_lst3, wp_lst4, wp_lst5, wp_lst6, wp_lst7, wp_lst8, wp_lst9, wp_lst10, wp_lst11, wp_lst12, wp_bd, wp_lc, ql_nx, ql_ct, ql_bk, ql_rt, iSeq, iEnu, Mir.iRev, chkR, chkT, chkO, lstO, wp_some, wp_ite, wp_none, bd_some, eVar, eC, eOp, eUn, eFn, eMt, aNil, aCons,  eAnd, eOr, eNot, eIf, eIsi, eChain, bTest, bTruth, bAnd, bOr, bNot, bYes, eSl, pNo, pAt, eRinA, eRinB, eDnew, eDin, eDget, eDget2, tgM_name, tgM_tup, tgMs_nil, tgMs_name, tgMs_tup, List.getElem?_cons_succ, List.getElem?_cons_zero, List.set_cons_succ, List.set_cons_zero, List.map_cons, List.map_nil, List.length_cons, List.length_nil, List.replicate, List.nil_append, List.cons_append, if_true, if_false, Bool.false_eq_true, Bool.true_eq_false, Nat.reduceAdd, Nat.reduceSub, Nat.reduceLeDiff, Nat.zero_add, Bool.not_true, Bool.not_false, nc0, nc1, nc2, nc3, not_true_eq_false, not_false_eq_true, ii, addI, subI, negI, int1, eqI, neI, eqS, neS, ix0, ix1, ix2, ix3, decide_eq_true_eq, Bool.not_eq_true', decide_eq_false_iff_not, truB, truN, keyI, keyS, lenT, wipeM, qw_nx, qw_ct, qw_bk, qw_rt, qf_nx, qf_ct, qf_bk, qf_rt, okN, lcf_goN, lcf_goC, lcf_goT, slT1, slT2, List.drop_succ_cons, List.drop_zero, List.take_succ_cons, List.take_zero, true_and, and_true, ofString_inj, String.reduceEq, decide_true, decide_false, Bool.or_self, Bool.or_true, Bool.true_or, Bool.or_false, Bool.false_or, Bool.and_self, Bool.and_true, Bool.true_and, Bool.and_false, Bool.false_and, isN, isnN, Mir.isNon, truB, ga, eLsc, kyS, hk, List.length_map]
  rw [if_pos hl]
  exact h _ Fr.app⟩
theorem t_labelsS {z : Str} : Ts "is_labels" (.str z) false := ⟨FIsLabels, rfl, fun s R h => by
  unfold FIsLabels
  rw [wp_mkF (by rfl)]
  unfold BIsLabels
  repeat first | with_reducible refine Eq.mpr wps_cons ?_ | with_reducible refine Eq.mpr wps_pass ?_ | with_reducible refine Eq.mpr wps_nil ?_ | with_reducible refine Eq.mpr wps_set ?_ | with_reducible refine Eq.mpr wps_do ?_ | with_reducible refine Eq.mpr wps_ret ?_ | with_reducible refine Eq.mpr wps_retN ?_ | with_reducible refine Eq.mpr wps_brk ?_ | with_reducible refine Eq.mpr wps_cnt ?_ | with_reducible refine Eq.mpr wps_if ?_ | with_reducible refine Eq.mpr wps_asg ?_ | with_reducible refine wps_asgL ?_ | with_reducible refine Eq.mpr wps_put ?_ | with_reducible refine Eq.mpr wps_dput ?_ | with_reducible refine Eq.mpr wps_aug ?_ | with_reducible refine Eq.mpr wps_par ?_ | with_reducible refine Eq.mpr wps_for ?_ | with_reducible refine Eq.mpr wps_wh ?_ | with_reducible refine wh_go ?_ | with_reducible refine fo_goN ?_ | with_reducible refine fo_goC ?_ | simp only [wp_tup0, wp_tup1, wp_tup2, wp_tup3, wp_tup4, wp_tup5, wp_tup6, wp_tup7, wp_lst0, wp_lst1, wp_lst2, wp_lst3, wp_lst4, wp_lst5, wp_lst6, wp_lst7, wp_lst8, wp_lst9, wp_lst10, wp_lst11, wp_lst12, wp_bd, wp_lc, ql_nx, ql_ct, ql_bk, ql_rt, iSeq, iEnu, Mir.iRev, chkR, chkT, chkO, lstO, wp_some, wp_ite, wp_none, bd_some, eVar, eC, eOp, eUn, eFn, eMt, aNil, aCons,  eAnd, eOr, eNot, eIf, eIsi, eChain, bTest, bTruth, bAnd, bOr, bNot, bYes, eSl, pNo, pAt, eRinA, eRinB, eDnew, eDin, eDget, eDget2, tgM_name, tgM_tup, tgMs_nil, tgMs_name, tgMs_tup, List.getElem?_cons_succ, List.getElem?_cons_zero, List.set_cons_succ, List.set_cons_zero, List.map_cons, List.map_nil, List.length_cons, List.length_nil, List.replicate, List.nil_append, List.cons_append, if_true, if_false, Bool.false_eq_true, Bool.true_eq_false, Nat.reduceAdd, Nat.reduceSub, Nat.reduceLeDiff, Nat.zero_add, Bool.not_true, Bool.not_false, nc0, nc1, nc2, nc3, not_true_eq_false, not_false_eq_true, ii, addI, subI, negI, int1, eqI, neI, eqS, neS, ix0, ix1, ix2, ix3, decide_eq_true_eq, Bool.not_eq_true', decide_eq_false_iff_not, truB, truN, keyI, keyS, lenT, wipeM, qw_nx, qw_ct, qw_bk, qw_rt, qf_nx, qf_ct, qf_bk, qf_rt, okN, lcf_goN, lcf_goC, lcf_goT, slT1, slT2, List.drop_succ_cons, List.drop_zero, List.take_succ_cons, List.take_zero, true_and, and_true, ofString_inj, String.reduceEq, decide_true, decide_false, Bool.or_self, Bool.or_true, Bool.true_or, Bool.or_false, Bool.false_or, Bool.and_self, Bool.and_true, Bool.true_and, Bool.and_false, Bool.false_and, isN, isnN, Mir.isNon, truB, tStr, ii8]
  exact h _ Fr.refl⟩
end K62

set_option Elab.async false
set_option linter.all false
set_option maxRecDepth 100000
namespace K62
open PySem PySem.Spec PyProof.Rows L2 Mir
/-! ### instructions -/
theorem truTc {y : W} {l : List W} {s : Sto} : truW (.tup (y :: l)) s = some true := rfl
theorem truTn {s : Sto} : truW (.tup []) s = some false := rfl
theorem zp0 {l : List W} : zipW [] l = [] := rfl
theorem zp1 {a b : W} : zipW [a] [b] = [.tup [a, b]] := rfl
theorem zp2 {a b c d : W} : zipW [a, c] [b, d] = [.tup [a, b], .tup [c, d]] := rfl
section
variable {s : Sto} {R : W → Sto → Prop} {tag : Str}
theorem inst0 (h : tl T_FORMS tag = some (some (.tup []))) (hR : R (.bl true) s) : Wp (FIsInstruction [.tup [.str tag]] s) R := by
  unfold FIsInstruction
  rw [wp_mkF (by rfl)]
  unfold BIsInstruction
  repeat first | with_reducible refine Eq.mpr wps_cons ?_ | with_reducible refine Eq.mpr wps_pass ?_ | with_reducible refine Eq.mpr wps_nil ?_ | with_reducible refine Eq.mpr wps_set ?_ | with_reducible refine Eq.mpr wps_do ?_ | with_reducible refine Eq.mpr wps_ret ?_ | with_reducible refine Eq.mpr wps_retN ?_ | with_reducible refine Eq.mpr wps_brk ?_ | with_reducible refine Eq.mpr wps_cnt ?_ | with_reducible refine Eq.mpr wps_if ?_ | with_reducible refine Eq.mpr wps_asg ?_ | with_reducible refine wps_asgL ?_ | with_reducible refine Eq.mpr wps_put ?_ | with_reducible refine Eq.mpr wps_dput ?_ | with_reducible refine Eq.mpr wps_aug ?_ | with_reducible refine Eq.mpr wps_par ?_ | with_reducible refine Eq.mpr wps_for ?_ | with_reducible refine Eq.mpr wps_wh ?_ | with_reducible refine wh_go ?_ | with_reducible refine fo_goN ?_ | with_reducible refine fo_goC ?_ | simp only [wp_tup0, wp_tup1, wp_tup2, wp_tup3, wp_tup4, wp_tup5, wp_tup6, wp_tup7, wp_lst0, wp_lst1, wp_lst2, wp_lst3, wp_lst4, wp_lst5, wp_lst6, wp_lst7, wp_lst8, wp_lst9, wp_lst10, wp_lst11, wp_lst12, wp_bd, wp_lc, ql_nx, ql_ct, ql_bk, ql_rt, iSeq, iEnu, Mir.iRev, chkR, chkT, chkO, lstO, wp_some, wp_ite, wp_none, bd_some, eVar, eC, eOp, eUn, eFn, eMt, aNil, aCons,  eAnd, eOr, eNot, eIf, eIsi, eChain, bTest, bTruth, bAnd, bOr, bNot, bYes, eSl, pNo, pAt, eRinA, eRinB, eDnew, eDin, eDget, eDget2, tgM_name, tgM_tup, tgMs_nil, tgMs_name, tgMs_tup, List.getElem?_cons_succ, List.getElem?_cons_zero, List.set_cons_succ, List.set_cons_zero, List.map_cons, List.map_nil, List.length_cons, List.length_nil, List.replicate, List.nil_append, List.cons_append, if_true, if_false, Bool.false_eq_true, Bool.true_eq_false, Nat.reduceAdd, Nat.reduceSub, Nat.reduceLeDiff, Nat.zero_add, Bool.not_true, Bool.not_false, nc0, nc1, nc2, nc3, not_true_eq_false, not_false_eq_true, ii, addI, subI, negI, int1, eqI, neI, eqS, neS, ix0, ix1, ix2, ix3, decide_eq_true_eq, Bool.not_eq_true', decide_eq_false_iff_not, truB, truN, keyI, keyS, lenT, wipeM, qw_nx, qw_ct, qw_bk, qw_rt, qf_nx, qf_ct, qf_bk, qf_rt, okN, lcf_goN, lcf_goC, lcf_goT, slT1, slT2, List.drop_succ_cons, List.drop_zero, List.take_succ_cons, List.take_zero, true_and, and_true, ofString_inj, String.reduceEq, decide_true, decide_false, Bool.or_self, Bool.or_true, Bool.true_or, Bool.or_false, Bool.false_or, Bool.and_self, Bool.and_true, Bool.true_and, Bool.and_false, Bool.false_and, isN, isnN, Mir.isNon, truB, truTc]
  refine str_str ?_
  repeat first | with_reducible refine Eq.mpr wps_cons ?_ | with_reducible refine Eq.mpr wps_pass ?_ | with_reducible refine Eq.mpr wps_nil ?_ | with_reducible refine Eq.mpr wps_set ?_ | with_reducible refine Eq.mpr wps_do ?_ | with_reducible refine Eq.mpr wps_ret ?_ | with_reducible refine Eq.mpr wps_retN ?_ | with_reducible refine Eq.mpr wps_brk ?_ | with_reducible refine Eq.mpr wps_cnt ?_ | with_reducible refine Eq.mpr wps_if ?_ | with_reducible refine Eq.mpr wps_asg ?_ | with_reducible refine wps_asgL ?_ | with_reducible refine Eq.mpr wps_put ?_ | with_reducible refine Eq.mpr wps_dput ?_ | with_reducible refine Eq.mpr wps_aug ?_ | with_reducible refine Eq.mpr wps_par ?_ | with_reducible refine Eq.mpr wps_for ?_ | with_reducible refine Eq.mpr wps_wh ?_ | with_reducible refine wh_go ?_ | with_reducible refine fo_goN ?_ | with_reducible refine fo_goC ?_ | simp only [wp_tup0, wp_tup1, wp_tup2, wp_tup3, wp_tup4, wp_tup5, wp_tup6, wp_tup7, wp_lst0, wp_lst1, wp_lst2, wp_lst3, wp_lst4, wp_lst5, wp_lst6, wp_lst7, wp_lst8, wp_lst9, wp_lst10, wp_lst11, wp_lst12, wp_bd, wp_lc, ql_nx, ql_ct, ql_bk, ql_rt, iSeq, iEnu, Mir.iRev, chkR, chkT, chkO, lstO, wp_some, wp_ite, wp_none, bd_some, eVar, eC, eOp, eUn, eFn, eMt, aNil, aCons,  eAnd, eOr, eNot, eIf, eIsi, eChain, bTest, bTruth, bAnd, bOr, bNot, bYes, eSl, pNo, pAt, eRinA, eRinB, eDnew, eDin, eDget, eDget2, tgM_name, tgM_tup, tgMs_nil, tgMs_name, tgMs_tup, List.getElem?_cons_succ, List.getElem?_cons_zero, List.set_cons_succ, List.set_cons_zero, List.map_cons, List.map_nil, List.length_cons, List.length_nil, List.replicate, List.nil_append, List.cons_append, if_true, if_false, Bool.false_eq_true, Bool.true_eq_false, Nat.reduceAdd, Nat.reduceSub, Nat.reduceLeDiff, Nat.zero_add, Bool.not_true, Bool.not_false, nc0, nc1, nc2, nc3, not_true_eq_false, not_false_eq_true, ii, addI, subI, negI, int1, eqI, neI, eqS, neS, ix0, ix1, ix2, ix3, decide_eq_true_eq, Bool.not_eq_true', decide_eq_false_iff_not, truB, truN, keyI, keyS, lenT, wipeM, qw_nx, qw_ct, qw_bk, qw_rt, qf_nx, qf_ct, qf_bk, qf_rt, okN, lcf_goN, lcf_goC, lcf_goT, slT1, slT2, List.drop_succ_cons, List.drop_zero, List.take_succ_cons, List.take_zero, true_and, and_true, ofString_inj, String.reduceEq, decide_true, decide_false, Bool.or_self, Bool.or_true, Bool.true_or, Bool.or_false, Bool.false_or, Bool.and_self, Bool.and_true, Bool.true_and, Bool.and_false, Bool.false_and, isN, isnN, Mir.isNon, truB, eCin, eCget, h, Option.isSome, Int.reduceEq, Int.reduceAdd]
  repeat first | with_reducible refine Eq.mpr wps_cons ?_ | with_reducible refine Eq.mpr wps_pass ?_ | with_reducible refine Eq.mpr wps_nil ?_ | with_reducible refine Eq.mpr wps_set ?_ | with_reducible refine Eq.mpr wps_do ?_ | with_reducible refine Eq.mpr wps_ret ?_ | with_reducible refine Eq.mpr wps_retN ?_ | with_reducible refine Eq.mpr wps_brk ?_ | with_reducible refine Eq.mpr wps_cnt ?_ | with_reducible refine Eq.mpr wps_if ?_ | with_reducible refine Eq.mpr wps_asg ?_ | with_reducible refine wps_asgL ?_ | with_reducible refine Eq.mpr wps_put ?_ | with_reducible refine Eq.mpr wps_dput ?_ | with_reducible refine Eq.mpr wps_aug ?_ | with_reducible refine Eq.mpr wps_par ?_ | with_reducible refine Eq.mpr wps_for ?_ | with_reducible refine Eq.mpr wps_wh ?_ | with_reducible refine wh_go ?_ | with_reducible refine fo_goN ?_ | with_reducible refine fo_goC ?_ | simp only [wp_tup0, wp_tup1, wp_tup2, wp_tup3, wp_tup4, wp_tup5, wp_tup6, wp_tup7, wp_lst0, wp_lst1, wp_lst2, wp_lst3, wp_lst4, wp_lst5, wp_lst6, wp_lst7, wp_lst8, wp_lst9, wp_lst10, wp_lst11, wp_lst12, wp_bd, wp_lc, ql_nx, ql_ct, ql_bk, ql_rt, iSeq, iEnu, Mir.iRev, chkR, chkT, chkO, lstO, wp_some, wp_ite, wp_none, bd_some, eVar, eC, eOp, eUn, eFn, eMt, aNil, aCons,  eAnd, eOr, eNot, eIf, eIsi, eChain, bTest, bTruth, bAnd, bOr, bNot, bYes, eSl, pNo, pAt, eRinA, eRinB, eDnew, eDin, eDget, eDget2, tgM_name, tgM_tup, tgMs_nil, tgMs_name, tgMs_tup, List.getElem?_cons_succ, List.getElem?_cons_zero, List.set_cons_succ, List.set_cons_zero, List.map_cons, List.map_nil, List.length_cons, List.length_nil, List.replicate, List.nil_append, List.cons_append, if_true, if_false, Bool.false_eq_true, Bool.true_eq_false, Nat.reduceAdd, Nat.reduceSub, Nat.reduceLeDiff, Nat.zero_add, Bool.not_true, Bool.not_false, nc0, nc1, nc2, nc3, not_true_eq_false, not_false_eq_true, ii, addI, subI, negI, int1, eqI, neI, eqS, neS, ix0, ix1, ix2, ix3, decide_eq_true_eq, Bool.not_eq_true', decide_eq_false_iff_not, truB, truN, keyI, keyS, lenT, wipeM, qw_nx, qw_ct, qw_bk, qw_rt, qf_nx, qf_ct, qf_bk, qf_rt, okN, lcf_goN, lcf_goC, lcf_goT, slT1, slT2, List.drop_succ_cons, List.drop_zero, List.take_succ_cons, List.take_zero, true_and, and_true, ofString_inj, String.reduceEq, decide_true, decide_false, Bool.or_self, Bool.or_true, Bool.true_or, Bool.or_false, Bool.false_or, Bool.and_self, Bool.and_true, Bool.true_and, Bool.and_false, Bool.false_and, isN, isnN, Mir.isNon, truB, Mir.iZip, sl1, zp0]
  exact hR
theorem inst1 {f : Str} {p : W} {b : Bool} (h : tl T_FORMS tag = some (some (.tup [.fn f]))) (ht : Ts f p b) (hR : ∀ s', Mir.Fr [] s s' → R (.bl b) s') : Wp (FIsInstruction [.tup [.str tag, p]] s) R := by
  obtain ⟨F, h1, h2⟩ := ht
  unfold FIsInstruction
  rw [wp_mkF (by rfl)]
  unfold BIsInstruction
  repeat first | with_reducible refine Eq.mpr wps_cons ?_ | with_reducible refine Eq.mpr wps_pass ?_ | with_reducible refine Eq.mpr wps_nil ?_ | with_reducible refine Eq.mpr wps_set ?_ | with_reducible refine Eq.mpr wps_do ?_ | with_reducible refine Eq.mpr wps_ret ?_ | with_reducible refine Eq.mpr wps_retN ?_ | with_reducible refine Eq.mpr wps_brk ?_ | with_reducible refine Eq.mpr wps_cnt ?_ | with_reducible refine Eq.mpr wps_if ?_ | with_reducible refine Eq.mpr wps_asg ?_ | with_reducible refine wps_asgL ?_ | with_reducible refine Eq.mpr wps_put ?_ | with_reducible refine Eq.mpr wps_dput ?_ | with_reducible refine Eq.mpr wps_aug ?_ | with_reducible refine Eq.mpr wps_par ?_ | with_reducible refine Eq.mpr wps_for ?_ | with_reducible refine Eq.mpr wps_wh ?_ | with_reducible refine wh_go ?_ | with_reducible refine fo_goN ?_ | with_reducible refine fo_goC ?_ | simp only [wp_tup0, wp_tup1, wp_tup2, wp_tup3, wp_tup4, wp_tup5, wp_tup6, wp_tup7, wp_lst0, wp_lst1, wp_lst2, wp_lst3, wp_lst4, wp_lst5, wp_lst6, wp_lst7, wp_lst8, wp_lst9, wp_lst10, wp_lst11, wp_lst12, wp_bd, wp_lc, ql_nx, ql_ct, ql_bk, ql_rt, iSeq, iEnu, Mir.iRev, chkR, chkT, chkO, lstO, wp_some, wp_ite, wp_none, bd_some, eVar, eC, eOp, eUn, eFn, eMt, aNil, aCons,  eAnd, eOr, eNot, eIf, eIsi, eChain, bTest, bTruth, bAnd, bOr, bNot, bYes, eSl, pNo, pAt, eRinA, eRinB, eDnew, eDin, eDget, eDget2, tgM_name, tgM_tup, tgMs_nil, tgMs_name, tgMs_tup, List.getElem?_cons_succ, List.getElem?_cons_zero, List.set_cons_succ, List.set_cons_zero, List.map_cons, List.map_nil, List.length_cons, List.length_nil, List.replicate, List.nil_append, List.cons_append, if_true, if_false, Bool.false_eq_true, Bool.true_eq_false, Nat.reduceAdd, Nat.reduceSub, Nat.reduceLeDiff, Nat.zero_add, Bool.not_true, Bool.not_false, nc0, nc1, nc2, nc3, not_true_eq_false, not_false_eq_true, ii, addI, subI, negI, int1, eqI, neI, eqS, neS, ix0, ix1, ix2, ix3, decide_eq_true_eq, Bool.not_eq_true', decide_eq_false_iff_not, truB, truN, keyI, keyS, lenT, wipeM, qw_nx, qw_ct, qw_bk, qw_rt, qf_nx, qf_ct, qf_bk, qf_rt, okN, lcf_goN, lcf_goC, lcf_goT, slT1, slT2, List.drop_succ_cons, List.drop_zero, List.take_succ_cons, List.take_zero, true_and, and_true, ofString_inj, String.reduceEq, decide_true, decide_false, Bool.or_self, Bool.or_true, Bool.true_or, Bool.or_false, Bool.false_or, Bool.and_self, Bool.and_true, Bool.true_and, Bool.and_false, Bool.false_and, isN, isnN, Mir.isNon, truB, truTc]
  refine str_str ?_
  repeat first | with_reducible refine Eq.mpr wps_cons ?_ | with_reducible refine Eq.mpr wps_pass ?_ | with_reducible refine Eq.mpr wps_nil ?_ | with_reducible refine Eq.mpr wps_set ?_ | with_reducible refine Eq.mpr wps_do ?_ | with_reducible refine Eq.mpr wps_ret ?_ | with_reducible refine Eq.mpr wps_retN ?_ | with_reducible refine Eq.mpr wps_brk ?_ | with_reducible refine Eq.mpr wps_cnt ?_ | with_reducible refine Eq.mpr wps_if ?_ | with_reducible refine Eq.mpr wps_asg ?_ | with_reducible refine wps_asgL ?_ | with_reducible refine Eq.mpr wps_put ?_ | with_reducible refine Eq.mpr wps_dput ?_ | with_reducible refine Eq.mpr wps_aug ?_ | with_reducible refine Eq.mpr wps_par ?_ | with_reducible refine Eq.mpr wps_for ?_ | with_reducible refine Eq.mpr wps_wh ?_ | with_reducible refine wh_go ?_ | with_reducible refine fo_goN ?_ | with_reducible refine fo_goC ?_ | simp only [wp_tup0, wp_tup1, wp_tup2, wp_tup3, wp_tup4, wp_tup5, wp_tup6, wp_tup7, wp_lst0, wp_lst1, wp_lst2, wp_lst3, wp_lst4, wp_lst5, wp_lst6, wp_lst7, wp_lst8, wp_lst9, wp_lst10, wp_lst11, wp_lst12, wp_bd, wp_lc, ql_nx, ql_ct, ql_bk, ql_rt, iSeq, iEnu, Mir.iRev, chkR, chkT, chkO, lstO, wp_some, wp_ite, wp_none, bd_some, eVar, eC, eOp, eUn, eFn, eMt, aNil, aCons,  eAnd, eOr, eNot, eIf, eIsi, eChain, bTest, bTruth, bAnd, bOr, bNot, bYes, eSl, pNo, pAt, eRinA, eRinB, eDnew, eDin, eDget, eDget2, tgM_name, tgM_tup, tgMs_nil, tgMs_name, tgMs_tup, List.getElem?_cons_succ, List.getElem?_cons_zero, List.set_cons_succ, List.set_cons_zero, List.map_cons, List.map_nil, List.length_cons, List.length_nil, List.replicate, List.nil_append, List.cons_append, if_true, if_false, Bool.false_eq_true, Bool.true_eq_false, Nat.reduceAdd, Nat.reduceSub, Nat.reduceLeDiff, Nat.zero_add, Bool.not_true, Bool.not_false, nc0, nc1, nc2, nc3, not_true_eq_false, not_false_eq_true, ii, addI, subI, negI, int1, eqI, neI, eqS, neS, ix0, ix1, ix2, ix3, decide_eq_true_eq, Bool.not_eq_true', decide_eq_false_iff_not, truB, truN, keyI, keyS, lenT, wipeM, qw_nx, qw_ct, qw_bk, qw_rt, qf_nx, qf_ct, qf_bk, qf_rt, okN, lcf_goN, lcf_goC, lcf_goT, slT1, slT2, List.drop_succ_cons, List.drop_zero, List.take_succ_cons, List.take_zero, true_and, and_true, ofString_inj, String.reduceEq, decide_true, decide_false, Bool.or_self, Bool.or_true, Bool.true_or, Bool.or_false, Bool.false_or, Bool.and_self, Bool.and_true, Bool.true_and, Bool.and_false, Bool.false_and, isN, isnN, Mir.isNon, truB, eCin, eCget, h, Option.isSome, Int.reduceEq, Int.reduceAdd]
  repeat first | with_reducible refine Eq.mpr wps_cons ?_ | with_reducible refine Eq.mpr wps_pass ?_ | with_reducible refine Eq.mpr wps_nil ?_ | with_reducible refine Eq.mpr wps_set ?_ | with_reducible refine Eq.mpr wps_do ?_ | with_reducible refine Eq.mpr wps_ret ?_ | with_reducible refine Eq.mpr wps_retN ?_ | with_reducible refine Eq.mpr wps_brk ?_ | with_reducible refine Eq.mpr wps_cnt ?_ | with_reducible refine Eq.mpr wps_if ?_ | with_reducible refine Eq.mpr wps_asg ?_ | with_reducible refine wps_asgL ?_ | with_reducible refine Eq.mpr wps_put ?_ | with_reducible refine Eq.mpr wps_dput ?_ | with_reducible refine Eq.mpr wps_aug ?_ | with_reducible refine Eq.mpr wps_par ?_ | with_reducible refine Eq.mpr wps_for ?_ | with_reducible refine Eq.mpr wps_wh ?_ | with_reducible refine wh_go ?_ | with_reducible refine fo_goN ?_ | with_reducible refine fo_goC ?_ | simp only [wp_tup0, wp_tup1, wp_tup2, wp_tup3, wp_tup4, wp_tup5, wp_tup6, wp_tup7, wp_lst0, wp_lst1, wp_lst2, wp_lst3, wp_lst4, wp_lst5, wp_lst6, wp_lst7, wp_lst8, wp_lst9, wp_lst10, wp_lst11, wp_lst12, wp_bd, wp_lc, ql_nx, ql_ct, ql_bk, ql_rt, iSeq, iEnu, Mir.iRev, chkR, chkT, chkO, lstO, wp_some, wp_ite, wp_none, bd_some, eVar, eC, eOp, eUn, eFn, eMt, aNil, aCons,  eAnd, eOr, eNot, eIf, eIsi, eChain, bTest, bTruth, bAnd, bOr, bNot, bYes, eSl, pNo, pAt, eRinA, eRinB, eDnew, eDin, eDget, eDget2, tgM_name, tgM_tup, tgMs_nil, tgMs_name, tgMs_tup, List.getElem?_cons_succ, List.getElem?_cons_zero, List.set_cons_succ, List.set_cons_zero, List.map_cons, List.map_nil, List.length_cons, List.length_nil, List.replicate, List.nil_append, List.cons_append, if_true, if_false, Bool.false_eq_true, Bool.true_eq_false, Nat.reduceAdd, Nat.reduceSub, Nat.reduceLeDiff, Nat.zero_add, Bool.not_true, Bool.not_false, nc0, nc1, nc2, nc3, not_true_eq_false, not_false_eq_true, ii, addI, subI, negI, int1, eqI, neI, eqS, neS, ix0, ix1, ix2, ix3, decide_eq_true_eq, Bool.not_eq_true', decide_eq_false_iff_not, truB, truN, keyI, keyS, lenT, wipeM, qw_nx, qw_ct, qw_bk, qw_rt, qf_nx, qf_ct, qf_bk, qf_rt, okN, lcf_goN, lcf_goC, lcf_goT, slT1, slT2, List.drop_succ_cons, List.drop_zero, List.take_succ_cons, List.take_zero, true_and, and_true, ofString_inj, String.reduceEq, decide_true, decide_false, Bool.or_self, Bool.or_true, Bool.true_or, Bool.or_false, Bool.false_or, Bool.and_self, Bool.and_true, Bool.true_and, Bool.and_false, Bool.false_and, isN, isnN, Mir.isNon, truB, Mir.iZip, sl1, zp1]
  refine wp_callV rfl h1 ?_
  repeat first | with_reducible refine Eq.mpr wps_cons ?_ | with_reducible refine Eq.mpr wps_pass ?_ | with_reducible refine Eq.mpr wps_nil ?_ | with_reducible refine Eq.mpr wps_set ?_ | with_reducible refine Eq.mpr wps_do ?_ | with_reducible refine Eq.mpr wps_ret ?_ | with_reducible refine Eq.mpr wps_retN ?_ | with_reducible refine Eq.mpr wps_brk ?_ | with_reducible refine Eq.mpr wps_cnt ?_ | with_reducible refine Eq.mpr wps_if ?_ | with_reducible refine Eq.mpr wps_asg ?_ | with_reducible refine wps_asgL ?_ | with_reducible refine Eq.mpr wps_put ?_ | with_reducible refine Eq.mpr wps_dput ?_ | with_reducible refine Eq.mpr wps_aug ?_ | with_reducible refine Eq.mpr wps_par ?_ | with_reducible refine Eq.mpr wps_for ?_ | with_reducible refine Eq.mpr wps_wh ?_ | with_reducible refine wh_go ?_ | with_reducible refine fo_goN ?_ | with_reducible refine fo_goC ?_ | simp only [wp_tup0, wp_tup1, wp_tup2, wp_tup3, wp_tup4, wp_tup5, wp_tup6, wp_tup7, wp_lst0, wp_lst1, wp_lst2, wp_lst3, wp_lst4, wp_lst5, wp_lst6, wp_lst7, wp_lst8, wp_lst9, wp_lst10, wp_lst11, wp_lst12, wp_bd, wp_lc, ql_nx, ql_ct, ql_bk, ql_rt, iSeq, iEnu, Mir.iRev, chkR, chkT, chkO, lstO, wp_some, wp_ite, wp_none, bd_some, eVar, eC, eOp, eUn, eFn, eMt, aNil, aCons,  eAnd, eOr, eNot, eIf, eIsi, eChain, bTest, bTruth, bAnd, bOr, bNot, bYes, eSl, pNo, pAt, eRinA, eRinB, eDnew, eDin, eDget, eDget2, tgM_name, tgM_tup, tgMs_nil, tgMs_name, tgMs_tup, List.getElem?_cons_succ, List.getElem?_cons_zero, List.set_cons_succ, List.set_cons_zero, List.map_cons, List.map_nil, List.length_cons, List.length_nil, List.replicate, List.nil_append, List.cons_append, if_true, if_false, Bool.false_eq_true, Bool.true_eq_false, Nat.reduceAdd, Nat.reduceSub, Nat.reduceLeDiff, Nat.zero_add, Bool.not_true, Bool.not_false, nc0, nc1, nc2, nc3, not_true_eq_false, not_false_eq_true, ii, addI, subI, negI, int1, eqI, neI, eqS, neS, ix0, ix1, ix2, ix3, decide_eq_true_eq, Bool.not_eq_true', decide_eq_false_iff_not, truB, truN, keyI, keyS, lenT, wipeM, qw_nx, qw_ct, qw_bk, qw_rt, qf_nx, qf_ct, qf_bk, qf_rt, okN, lcf_goN, lcf_goC, lcf_goT, slT1, slT2, List.drop_succ_cons, List.drop_zero, List.take_succ_cons, List.take_zero, true_and, and_true, ofString_inj, String.reduceEq, decide_true, decide_false, Bool.or_self, Bool.or_true, Bool.true_or, Bool.or_false, Bool.false_or, Bool.and_self, Bool.and_true, Bool.true_and, Bool.and_false, Bool.false_and, isN, isnN, Mir.isNon, truB]
  refine h2 _ _ fun s' f => ?_
  cases b with
  | true =>
    repeat first | with_reducible refine Eq.mpr wps_cons ?_ | with_reducible refine Eq.mpr wps_pass ?_ | with_reducible refine Eq.mpr wps_nil ?_ | with_reducible refine Eq.mpr wps_set ?_ | with_reducible refine Eq.mpr wps_do ?_ | with_reducible refine Eq.mpr wps_ret ?_ | with_reducible refine Eq.mpr wps_retN ?_ | with_reducible refine Eq.mpr wps_brk ?_ | with_reducible refine Eq.mpr wps_cnt ?_ | with_reducible refine Eq.mpr wps_if ?_ | with_reducible refine Eq.mpr wps_asg ?_ | with_reducible refine wps_asgL ?_ | with_reducible refine Eq.mpr wps_put ?_ | with_reducible refine Eq.mpr wps_dput ?_ | with_reducible refine Eq.mpr wps_aug ?_ | with_reducible refine Eq.mpr wps_par ?_ | with_reducible refine Eq.mpr wps_for ?_ | with_reducible refine Eq.mpr wps_wh ?_ | with_reducible refine wh_go ?_ | with_reducible refine fo_goN ?_ | with_reducible refine fo_goC ?_ | simp only [wp_tup0, wp_tup1, wp_tup2, wp_tup3, wp_tup4, wp_tup5, wp_tup6, wp_tup7, wp_lst0, wp_lst1, wp_lst2, wp_lst3, wp_lst4, wp_lst5, wp_lst6, wp_lst7, wp_lst8, wp_lst9, wp_lst10, wp_lst11, wp_lst12, wp_bd, wp_lc, ql_nx, ql_ct, ql_bk, ql_rt, iSeq, iEnu, Mir.iRev, chkR, chkT, chkO, lstO, wp_some, wp_ite, wp_none, bd_some, eVar, eC, eOp, eUn, eFn, eMt, aNil, aCons,  eAnd, eOr, eNot, eIf, eIsi, eChain, bTest, bTruth, bAnd, bOr, bNot, bYes, eSl, pNo, pAt, eRinA, eRinB, eDnew, eDin, eDget, eDget2, tgM_name, tgM_tup, tgMs_nil, tgMs_name, tgMs_tup, List.getElem?_cons_succ, List.getElem?_cons_zero, List.set_cons_succ, List.set_cons_zero, List.map_cons, List.map_nil, List.length_cons, List.length_nil, List.replicate, List.nil_append, List.cons_append, if_true, if_false, Bool.false_eq_true, Bool.true_eq_false, Nat.reduceAdd, Nat.reduceSub, Nat.reduceLeDiff, Nat.zero_add, Bool.not_true, Bool.not_false, nc0, nc1, nc2, nc3, not_true_eq_false, not_false_eq_true, ii, addI, subI, negI, int1, eqI, neI, eqS, neS, ix0, ix1, ix2, ix3, decide_eq_true_eq, Bool.not_eq_true', decide_eq_false_iff_not, truB, truN, keyI, keyS, lenT, wipeM, qw_nx, qw_ct, qw_bk, qw_rt, qf_nx, qf_ct, qf_bk, qf_rt, okN, lcf_goN, lcf_goC, lcf_goT, slT1, slT2, List.drop_succ_cons, List.drop_zero, List.take_succ_cons, List.take_zero, true_and, and_true, ofString_inj, String.reduceEq, decide_true, decide_false, Bool.or_self, Bool.or_true, Bool.true_or, Bool.or_false, Bool.false_or, Bool.and_self, Bool.and_true, Bool.true_and, Bool.and_false, Bool.false_and, isN, isnN, Mir.isNon, truB]
    exact hR _ f
  | false =>
    repeat first | with_reducible refine Eq.mpr wps_cons ?_ | with_reducible refine Eq.mpr wps_pass ?_ | with_reducible refine Eq.mpr wps_nil ?_ | with_reducible refine Eq.mpr wps_set ?_ | with_reducible refine Eq.mpr wps_do ?_ | with_reducible refine Eq.mpr wps_ret ?_ | with_reducible refine Eq.mpr wps_retN ?_ | with_reducible refine Eq.mpr wps_brk ?_ | with_reducible refine Eq.mpr wps_cnt ?_ | with_reducible refine Eq.mpr wps_if ?_ | with_reducible refine Eq.mpr wps_asg ?_ | with_reducible refine wps_asgL ?_ | with_reducible refine Eq.mpr wps_put ?_ | with_reducible refine Eq.mpr wps_dput ?_ | with_reducible refine Eq.mpr wps_aug ?_ | with_reducible refine Eq.mpr wps_par ?_ | with_reducible refine Eq.mpr wps_for ?_ | with_reducible refine Eq.mpr wps_wh ?_ | with_reducible refine wh_go ?_ | with_reducible refine fo_goN ?_ | with_reducible refine fo_goC ?_ | simp only [wp_tup0, wp_tup1, wp_tup2, wp_tup3, wp_tup4, wp_tup5, wp_tup6, wp_tup7, wp_lst0, wp_lst1, wp_lst2, wp_lst3, wp_lst4, wp_lst5, wp_lst6, wp_lst7, wp_lst8, wp_lst9, wp_lst10, wp_lst11, wp_lst12, wp_bd, wp_lc, ql_nx, ql_ct, ql_bk, ql_rt, iSeq, iEnu, Mir.iRev, chkR, chkT, chkO, lstO, wp_some, wp_ite, wp_none, bd_some, eVar, eC, eOp, eUn, eFn, eMt, aNil, aCons,  eAnd, eOr, eNot, eIf, eIsi, eChain, bTest, bTruth, bAnd, bOr, bNot, bYes, eSl, pNo, pAt, eRinA, eRinB, eDnew, eDin, eDget, eDget2, tgM_name, tgM_tup, tgMs_nil, tgMs_name, tgMs_tup, List.getElem?_cons_succ, List.getElem?_cons_zero, List.set_cons_succ, List.set_cons_zero, List.map_cons, List.map_nil, List.length_cons, List.length_nil, List.replicate, List.nil_append, List.cons_append, if_true, if_false, Bool.false_eq_true, Bool.true_eq_false, Nat.reduceAdd, Nat.reduceSub, Nat.reduceLeDiff, Nat.zero_add, Bool.not_true, Bool.not_false, nc0, nc1, nc2, nc3, not_true_eq_false, not_false_eq_true, ii, addI, subI, negI, int1, eqI, neI, eqS, neS, ix0, ix1, ix2, ix3, decide_eq_true_eq, Bool.not_eq_true', decide_eq_false_iff_not, truB, truN, keyI, keyS, lenT, wipeM, qw_nx, qw_ct, qw_bk, qw_rt, qf_nx, qf_ct, qf_bk, qf_rt, okN, lcf_goN, lcf_goC, lcf_goT, slT1, slT2, List.drop_succ_cons, List.drop_zero, List.take_succ_cons, List.take_zero, true_and, and_true, ofString_inj, String.reduceEq, decide_true, decide_false, Bool.or_self, Bool.or_true, Bool.true_or, Bool.or_false, Bool.false_or, Bool.and_self, Bool.and_true, Bool.true_and, Bool.and_false, Bool.false_and, isN, isnN, Mir.isNon, truB]
    exact hR _ f
theorem inst2 {f g : Str} {p q : W} {b c : Bool} (h : tl T_FORMS tag = some (some (.tup [.fn f, .fn g]))) (ht : Ts f p b) (hu : Ts g q c) (hR : ∀ s', Mir.Fr [] s s' → R (.bl (b && c)) s') : Wp (FIsInstruction [.tup [.str tag, p, q]] s) R := by
  obtain ⟨F, h1, h2⟩ := ht
  obtain ⟨G, g1, g2⟩ := hu
  unfold FIsInstruction
  rw [wp_mkF (by rfl)]
  unfold BIsInstruction
  repeat first | with_reducible refine Eq.mpr wps_cons ?_ | with_reducible refine Eq.mpr wps_pass ?_ | with_reducible refine Eq.mpr wps_nil ?_ | with_reducible refine Eq.mpr wps_set ?_ | with_reducible refine Eq.mpr wps_do ?_ | with_reducible refine Eq.mpr wps_ret ?_ | with_reducible refine Eq.mpr wps_retN ?_ | with_reducible refine Eq.mpr wps_brk ?_ | with_reducible refine Eq.mpr wps_cnt ?_ | with_reducible refine Eq.mpr wps_if ?_ | with_reducible refine Eq.mpr wps_asg ?_ | with_reducible refine wps_asgL ?_ | with_reducible refine Eq.mpr wps_put ?_ | with_reducible refine Eq.mpr wps_dput ?_ | with_reducible refine Eq.mpr wps_aug ?_ | with_reducible refine Eq.mpr wps_par ?_ | with_reducible refine Eq.mpr wps_for ?_ | with_reducible refine Eq.mpr wps_wh ?_ | with_reducible refine wh_go ?_ | with_reducible refine fo_goN ?_ | with_reducible refine fo_goC ?_ | simp only [wp_tup0, wp_tup1, wp_tup2, wp_tup3, wp_tup4, wp_tup5, wp_tup6, wp_tup7, wp_lst0, wp_lst1, wp_lst2, wp_lst3, wp_lst4, wp_lst5, wp_lst6, wp_lst7, wp_lst8, wp_lst9, wp_lst10, wp_lst11, wp_lst12, wp_bd, wp_lc, ql_nx, ql_ct, ql_bk, ql_rt, iSeq, iEnu, Mir.iRev, chkR, chkT, chkO, lstO, wp_some, wp_ite, wp_none, bd_some, eVar, eC, eOp, eUn, eFn, eMt, aNil, aCons,  eAnd, eOr, eNot, eIf, eIsi, eChain, bTest, bTruth, bAnd, bOr, bNot, bYes, eSl, pNo, pAt, eRinA, eRinB, eDnew, eDin, eDget, eDget2, tgM_name, tgM_tup, tgMs_nil, tgMs_name, tgMs_tup, List.getElem?_cons_succ, List.getElem?_cons_zero, List.set_cons_succ, List.set_cons_zero, List.map_cons, List.map_nil, List.length_cons, List.length_nil, List.replicate, List.nil_append, List.cons_append, if_true, if_false, Bool.false_eq_true, Bool.true_eq_false, Nat.reduceAdd, Nat.reduceSub, Nat.reduceLeDiff, Nat.zero_add, Bool.not_true, Bool.not_false, nc0, nc1, nc2, nc3, not_true_eq_false, not_false_eq_true, ii, addI, subI, negI, int1, eqI, neI, eqS, neS, ix0, ix1, ix2, ix3, decide_eq_true_eq, Bool.not_eq_true', decide_eq_false_iff_not, truB, truN, keyI, keyS, lenT, wipeM, qw_nx, qw_ct, qw_bk, qw_rt, qf_nx, qf_ct, qf_bk, qf_rt, okN, lcf_goN, lcf_goC, lcf_goT, slT1, slT2, List.drop_succ_cons, List.drop_zero, List.take_succ_cons, List.take_zero, true_and, and_true, ofString_inj, String.reduceEq, decide_true, decide_false, Bool.or_self, Bool.or_true, Bool.true_or, Bool.or_false, Bool.false_or, Bool.and_self, Bool.and_true, Bool.true_and, Bool.and_false, Bool.false_and, isN, isnN, Mir.isNon, truB, truTc]
  refine str_str ?_
  repeat first | with_reducible refine Eq.mpr wps_cons ?_ | with_reducible refine Eq.mpr wps_pass ?_ | with_reducible refine Eq.mpr wps_nil ?_ | with_reducible refine Eq.mpr wps_set ?_ | with_reducible refine Eq.mpr wps_do ?_ | with_reducible refine Eq.mpr wps_ret ?_ | with_reducible refine Eq.mpr wps_retN ?_ | with_reducible refine Eq.mpr wps_brk ?_ | with_reducible refine Eq.mpr wps_cnt ?_ | with_reducible refine Eq.mpr wps_if ?_ | with_reducible refine Eq.mpr wps_asg ?_ | with_reducible refine wps_asgL ?_ | with_reducible refine Eq.mpr wps_put ?_ | with_reducible refine Eq.mpr wps_dput ?_ | with_reducible refine Eq.mpr wps_aug ?_ | with_reducible refine Eq.mpr wps_par ?_ | with_reducible refine Eq.mpr wps_for ?_ | with_reducible refine Eq.mpr wps_wh ?_ | with_reducible refine wh_go ?_ | with_reducible refine fo_goN ?_ | with_reducible refine fo_goC ?_ | simp only [wp_tup0, wp_tup1, wp_tup2, wp_tup3, wp_tup4, wp_tup5, wp_tup6, wp_tup7, wp_lst0, wp_lst1, wp_lst2, wp_lst3, wp_lst4, wp_lst5, wp_lst6, wp_lst7, wp_lst8, wp_lst9, wp_lst10, wp_lst11, wp_lst12, wp_bd, wp_lc, ql_nx, ql_ct, ql_bk, ql_rt, iSeq, iEnu, Mir.iRev, chkR, chkT, chkO, lstO, wp_some, wp_ite, wp_none, bd_some, eVar, eC, eOp, eUn, eFn, eMt, aNil, aCons,  eAnd, eOr, eNot, eIf, eIsi, eChain, bTest, bTruth, bAnd, bOr, bNot, bYes, eSl, pNo, pAt, eRinA, eRinB, eDnew, eDin, eDget, eDget2, tgM_name, tgM_tup, tgMs_nil, tgMs_name, tgMs_tup, List.getElem?_cons_succ, List.getElem?_cons_zero, List.set_cons_succ, List.set_cons_zero, List.map_cons, List.map_nil, List.length_cons, List.length_nil, List.replicate, List.nil_append, List.cons_append, if_true, if_false, Bool.false_eq_true, Bool.true_eq_false, Nat.reduceAdd, Nat.reduceSub, Nat.reduceLeDiff, Nat.zero_add, Bool.not_true, Bool.not_false, nc0, nc1, nc2, nc3, not_true_eq_false, not_false_eq_true, ii, addI, subI, negI, int1, eqI, neI, eqS, neS, ix0, ix1, ix2, ix3, decide_eq_true_eq, Bool.not_eq_true', decide_eq_false_iff_not, truB, truN, keyI, keyS, lenT, wipeM, qw_nx, qw_ct, qw_bk, qw_rt, qf_nx, qf_ct, qf_bk, qf_rt, okN, lcf_goN, lcf_goC, lcf_goT, slT1, slT2, List.drop_succ_cons, List.drop_zero, List.take_succ_cons, List.take_zero, true_and, and_true, ofString_inj, String.reduceEq, decide_true, decide_false, Bool.or_self, Bool.or_true, Bool.true_or, Bool.or_false, Bool.false_or, Bool.and_self, Bool.and_true, Bool.true_and, Bool.and_false, Bool.false_and, isN, isnN, Mir.isNon, truB, eCin, eCget, h, Option.isSome, Int.reduceEq, Int.reduceAdd]
  repeat first | with_reducible refine Eq.mpr wps_cons ?_ | with_reducible refine Eq.mpr wps_pass ?_ | with_reducible refine Eq.mpr wps_nil ?_ | with_reducible refine Eq.mpr wps_set ?_ | with_reducible refine Eq.mpr wps_do ?_ | with_reducible refine Eq.mpr wps_ret ?_ | with_reducible refine Eq.mpr wps_retN ?_ | with_reducible refine Eq.mpr wps_brk ?_ | with_reducible refine Eq.mpr wps_cnt ?_ | with_reducible refine Eq.mpr wps_if ?_ | with_reducible refine Eq.mpr wps_asg ?_ | with_reducible refine wps_asgL ?_ | with_reducible refine Eq.mpr wps_put ?_ | with_reducible refine Eq.mpr wps_dput ?_ | with_reducible refine Eq.mpr wps_aug ?_ | with_reducible refine Eq.mpr wps_par ?_ | with_reducible refine Eq.mpr wps_for ?_ | with_reducible refine Eq.mpr wps_wh ?_ | with_reducible refine wh_go ?_ | with_reducible refine fo_goN ?_ | with_reducible refine fo_goC ?_ | simp only [wp_tup0, wp_tup1, wp_tup2, wp_tup3, wp_tup4, wp_tup5, wp_tup6, wp_tup7, wp_lst0, wp_lst1, wp_lst2, wp_lst3, wp_lst4, wp_lst5, wp_lst6, wp_lst7, wp_lst8, wp_lst9, wp_lst10, wp_lst11, wp_lst12, wp_bd, wp_lc, ql_nx, ql_ct, ql_bk, ql_rt, iSeq, iEnu, Mir.iRev, chkR, chkT, chkO, lstO, wp_some, wp_ite, wp_none, bd_some, eVar, eC, eOp, eUn, eFn, eMt, aNil, aCons,  eAnd, eOr, eNot, eIf, eIsi, eChain, bTest, bTruth, bAnd, bOr, bNot, bYes, eSl, pNo, pAt, eRinA, eRinB, eDnew, eDin, eDget, eDget2, tgM_name, tgM_tup, tgMs_nil, tgMs_name, tgMs_tup, List.getElem?_cons_succ, List.getElem?_cons_zero, List.set_cons_succ, List.set_cons_zero, List.map_cons, List.map_nil, List.length_cons, List.length_nil, List.replicate, List.nil_append, List.cons_append, if_true, if_false, Bool.false_eq_true, Bool.true_eq_false, Nat.reduceAdd, Nat.reduceSub, Nat.reduceLeDiff, Nat.zero_add, Bool.not_true, Bool.not_false, nc0, nc1, nc2, nc3, not_true_eq_false, not_false_eq_true, ii, addI, subI, negI, int1, eqI, neI, eqS, neS, ix0, ix1, ix2, ix3, decide_eq_true_eq, Bool.not_eq_true', decide_eq_false_iff_not, truB, truN, keyI, keyS, lenT, wipeM, qw_nx, qw_ct, qw_bk, qw_rt, qf_nx, qf_ct, qf_bk, qf_rt, okN, lcf_goN, lcf_goC, lcf_goT, slT1, slT2, List.drop_succ_cons, List.drop_zero, List.take_succ_cons, List.take_zero, true_and, and_true, ofString_inj, String.reduceEq, decide_true, decide_false, Bool.or_self, Bool.or_true, Bool.true_or, Bool.or_false, Bool.false_or, Bool.and_self, Bool.and_true, Bool.true_and, Bool.and_false, Bool.false_and, isN, isnN, Mir.isNon, truB, Mir.iZip, sl1, zp2]
  refine wp_callV rfl h1 ?_
  repeat first | with_reducible refine Eq.mpr wps_cons ?_ | with_reducible refine Eq.mpr wps_pass ?_ | with_reducible refine Eq.mpr wps_nil ?_ | with_reducible refine Eq.mpr wps_set ?_ | with_reducible refine Eq.mpr wps_do ?_ | with_reducible refine Eq.mpr wps_ret ?_ | with_reducible refine Eq.mpr wps_retN ?_ | with_reducible refine Eq.mpr wps_brk ?_ | with_reducible refine Eq.mpr wps_cnt ?_ | with_reducible refine Eq.mpr wps_if ?_ | with_reducible refine Eq.mpr wps_asg ?_ | with_reducible refine wps_asgL ?_ | with_reducible refine Eq.mpr wps_put ?_ | with_reducible refine Eq.mpr wps_dput ?_ | with_reducible refine Eq.mpr wps_aug ?_ | with_reducible refine Eq.mpr wps_par ?_ | with_reducible refine Eq.mpr wps_for ?_ | with_reducible refine Eq.mpr wps_wh ?_ | with_reducible refine wh_go ?_ | with_reducible refine fo_goN ?_ | with_reducible refine fo_goC ?_ | simp only [wp_tup0, wp_tup1, wp_tup2, wp_tup3, wp_tup4, wp_tup5, wp_tup6, wp_tup7, wp_lst0, wp_lst1, wp_lst2, wp_lst3, wp_lst4, wp_lst5, wp_lst6, wp_lst7, wp_lst8, wp_lst9, wp_lst10, wp_lst11, wp_lst12, wp_bd, wp_lc, ql_nx, ql_ct, ql_bk, ql_rt, iSeq, iEnu, Mir.iRev, chkR, chkT, chkO, lstO, wp_some, wp_ite, wp_none, bd_some, eVar, eC, eOp, eUn, eFn, eMt, aNil, aCons,  eAnd, eOr, eNot, eIf, eIsi, eChain, bTest, bTruth, bAnd, bOr, bNot, bYes, eSl, pNo, pAt, eRinA, eRinB, eDnew, eDin, eDget, eDget2, tgM_name, tgM_tup, tgMs_nil, tgMs_name, tgMs_tup, List.getElem?_cons_succ, List.getElem?_cons_zero, List.set_cons_succ, List.set_cons_zero, List.map_cons, List.map_nil, List.length_cons, List.length_nil, List.replicate, List.nil_append, List.cons_append, if_true, if_false, Bool.false_eq_true, Bool.true_eq_false, Nat.reduceAdd, Nat.reduceSub, Nat.reduceLeDiff, Nat.zero_add, Bool.not_true, Bool.not_false, nc0, nc1, nc2, nc3, not_true_eq_false, not_false_eq_true, ii, addI, subI, negI, int1, eqI, neI, eqS, neS, ix0, ix1, ix2, ix3, decide_eq_true_eq, Bool.not_eq_true', decide_eq_false_iff_not, truB, truN, keyI, keyS, lenT, wipeM, qw_nx, qw_ct, qw_bk, qw_rt, qf_nx, qf_ct, qf_bk, qf_rt, okN, lcf_goN, lcf_goC, lcf_goT, slT1, slT2, List.drop_succ_cons, List.drop_zero, List.take_succ_cons, List.take_zero, true_and, and_true, ofString_inj, String.reduceEq, decide_true, decide_false, Bool.or_self, Bool.or_true, Bool.true_or, Bool.or_false, Bool.false_or, Bool.and_self, Bool.and_true, Bool.true_and, Bool.and_false, Bool.false_and, isN, isnN, Mir.isNon, truB]
  refine h2 _ _ fun s' f => ?_
  cases b with
  | true =>
    repeat first | with_reducible refine Eq.mpr wps_cons ?_ | with_reducible refine Eq.mpr wps_pass ?_ | with_reducible refine Eq.mpr wps_nil ?_ | with_reducible refine Eq.mpr wps_set ?_ | with_reducible refine Eq.mpr wps_do ?_ | with_reducible refine Eq.mpr wps_ret ?_ | with_reducible refine Eq.mpr wps_retN ?_ | with_reducible refine Eq.mpr wps_brk ?_ | with_reducible refine Eq.mpr wps_cnt ?_ | with_reducible refine Eq.mpr wps_if ?_ | with_reducible refine Eq.mpr wps_asg ?_ | with_reducible refine wps_asgL ?_ | with_reducible refine Eq.mpr wps_put ?_ | with_reducible refine Eq.mpr wps_dput ?_ | with_reducible refine Eq.mpr wps_aug ?_ | with_reducible refine Eq.mpr wps_par ?_ | with_reducible refine Eq.mpr wps_for ?_ | with_reducible refine Eq.mpr wps_wh ?_ | with_reducible refine wh_go ?_ | with_reducible refine fo_goN ?_ | with_reducible refine fo_goC ?_ | simp only [wp_tup0, wp_tup1, wp_tup2, wp_tup3, wp_tup4, wp_tup5, wp_tup6, wp_tup7, wp_lst0, wp_lst1, wp_lst2, wp_lst3, wp_lst4, wp_lst5, wp_lst6, wp_lst7, wp_lst8, wp_lst9, wp_lst10, wp_lst11, wp_lst12, wp_bd, wp_lc, ql_nx, ql_ct, ql_bk, ql_rt, iSeq, iEnu, Mir.iRev, chkR, chkT, chkO, lstO, wp_some, wp_ite, wp_none, bd_some, eVar, eC, eOp, eUn, eFn, eMt, aNil, aCons,  eAnd, eOr, eNot, eIf, eIsi, eChain, bTest, bTruth, bAnd, bOr, bNot, bYes, eSl, pNo, pAt, eRinA, eRinB, eDnew, eDin, eDget, eDget2, tgM_name, tgM_tup, tgMs_nil, tgMs_name, tgMs_tup, List.getElem?_cons_succ, List.getElem?_cons_zero, List.set_cons_succ, List.set_cons_zero, List.map_cons, List.map_nil, List.length_cons, List.length_nil, List.replicate, List.nil_append, List.cons_append, if_true, if_false, Bool.false_eq_true, Bool.true_eq_false, Nat.reduceAdd, Nat.reduceSub, Nat.reduceLeDiff, Nat.zero_add, Bool.not_true, Bool.not_false, nc0, nc1, nc2, nc3, not_true_eq_false, not_false_eq_true, ii, addI, subI, negI, int1, eqI, neI, eqS, neS, ix0, ix1, ix2, ix3, decide_eq_true_eq, Bool.not_eq_true', decide_eq_false_iff_not, truB, truN, keyI, keyS, lenT, wipeM, qw_nx, qw_ct, qw_bk, qw_rt, qf_nx, qf_ct, qf_bk, qf_rt, okN, lcf_goN, lcf_goC, lcf_goT, slT1, slT2, List.drop_succ_cons, List.drop_zero, List.take_succ_cons, List.take_zero, true_and, and_true, ofString_inj, String.reduceEq, decide_true, decide_false, Bool.or_self, Bool.or_true, Bool.true_or, Bool.or_false, Bool.false_or, Bool.and_self, Bool.and_true, Bool.true_and, Bool.and_false, Bool.false_and, isN, isnN, Mir.isNon, truB]
    refine wp_callV rfl g1 ?_
    repeat first | with_reducible refine Eq.mpr wps_cons ?_ | with_reducible refine Eq.mpr wps_pass ?_ | with_reducible refine Eq.mpr wps_nil ?_ | with_reducible refine Eq.mpr wps_set ?_ | with_reducible refine Eq.mpr wps_do ?_ | with_reducible refine Eq.mpr wps_ret ?_ | with_reducible refine Eq.mpr wps_retN ?_ | with_reducible refine Eq.mpr wps_brk ?_ | with_reducible refine Eq.mpr wps_cnt ?_ | with_reducible refine Eq.mpr wps_if ?_ | with_reducible refine Eq.mpr wps_asg ?_ | with_reducible refine wps_asgL ?_ | with_reducible refine Eq.mpr wps_put ?_ | with_reducible refine Eq.mpr wps_dput ?_ | with_reducible refine Eq.mpr wps_aug ?_ | with_reducible refine Eq.mpr wps_par ?_ | with_reducible refine Eq.mpr wps_for ?_ | with_reducible refine Eq.mpr wps_wh ?_ | with_reducible refine wh_go ?_ | with_reducible refine fo_goN ?_ | with_reducible refine fo_goC ?_ | simp only [wp_tup0, wp_tup1, wp_tup2, wp_tup3, wp_tup4, wp_tup5, wp_tup6, wp_tup7, wp_lst0, wp_lst1, wp_lst2, wp_lst3, wp_lst4, wp_lst5, wp_lst6, wp_lst7, wp_lst8, wp_lst9, wp_lst10, wp_lst11, wp_lst12, wp_bd, wp_lc, ql_nx, ql_ct, ql_bk, ql_rt, iSeq, iEnu, Mir.iRev, chkR, chkT, chkO, lstO, wp_some, wp_ite, wp_none, bd_some, eVar, eC, eOp, eUn, eFn, eMt, aNil, aCons,  eAnd, eOr, eNot, eIf, eIsi, eChain, bTest, bTruth, bAnd, bOr, bNot, bYes, eSl, pNo, pAt, eRinA, eRinB, eDnew, eDin, eDget, eDget2, tgM_name, tgM_tup, tgMs_nil, tgMs_name, tgMs_tup, List.getElem?_cons_succ, List.getElem?_cons_zero, List.set_cons_succ, List.set_cons_zero, List.map_cons, List.map_nil, List.length_cons, List.length_nil, List.replicate, List.nil_append, List.cons_append, if_true, if_false, Bool.false_eq_true, Bool.true_eq_false, Nat.reduceAdd, Nat.reduceSub, Nat.reduceLeDiff, Nat.zero_add, Bool.not_true, Bool.not_false, nc0, nc1, nc2, nc3, not_true_eq_false, not_false_eq_true, ii, addI, subI, negI, int1, eqI, neI, eqS, neS, ix0, ix1, ix2, ix3, decide_eq_true_eq, Bool.not_eq_true', decide_eq_false_iff_not, truB, truN, keyI, keyS, lenT, wipeM, qw_nx, qw_ct, qw_bk, qw_rt, qf_nx, qf_ct, qf_bk, qf_rt, okN, lcf_goN, lcf_goC, lcf_goT, slT1, slT2, List.drop_succ_cons, List.drop_zero, List.take_succ_cons, List.take_zero, true_and, and_true, ofString_inj, String.reduceEq, decide_true, decide_false, Bool.or_self, Bool.or_true, Bool.true_or, Bool.or_false, Bool.false_or, Bool.and_self, Bool.and_true, Bool.true_and, Bool.and_false, Bool.false_and, isN, isnN, Mir.isNon, truB]
    refine g2 _ _ fun s2 f2 => ?_
    cases c with
    | true =>
      repeat first | with_reducible refine Eq.mpr wps_cons ?_ | with_reducible refine Eq.mpr wps_pass ?_ | with_reducible refine Eq.mpr wps_nil ?_ | with_reducible refine Eq.mpr wps_set ?_ | with_reducible refine Eq.mpr wps_do ?_ | with_reducible refine Eq.mpr wps_ret ?_ | with_reducible refine Eq.mpr wps_retN ?_ | with_reducible refine Eq.mpr wps_brk ?_ | with_reducible refine Eq.mpr wps_cnt ?_ | with_reducible refine Eq.mpr wps_if ?_ | with_reducible refine Eq.mpr wps_asg ?_ | with_reducible refine wps_asgL ?_ | with_reducible refine Eq.mpr wps_put ?_ | with_reducible refine Eq.mpr wps_dput ?_ | with_reducible refine Eq.mpr wps_aug ?_ | with_reducible refine Eq.mpr wps_par ?_ | with_reducible refine Eq.mpr wps_for ?_ | with_reducible refine Eq.mpr wps_wh ?_ | with_reducible refine wh_go ?_ | with_reducible refine fo_goN ?_ | with_reducible refine fo_goC ?_ | simp only [wp_tup0, wp_tup1, wp_tup2, wp_tup3, wp_tup4, wp_tup5, wp_tup6, wp_tup7, wp_lst0, wp_lst1, wp_lst2, wp_lst3, wp_lst4, wp_lst5, wp_lst6, wp_lst7, wp_lst8, wp_lst9, wp_lst10, wp_lst11, wp_lst12, wp_bd, wp_lc, ql_nx, ql_ct, ql_bk, ql_rt, iSeq, iEnu, Mir.iRev, chkR, chkT, chkO, lstO, wp_some, wp_ite, wp_none, bd_some, eVar, eC, eOp, eUn, eFn, eMt, aNil, aCons,  eAnd, eOr, eNot, eIf, eIsi, eChain, bTest, bTruth, bAnd, bOr, bNot, bYes, eSl, pNo, pAt, eRinA, eRinB, eDnew, eDin, eDget, eDget2, tgM_name, tgM_tup, tgMs_nil, tgMs_name, tgMs_tup, List.getElem?_cons_succ, List.getElem?_cons_zero, List.set_cons_succ, List.set_cons_zero, List.map_cons, List.map_nil, List.length_cons, List.length_nil, List.replicate, List.nil_append, List.cons_append, if_true, if_false, Bool.false_eq_true, Bool.true_eq_false, Nat.reduceAdd, Nat.reduceSub, Nat.reduceLeDiff, Nat.zero_add, Bool.not_true, Bool.not_false, nc0, nc1, nc2, nc3, not_true_eq_false, not_false_eq_true, ii, addI, subI, negI, int1, eqI, neI, eqS, neS, ix0, ix1, ix2, ix3, decide_eq_true_eq, Bool.not_eq_true', decide_eq_false_iff_not, truB, truN, keyI, keyS, lenT, wipeM, qw_nx, qw_ct, qw_bk, qw_rt, qf_nx, qf_ct, qf_bk, qf_rt, okN, lcf_goN, lcf_goC, lcf_goT, slT1, slT2, List.drop_succ_cons, List.drop_zero, List.take_succ_cons, List.take_zero, true_and, and_true, ofString_inj, String.reduceEq, decide_true, decide_false, Bool.or_self, Bool.or_true, Bool.true_or, Bool.or_false, Bool.false_or, Bool.and_self, Bool.and_true, Bool.true_and, Bool.and_false, Bool.false_and, isN, isnN, Mir.isNon, truB]
      exact hR _ (f.trans f2)
    | false =>
      repeat first | with_reducible refine Eq.mpr wps_cons ?_ | with_reducible refine Eq.mpr wps_pass ?_ | with_reducible refine Eq.mpr wps_nil ?_ | with_reducible refine Eq.mpr wps_set ?_ | with_reducible refine Eq.mpr wps_do ?_ | with_reducible refine Eq.mpr wps_ret ?_ | with_reducible refine Eq.mpr wps_retN ?_ | with_reducible refine Eq.mpr wps_brk ?_ | with_reducible refine Eq.mpr wps_cnt ?_ | with_reducible refine Eq.mpr wps_if ?_ | with_reducible refine Eq.mpr wps_asg ?_ | with_reducible refine wps_asgL ?_ | with_reducible refine Eq.mpr wps_put ?_ | with_reducible refine Eq.mpr wps_dput ?_ | with_reducible refine Eq.mpr wps_aug ?_ | with_reducible refine Eq.mpr wps_par ?_ | with_reducible refine Eq.mpr wps_for ?_ | with_reducible refine Eq.mpr wps_wh ?_ | with_reducible refine wh_go ?_ | with_reducible refine fo_goN ?_ | with_reducible refine fo_goC ?_ | simp only [wp_tup0, wp_tup1, wp_tup2, wp_tup3, wp_tup4, wp_tup5, wp_tup6, wp_tup7, wp_lst0, wp_lst1, wp_lst2, wp_lst3, wp_lst4, wp_lst5, wp_lst6, wp_lst7, wp_lst8, wp_lst9, wp_lst10, wp_lst11, wp_lst12, wp_bd, wp_lc, ql_nx, ql_ct, ql_bk, ql_rt, iSeq, iEnu, Mir.iRev, chkR, chkT, chkO, lstO, wp_some, wp_ite, wp_none, bd_some, eVar, eC, eOp, eUn, eFn, eMt, aNil, aCons,  eAnd, eOr, eNot, eIf, eIsi, eChain, bTest, bTruth, bAnd, bOr, bNot, bYes, eSl, pNo, pAt, eRinA, eRinB, eDnew, eDin, eDget, eDget2, tgM_name, tgM_tup, tgMs_nil, tgMs_name, tgMs_tup, List.getElem?_cons_succ, List.getElem?_cons_zero, List.set_cons_succ, List.set_cons_zero, List.map_cons, List.map_nil, List.length_cons, List.length_nil, List.replicate, List.nil_append, List.cons_append, if_true, if_false, Bool.false_eq_true, Bool.true_eq_false, Nat.reduceAdd, Nat.reduceSub, Nat.reduceLeDiff, Nat.zero_add, Bool.not_true, Bool.not_false, nc0, nc1, nc2, nc3, not_true_eq_false, not_false_eq_true, ii, addI, subI, negI, int1, eqI, neI, eqS, neS, ix0, ix1, ix2, ix3, decide_eq_true_eq, Bool.not_eq_true', decide_eq_false_iff_not, truB, truN, keyI, keyS, lenT, wipeM, qw_nx, qw_ct, qw_bk, qw_rt, qf_nx, qf_ct, qf_bk, qf_rt, okN, lcf_goN, lcf_goC, lcf_goT, slT1, slT2, List.drop_succ_cons, List.drop_zero, List.take_succ_cons, List.take_zero, true_and, and_true, ofString_inj, String.reduceEq, decide_true, decide_false, Bool.or_self, Bool.or_true, Bool.true_or, Bool.or_false, Bool.false_or, Bool.and_self, Bool.and_true, Bool.true_and, Bool.and_false, Bool.false_and, isN, isnN, Mir.isNon, truB]
      exact hR _ (f.trans f2)
  | false =>
    repeat first | with_reducible refine Eq.mpr wps_cons ?_ | with_reducible refine Eq.mpr wps_pass ?_ | with_reducible refine Eq.mpr wps_nil ?_ | with_reducible refine Eq.mpr wps_set ?_ | with_reducible refine Eq.mpr wps_do ?_ | with_reducible refine Eq.mpr wps_ret ?_ | with_reducible refine Eq.mpr wps_retN ?_ | with_reducible refine Eq.mpr wps_brk ?_ | with_reducible refine Eq.mpr wps_cnt ?_ | with_reducible refine Eq.mpr wps_if ?_ | with_reducible refine Eq.mpr wps_asg ?_ | with_reducible refine wps_asgL ?_ | with_reducible refine Eq.mpr wps_put ?_ | with_reducible refine Eq.mpr wps_dput ?_ | with_reducible refine Eq.mpr wps_aug ?_ | with_reducible refine Eq.mpr wps_par ?_ | with_reducible refine Eq.mpr wps_for ?_ | with_reducible refine Eq.mpr wps_wh ?_ | with_reducible refine wh_go ?_ | with_reducible refine fo_goN ?_ | with_reducible refine fo_goC ?_ | simp only [wp_tup0, wp_tup1, wp_tup2, wp_tup3, wp_tup4, wp_tup5, wp_tup6, wp_tup7, wp_lst0, wp_lst1, wp_lst2, wp_lst3, wp_lst4, wp_lst5, wp_lst6, wp_lst7, wp_lst8, wp_lst9, wp_lst10, wp_lst11, wp_lst12, wp_bd, wp_lc, ql_nx, ql_ct, ql_bk, ql_rt, iSeq, iEnu, Mir.iRev, chkR, chkT, chkO, lstO, wp_some, wp_ite, wp_none, bd_some, eVar, eC, eOp, eUn, eFn, eMt, aNil, aCons,  eAnd, eOr, eNot, eIf, eIsi, eChain, bTest, bTruth, bAnd, bOr, bNot, bYes, eSl, pNo, pAt, eRinA, eRinB, eDnew, eDin, eDget, eDget2, tgM_name, tgM_tup, tgMs_nil, tgMs_name, tgMs_tup, List.getElem?_cons_succ, List.getElem?_cons_zero, List.set_cons_succ, List.set_cons_zero, List.map_cons, List.map_nil, List.length_cons, List.length_nil, List.replicate, List.nil_append, List.cons_append, if_true, if_false, Bool.false_eq_true, Bool.true_eq_false, Nat.reduceAdd, Nat.reduceSub, Nat.reduceLeDiff, Nat.zero_add, Bool.not_true, Bool.not_false, nc0, nc1, nc2, nc3, not_true_eq_false, not_false_eq_true, ii, addI, subI, negI, int1, eqI, neI, eqS, neS, ix0, ix1, ix2, ix3, decide_eq_true_eq, Bool.not_eq_true', decide_eq_false_iff_not, truB, truN, keyI, keyS, lenT, wipeM, qw_nx, qw_ct, qw_bk, qw_rt, qf_nx, qf_ct, qf_bk, qf_rt, okN, lcf_goN, lcf_goC, lcf_goT, slT1, slT2, List.drop_succ_cons, List.drop_zero, List.take_succ_cons, List.take_zero, true_and, and_true, ofString_inj, String.reduceEq, decide_true, decide_false, Bool.or_self, Bool.or_true, Bool.true_or, Bool.or_false, Bool.false_or, Bool.and_self, Bool.and_true, Bool.true_and, Bool.and_false, Bool.false_and, isN, isnN, Mir.isNon, truB]
    exact hR _ f
theorem inst_none (h : tl T_FORMS tag = some none) {ps : List W} (hR : R (.bl false) s) : Wp (FIsInstruction [.tup (.str tag :: ps)] s) R := by
  unfold FIsInstruction
  rw [wp_mkF (by rfl)]
  unfold BIsInstruction
  repeat first | with_reducible refine Eq.mpr wps_cons ?_ | with_reducible refine Eq.mpr wps_pass ?_ | with_reducible refine Eq.mpr wps_nil ?_ | with_reducible refine Eq.mpr wps_set ?_ | with_reducible refine Eq.mpr wps_do ?_ | with_reducible refine Eq.mpr wps_ret ?_ | with_reducible refine Eq.mpr wps_retN ?_ | with_reducible refine Eq.mpr wps_brk ?_ | with_reducible refine Eq.mpr wps_cnt ?_ | with_reducible refine Eq.mpr wps_if ?_ | with_reducible refine Eq.mpr wps_asg ?_ | with_reducible refine wps_asgL ?_ | with_reducible refine Eq.mpr wps_put ?_ | with_reducible refine Eq.mpr wps_dput ?_ | with_reducible refine Eq.mpr wps_aug ?_ | with_reducible refine Eq.mpr wps_par ?_ | with_reducible refine Eq.mpr wps_for ?_ | with_reducible refine Eq.mpr wps_wh ?_ | with_reducible refine wh_go ?_ | with_reducible refine fo_goN ?_ | with_reducible refine fo_goC ?_ | simp only [wp_tup0, wp_tup1, wp_tup2, wp_tup3, wp_tup4, wp_tup5, wp_tup6, wp_tup7, wp_lst0, wp_lst1, wp_lst2, wp_lst3, wp_lst4, wp_lst5, wp_lst6, wp_lst7, wp_lst8, wp_lst9, wp_lst10, wp_lst11, wp_lst12, wp_bd, wp_lc, ql_nx, ql_ct, ql_bk, ql_rt, iSeq, iEnu, Mir.iRev, chkR, chkT, chkO, lstO, wp_some, wp_ite, wp_none, bd_some, eVar, eC, eOp, eUn, eFn, eMt, aNil, aCons,  eAnd, eOr, eNot, eIf, eIsi, eChain, bTest, bTruth, bAnd, bOr, bNot, bYes, eSl, pNo, pAt, eRinA, eRinB, eDnew, eDin, eDget, eDget2, tgM_name, tgM_tup, tgMs_nil, tgMs_name, tgMs_tup, List.getElem?_cons_succ, List.getElem?_cons_zero, List.set_cons_succ, List.set_cons_zero, List.map_cons, List.map_nil, List.length_cons, List.length_nil, List.replicate, List.nil_append, List.cons_append, if_true, if_false, Bool.false_eq_true, Bool.true_eq_false, Nat.reduceAdd, Nat.reduceSub, Nat.reduceLeDiff, Nat.zero_add, Bool.not_true, Bool.not_false, nc0, nc1, nc2, nc3, not_true_eq_false, not_false_eq_true, ii, addI, subI, negI, int1, eqI, neI, eqS, neS, ix0, ix1, ix2, ix3, decide_eq_true_eq, Bool.not_eq_true', decide_eq_false_iff_not, truB, truN, keyI, keyS, lenT, wipeM, qw_nx, qw_ct, qw_bk, qw_rt, qf_nx, qf_ct, qf_bk, qf_rt, okN, lcf_goN, lcf_goC, lcf_goT, slT1, slT2, List.drop_succ_cons, List.drop_zero, List.take_succ_cons, List.take_zero, true_and, and_true, ofString_inj, String.reduceEq, decide_true, decide_false, Bool.or_self, Bool.or_true, Bool.true_or, Bool.or_false, Bool.false_or, Bool.and_self, Bool.and_true, Bool.true_and, Bool.and_false, Bool.false_and, isN, isnN, Mir.isNon, truB, truTc]
  refine str_str ?_
  repeat first | with_reducible refine Eq.mpr wps_cons ?_ | with_reducible refine Eq.mpr wps_pass ?_ | with_reducible refine Eq.mpr wps_nil ?_ | with_reducible refine Eq.mpr wps_set ?_ | with_reducible refine Eq.mpr wps_do ?_ | with_reducible refine Eq.mpr wps_ret ?_ | with_reducible refine Eq.mpr wps_retN ?_ | with_reducible refine Eq.mpr wps_brk ?_ | with_reducible refine Eq.mpr wps_cnt ?_ | with_reducible refine Eq.mpr wps_if ?_ | with_reducible refine Eq.mpr wps_asg ?_ | with_reducible refine wps_asgL ?_ | with_reducible refine Eq.mpr wps_put ?_ | with_reducible refine Eq.mpr wps_dput ?_ | with_reducible refine Eq.mpr wps_aug ?_ | with_reducible refine Eq.mpr wps_par ?_ | with_reducible refine Eq.mpr wps_for ?_ | with_reducible refine Eq.mpr wps_wh ?_ | with_reducible refine wh_go ?_ | with_reducible refine fo_goN ?_ | with_reducible refine fo_goC ?_ | simp only [wp_tup0, wp_tup1, wp_tup2, wp_tup3, wp_tup4, wp_tup5, wp_tup6, wp_tup7, wp_lst0, wp_lst1, wp_lst2, wp_lst3, wp_lst4, wp_lst5, wp_lst6, wp_lst7, wp_lst8, wp_lst9, wp_lst10, wp_lst11, wp_lst12, wp_bd, wp_lc, ql_nx, ql_ct, ql_bk, ql_rt, iSeq, iEnu, Mir.iRev, chkR, chkT, chkO, lstO, wp_some, wp_ite, wp_none, bd_some, eVar, eC, eOp, eUn, eFn, eMt, aNil, aCons,  eAnd, eOr, eNot, eIf, eIsi, eChain, bTest, bTruth, bAnd, bOr, bNot, bYes, eSl, pNo, pAt, eRinA, eRinB, eDnew, eDin, eDget, eDget2, tgM_name, tgM_tup, tgMs_nil, tgMs_name, tgMs_tup, List.getElem?_cons_succ, List.getElem?_cons_zero, List.set_cons_succ, List.set_cons_zero, List.map_cons, List.map_nil, List.length_cons, List.length_nil, List.replicate, List.nil_append, List.cons_append, if_true, if_false, Bool.false_eq_true, Bool.true_eq_false, Nat.reduceAdd, Nat.reduceSub, Nat.reduceLeDiff, Nat.zero_add, Bool.not_true, Bool.not_false, nc0, nc1, nc2, nc3, not_true_eq_false, not_false_eq_true, ii, addI, subI, negI, int1, eqI, neI, eqS, neS, ix0, ix1, ix2, ix3, decide_eq_true_eq, Bool.not_eq_true', decide_eq_false_iff_not, truB, truN, keyI, keyS, lenT, wipeM, qw_nx, qw_ct, qw_bk, qw_rt, qf_nx, qf_ct, qf_bk, qf_rt, okN, lcf_goN, lcf_goC, lcf_goT, slT1, slT2, List.drop_succ_cons, List.drop_zero, List.take_succ_cons, List.take_zero, true_and, and_true, ofString_inj, String.reduceEq, decide_true, decide_false, Bool.or_self, Bool.or_true, Bool.true_or, Bool.or_false, Bool.false_or, Bool.and_self, Bool.and_true, Bool.true_and, Bool.and_false, Bool.false_and, isN, isnN, Mir.isNon, truB, eCin, h, Option.isSome]
  exact hR
theorem inst_empty (hR : R (.bl false) s) : Wp (FIsInstruction [.tup []] s) R := by
  unfold FIsInstruction
  rw [wp_mkF (by rfl)]
  unfold BIsInstruction
  repeat first | with_reducible refine Eq.mpr wps_cons ?_ | with_reducible refine Eq.mpr wps_pass ?_ | with_reducible refine Eq.mpr wps_nil ?_ | with_reducible refine Eq.mpr wps_set ?_ | with_reducible refine Eq.mpr wps_do ?_ | with_reducible refine Eq.mpr wps_ret ?_ | with_reducible refine Eq.mpr wps_retN ?_ | with_reducible refine Eq.mpr wps_brk ?_ | with_reducible refine Eq.mpr wps_cnt ?_ | with_reducible refine Eq.mpr wps_if ?_ | with_reducible refine Eq.mpr wps_asg ?_ | with_reducible refine wps_asgL ?_ | with_reducible refine Eq.mpr wps_put ?_ | with_reducible refine Eq.mpr wps_dput ?_ | with_reducible refine Eq.mpr wps_aug ?_ | with_reducible refine Eq.mpr wps_par ?_ | with_reducible refine Eq.mpr wps_for ?_ | with_reducible refine Eq.mpr wps_wh ?_ | with_reducible refine wh_go ?_ | with_reducible refine fo_goN ?_ | with_reducible refine fo_goC ?_ | simp only [wp_tup0, wp_tup1, wp_tup2, wp_tup3, wp_tup4, wp_tup5, wp_tup6, wp_tup7, wp_lst0, wp_lst1, wp_lst2, wp_lst3, wp_lst4, wp_lst5, wp_lst6, wp_lst7, wp_lst8, wp_lst9, wp_lst10, wp_lst11, wp_lst12, wp_bd, wp_lc, ql_nx, ql_ct, ql_bk, ql_rt, iSeq, iEnu, Mir.iRev, chkR, chkT, chkO, lstO, wp_some, wp_ite, wp_none, bd_some, eVar, eC, eOp, eUn, eFn, eMt, aNil, aCons,  eAnd, eOr, eNot, eIf, eIsi, eChain, bTest, bTruth, bAnd, bOr, bNot, bYes, eSl, pNo, pAt, eRinA, eRinB, eDnew, eDin, eDget, eDget2, tgM_name, tgM_tup, tgMs_nil, tgMs_name, tgMs_tup, List.getElem?_cons_succ, List.getElem?_cons_zero, List.set_cons_succ, List.set_cons_zero, List.map_cons, List.map_nil, List.length_cons, List.length_nil, List.replicate, List.nil_append, List.cons_append, if_true, if_false, Bool.false_eq_true, Bool.true_eq_false, Nat.reduceAdd, Nat.reduceSub, Nat.reduceLeDiff, Nat.zero_add, Bool.not_true, Bool.not_false, nc0, nc1, nc2, nc3, not_true_eq_false, not_false_eq_true, ii, addI, subI, negI, int1, eqI, neI, eqS, neS, ix0, ix1, ix2, ix3, decide_eq_true_eq, Bool.not_eq_true', decide_eq_false_iff_not, truB, truN, keyI, keyS, lenT, wipeM, qw_nx, qw_ct, qw_bk, qw_rt, qf_nx, qf_ct, qf_bk, qf_rt, okN, lcf_goN, lcf_goC, lcf_goT, slT1, slT2, List.drop_succ_cons, List.drop_zero, List.take_succ_cons, List.take_zero, true_and, and_true, ofString_inj, String.reduceEq, decide_true, decide_false, Bool.or_self, Bool.or_true, Bool.true_or, Bool.or_false, Bool.false_or, Bool.and_self, Bool.and_true, Bool.true_and, Bool.and_false, Bool.false_and, isN, isnN, Mir.isNon, truB, truTn]
  exact hR
theorem inst_len {fs ps : List W} (h : tl T_FORMS tag = some (some (.tup fs))) (hl : ps.length ≠ fs.length) (hR : R (.bl false) s) : Wp (FIsInstruction [.tup (.str tag :: ps)] s) R := by
  unfold FIsInstruction
  rw [wp_mkF (by rfl)]
  unfold BIsInstruction
  have e : ¬ ((ps.length : Int) + 1 = 1 + (fs.length : Int)) := by omega
  repeat first | with_reducible refine Eq.mpr wps_cons ?_ | with_reducible refine Eq.mpr wps_pass ?_ | with_reducible refine Eq.mpr wps_nil ?_ | with_reducible refine Eq.mpr wps_set ?_ | with_reducible refine Eq.mpr wps_do ?_ | with_reducible refine Eq.mpr wps_ret ?_ | with_reducible refine Eq.mpr wps_retN ?_ | with_reducible refine Eq.mpr wps_brk ?_ | with_reducible refine Eq.mpr wps_cnt ?_ | with_reducible refine Eq.mpr wps_if ?_ | with_reducible refine Eq.mpr wps_asg ?_ | with_reducible refine wps_asgL ?_ | with_reducible refine Eq.mpr wps_put ?_ | with_reducible refine Eq.mpr wps_dput ?_ | with_reducible refine Eq.mpr wps_aug ?_ | with_reducible refine Eq.mpr wps_par ?_ | with_reducible refine Eq.mpr wps_for ?_ | with_reducible refine Eq.mpr wps_wh ?_ | with_reducible refine wh_go ?_ | with_reducible refine fo_goN ?_ | with_reducible refine fo_goC ?_ | simp only [wp_tup0, wp_tup1, wp_tup2, wp_tup3, wp_tup4, wp_tup5, wp_tup6, wp_tup7, wp_lst0, wp_lst1, wp_lst2, wp_lst3, wp_lst4, wp_lst5, wp_lst6, wp_lst7, wp_lst8, wp_lst9, wp_lst10, wp_lst11, wp_lst12, wp_bd, wp_lc, ql_nx, ql_ct, ql_bk, ql_rt, iSeq, iEnu, Mir.iRev, chkR, chkT, chkO, lstO, wp_some, wp_ite, wp_none, bd_some, eVar, eC, eOp, eUn, eFn, eMt, aNil, aCons,  eAnd, eOr, eNot, eIf, eIsi, eChain, bTest, bTruth, bAnd, bOr, bNot, bYes, eSl, pNo, pAt, eRinA, eRinB, eDnew, eDin, eDget, eDget2, tgM_name, tgM_tup, tgMs_nil, tgMs_name, tgMs_tup, List.getElem?_cons_succ, List.getElem?_cons_zero, List.set_cons_succ, List.set_cons_zero, List.map_cons, List.map_nil, List.length_cons, List.length_nil, List.replicate, List.nil_append, List.cons_append, if_true, if_false, Bool.false_eq_true, Bool.true_eq_false, Nat.reduceAdd, Nat.reduceSub, Nat.reduceLeDiff, Nat.zero_add, Bool.not_true, Bool.not_false, nc0, nc1, nc2, nc3, not_true_eq_false, not_false_eq_true, ii, addI, subI, negI, int1, eqI, neI, eqS, neS, ix0, ix1, ix2, ix3, decide_eq_true_eq, Bool.not_eq_true', decide_eq_false_iff_not, truB, truN, keyI, keyS, lenT, wipeM, qw_nx, qw_ct, qw_bk, qw_rt, qf_nx, qf_ct, qf_bk, qf_rt, okN, lcf_goN, lcf_goC, lcf_goT, slT1, slT2, List.drop_succ_cons, List.drop_zero, List.take_succ_cons, List.take_zero, true_and, and_true, ofString_inj, String.reduceEq, decide_true, decide_false, Bool.or_self, Bool.or_true, Bool.true_or, Bool.or_false, Bool.false_or, Bool.and_self, Bool.and_true, Bool.true_and, Bool.and_false, Bool.false_and, isN, isnN, Mir.isNon, truB, truTc]
  refine str_str ?_
  repeat first | with_reducible refine Eq.mpr wps_cons ?_ | with_reducible refine Eq.mpr wps_pass ?_ | with_reducible refine Eq.mpr wps_nil ?_ | with_reducible refine Eq.mpr wps_set ?_ | with_reducible refine Eq.mpr wps_do ?_ | with_reducible refine Eq.mpr wps_ret ?_ | with_reducible refine Eq.mpr wps_retN ?_ | with_reducible refine Eq.mpr wps_brk ?_ | with_reducible refine Eq.mpr wps_cnt ?_ | with_reducible refine Eq.mpr wps_if ?_ | with_reducible refine Eq.mpr wps_asg ?_ | with_reducible refine wps_asgL ?_ | with_reducible refine Eq.mpr wps_put ?_ | with_reducible refine Eq.mpr wps_dput ?_ | with_reducible refine Eq.mpr wps_aug ?_ | with_reducible refine Eq.mpr wps_par ?_ | with_reducible refine Eq.mpr wps_for ?_ | with_reducible refine Eq.mpr wps_wh ?_ | with_reducible refine wh_go ?_ | with_reducible refine fo_goN ?_ | with_reducible refine fo_goC ?_ | simp only [wp_tup0, wp_tup1, wp_tup2, wp_tup3, wp_tup4, wp_tup5, wp_tup6, wp_tup7, wp_lst0, wp_lst1, wp_lst2, wp_lst3, wp_lst4, wp_lst5, wp_lst6, wp_lst7, wp_lst8, wp_lst9, wp_lst10, wp_lst11, wp_lst12, wp_bd, wp_lc, ql_nx, ql_ct, ql_bk, ql_rt, iSeq, iEnu, Mir.iRev, chkR, chkT, chkO, lstO, wp_some, wp_ite, wp_none, bd_some, eVar, eC, eOp, eUn, eFn, eMt, aNil, aCons,  eAnd, eOr, eNot, eIf, eIsi, eChain, bTest, bTruth, bAnd, bOr, bNot, bYes, eSl, pNo, pAt, eRinA, eRinB, eDnew, eDin, eDget, eDget2, tgM_name, tgM_tup, tgMs_nil, tgMs_name, tgMs_tup, List.getElem?_cons_succ, List.getElem?_cons_zero, List.set_cons_succ, List.set_cons_zero, List.map_cons, List.map_nil, List.length_cons, List.length_nil, List.replicate, List.nil_append, List.cons_append, if_true, if_false, Bool.false_eq_true, Bool.true_eq_false, Nat.reduceAdd, Nat.reduceSub, Nat.reduceLeDiff, Nat.zero_add, Bool.not_true, Bool.not_false, nc0, nc1, nc2, nc3, not_true_eq_false, not_false_eq_true, ii, addI, subI, negI, int1, eqI, neI, eqS, neS, ix0, ix1, ix2, ix3, decide_eq_true_eq, Bool.not_eq_true', decide_eq_false_iff_not, truB, truN, keyI, keyS, lenT, wipeM, qw_nx, qw_ct, qw_bk, qw_rt, qf_nx, qf_ct, qf_bk, qf_rt, okN, lcf_goN, lcf_goC, lcf_goT, slT1, slT2, List.drop_succ_cons, List.drop_zero, List.take_succ_cons, List.take_zero, true_and, and_true, ofString_inj, String.reduceEq, decide_true, decide_false, Bool.or_self, Bool.or_true, Bool.true_or, Bool.or_false, Bool.false_or, Bool.and_self, Bool.and_true, Bool.true_and, Bool.and_false, Bool.false_and, isN, isnN, Mir.isNon, truB, eCin, eCget, h, Option.isSome, e, Int.natCast_add]
  exact hR
end
end K62

set_option Elab.async false
set_option linter.all false
set_option maxRecDepth 100000
namespace K62
open PySem PySem.Spec PyProof.Rows L2 Mir
theorem take_eq : FLawTake = TTake := rfl
theorem tape_eq : FLawTape = TTape := rfl
/-! ### rows -/
def Ins (row : W) (b : Bool) : Prop := ∀ (s : Sto) (R : W → Sto → Prop), (∀ s', Mir.Fr [] s s' → R (.bl b) s') → Wp (FIsInstruction [row] s) R
def Gd (row : W) : Prop := ∃ (tag : Str) (ps fs : List W), row = .tup (.str tag :: ps) ∧ tl T_FORMS tag = some (some (.tup fs)) ∧ ps.length = fs.length ∧ ps.length ≤ 2 ∧ tl T_FORMS (("no " : Str) ++ tag) = some none ∧ tag.length ≤ 50 ∧ Ins row true
theorem ins0 {tag : Str} (h : tl T_FORMS tag = some (some (.tup []))) : Ins (.tup [.str tag]) true := fun s R hR => inst0 h (hR _ Fr.refl)
theorem ins1 {tag f : Str} {p : W} {b b' : Bool} (h : tl T_FORMS tag = some (some (.tup [.fn f]))) (ht : Ts f p b) (e : b = b') : Ins (.tup [.str tag, p]) b' := fun s R hR => inst1 h ht (e ▸ hR)
theorem ins2 {tag f g : Str} {p q : W} {b c b' : Bool} (h : tl T_FORMS tag = some (some (.tup [.fn f, .fn g]))) (ht : Ts f p b) (hu : Ts g q c) (e : (b && c) = b') : Ins (.tup [.str tag, p, q]) b' := fun s R hR => inst2 h ht hu (e ▸ hR)
theorem insN {tag : Str} {ps : List W} (h : tl T_FORMS tag = some none) : Ins (.tup (.str tag :: ps)) false := fun s R hR => inst_none h (hR _ Fr.refl)
theorem insL {tag : Str} {fs ps : List W} (h : tl T_FORMS tag = some (some (.tup fs))) (hl : ps.length ≠ fs.length) : Ins (.tup (.str tag :: ps)) false := fun s R hR => inst_len h hl (hR _ Fr.refl)
theorem insE : Ins (.tup []) false := fun s R hR => inst_empty (hR _ Fr.refl)
theorem gd0 {tag : Str} (h : tl T_FORMS tag = some (some (.tup []))) (h2 : tl T_FORMS (("no " : Str) ++ tag) = some none) (h3 : tag.length ≤ 50) : Gd (.tup [.str tag]) := ⟨tag, [], [], rfl, h, rfl, by simp, h2, h3, ins0 h⟩
theorem gd1 {tag f : Str} {p : W} {b : Bool} (h : tl T_FORMS tag = some (some (.tup [.fn f]))) (h2 : tl T_FORMS (("no " : Str) ++ tag) = some none) (h3 : tag.length ≤ 50) (ht : Ts f p b) (e : b = true) : Gd (.tup [.str tag, p]) := ⟨tag, [p], [.fn f], rfl, h, rfl, by simp, h2, h3, ins1 h ht e⟩
theorem gd2 {tag f g : Str} {p q : W} {b c : Bool} (h : tl T_FORMS tag = some (some (.tup [.fn f, .fn g]))) (h2 : tl T_FORMS (("no " : Str) ++ tag) = some none) (h3 : tag.length ≤ 50) (ht : Ts f p b) (hu : Ts g q c) (e : (b && c) = true) : Gd (.tup [.str tag, p, q]) := ⟨tag, [p, q], [.fn f, .fn g], rfl, h, rfl, by simp, h2, h3, ins2 h ht hu e⟩
section
variable {s : Sto} {R : W → Sto → Prop} {ns : List Int}
theorem ops_ok (h : R (.ref s.length) (s ++ [.lst [.str "add", .str "sub", .str "mul", .str "div", .str "mod", .str "neg", .str "less", .str "leq", .str "equal", .str "ref", .str "fetch", .str "assign", .str "print"]])) : Wp (FLawOperations [] s) R := by
  unfold FLawOperations
  rw [wp_mkF (by rfl)]
  unfold BLawOperations
  rw [wps_ret]
  exact ⟨_, _, rfl, h⟩
theorem cat_ok {r k : Nat} {a b : List W} (g : s[r]? = some (.lst a)) (g' : s[k]? = some (.lst b)) (hl : a.length + b.length ≤ 100000) (h : R (.ref s.length) (s ++ [.lst (a ++ b)])) : Wp (gAdd (.ref r) (.ref k) s) R := by
  refine ⟨_, _, ?_, h⟩
  simp only [gAdd, g, g', hl, if_true]
theorem ops_at {d : Nat} (h : d < 13) : ∃ o : Str, ([.str "add", .str "sub", .str "mul", .str "div", .str "mod", .str "neg", .str "less", .str "leq", .str "equal", .str "ref", .str "fetch", .str "assign", .str "print"] : List W)[d]? = some (.str o) ∧ ∃ i, tl T_OPERAND_COUNTS o = some (some i) := by
  have hd : d = 0 ∨ d = 1 ∨ d = 2 ∨ d = 3 ∨ d = 4 ∨ d = 5 ∨ d = 6 ∨ d = 7 ∨ d = 8 ∨ d = 9 ∨ d = 10 ∨ d = 11 ∨ d = 12 := by omega
  rcases hd with rfl | rfl | rfl | rfl | rfl | rfl | rfl | rfl | rfl | rfl | rfl | rfl | rfl
  all_goals exact ⟨_, rfl, _, rfl⟩
theorem ix_len (n : Nat) (s : Sto) : ∃ y : Int, gIx (.ref s.length) (.int ((n : Int) % 6)) (s ++ [.lst [.int 0, .int 2, .int 3, .int 4, .int 5, .int 6]]) = some (.int y, s ++ [.lst [.int 0, .int 2, .int 3, .int 4, .int 5, .int 6]]) ∧ (decide (0 ≤ y) && ([0, 2, 3, 4, 5, 6] : List Int).any fun x => decide (y = x)) = true := by
  have h : (n : Int) % 6 = ((n % 6 : Nat) : Int) := by omega
  rw [h]
  have hd : n % 6 = 0 ∨ n % 6 = 1 ∨ n % 6 = 2 ∨ n % 6 = 3 ∨ n % 6 = 4 ∨ n % 6 = 5 := by omega
  rcases hd with e | e | e | e | e | e <;> rw [e]
  · exact ⟨0, ixL gnew rfl, by decide⟩
  · exact ⟨2, ixL gnew rfl, by decide⟩
  · exact ⟨3, ixL gnew rfl, by decide⟩
  · exact ⟨4, ixL gnew rfl, by decide⟩
  · exact ⟨5, ixL gnew rfl, by decide⟩
  · exact ⟨6, ixL gnew rfl, by decide⟩
theorem instruction_ok (T : Tape s 1 0 ns) (h : ∀ row s', Gd row → Tape s' 1 0 ns → Mir.Fr [1] s s' → R row s') : Wp (FLawInstruction [.ref 1] s) R := by
  unfold FLawInstruction
  rw [wp_mkF (by rfl)]
  unfold BLawInstruction
  rw [take_eq]
  repeat first | with_reducible refine Eq.mpr wps_cons ?_ | with_reducible refine Eq.mpr wps_pass ?_ | with_reducible refine Eq.mpr wps_nil ?_ | with_reducible refine Eq.mpr wps_set ?_ | with_reducible refine Eq.mpr wps_do ?_ | with_reducible refine Eq.mpr wps_ret ?_ | with_reducible refine Eq.mpr wps_retN ?_ | with_reducible refine Eq.mpr wps_brk ?_ | with_reducible refine Eq.mpr wps_cnt ?_ | with_reducible refine Eq.mpr wps_if ?_ | with_reducible refine Eq.mpr wps_asg ?_ | with_reducible refine wps_asgL ?_ | with_reducible refine Eq.mpr wps_put ?_ | with_reducible refine Eq.mpr wps_dput ?_ | with_reducible refine Eq.mpr wps_aug ?_ | with_reducible refine Eq.mpr wps_par ?_ | with_reducible refine Eq.mpr wps_for ?_ | with_reducible refine Eq.mpr wps_wh ?_ | simp only [wp_tup0, wp_tup1, wp_tup2, wp_tup3, wp_tup4, wp_tup5, wp_tup6, wp_tup7, wp_lst0, wp_lst1, wp_lst2, wp_lst3, wp_lst4, wp_lst5, wp_lst6, wp_lst7, wp_lst8, wp_lst9, wp_lst10, wp_lst11, wp_lst12, wp_bd, wp_lc, ql_nx, ql_ct, ql_bk, ql_rt, iSeq, iEnu, Mir.iRev, chkR, chkT, chkO, lstO, wp_some, wp_ite, wp_none, bd_some, eVar, eC, eOp, eUn, eFn, eMt, aNil, aCons,  eAnd, eOr, eNot, eIf, eIsi, eChain, bTest, bTruth, bAnd, bOr, bNot, bYes, eSl, pNo, pAt, eRinA, eRinB, eDnew, eDin, eDget, eDget2, tgM_name, tgM_tup, tgMs_nil, tgMs_name, tgMs_tup, List.getElem?_cons_succ, List.getElem?_cons_zero, List.set_cons_succ, List.set_cons_zero, List.map_cons, List.map_nil, List.length_cons, List.length_nil, List.replicate, List.nil_append, List.cons_append, if_true, if_false, Bool.false_eq_true, Bool.true_eq_false, Nat.reduceAdd, Nat.reduceSub, Nat.reduceLeDiff, Nat.zero_add, Bool.not_true, Bool.not_false, nc0, nc1, nc2, nc3, not_true_eq_false, not_false_eq_true, ii, addI, subI, negI, int1, eqI, neI, eqS, neS, ix0, ix1, ix2, ix3, decide_eq_true_eq, Bool.not_eq_true', decide_eq_false_iff_not, truB, truN, keyI, keyS, lenT, wipeM]
  refine take_wp T 5000 (by decide) (by decide) fun n s1 hn T1 f1 l1 => ?_
  rw [wps_cons]
  refine wps_mid (M := fun ρ s' => ∃ z, ρ = [some (.ref 1), some (.int (n : Int)), some (.str z), none, none, none, none] ∧ Tape s' 1 0 ns ∧ Mir.Fr [1] s s') ?_ ?_
  · repeat first | with_reducible refine Eq.mpr wps_cons ?_ | with_reducible refine Eq.mpr wps_pass ?_ | with_reducible refine Eq.mpr wps_nil ?_ | with_reducible refine Eq.mpr wps_set ?_ | with_reducible refine Eq.mpr wps_do ?_ | with_reducible refine Eq.mpr wps_ret ?_ | with_reducible refine Eq.mpr wps_retN ?_ | with_reducible refine Eq.mpr wps_brk ?_ | with_reducible refine Eq.mpr wps_cnt ?_ | with_reducible refine Eq.mpr wps_if ?_ | with_reducible refine Eq.mpr wps_asg ?_ | with_reducible refine wps_asgL ?_ | with_reducible refine Eq.mpr wps_put ?_ | with_reducible refine Eq.mpr wps_dput ?_ | with_reducible refine Eq.mpr wps_aug ?_ | with_reducible refine Eq.mpr wps_par ?_ | with_reducible refine Eq.mpr wps_for ?_ | with_reducible refine Eq.mpr wps_wh ?_ | simp only [wp_tup0, wp_tup1, wp_tup2, wp_tup3, wp_tup4, wp_tup5, wp_tup6, wp_tup7, wp_lst0, wp_lst1, wp_lst2, wp_lst3, wp_lst4, wp_lst5, wp_lst6, wp_lst7, wp_lst8, wp_lst9, wp_lst10, wp_lst11, wp_lst12, wp_bd, wp_lc, ql_nx, ql_ct, ql_bk, ql_rt, iSeq, iEnu, Mir.iRev, chkR, chkT, chkO, lstO, wp_some, wp_ite, wp_none, bd_some, eVar, eC, eOp, eUn, eFn, eMt, aNil, aCons,  eAnd, eOr, eNot, eIf, eIsi, eChain, bTest, bTruth, bAnd, bOr, bNot, bYes, eSl, pNo, pAt, eRinA, eRinB, eDnew, eDin, eDget, eDget2, tgM_name, tgM_tup, tgMs_nil, tgMs_name, tgMs_tup, List.getElem?_cons_succ, List.getElem?_cons_zero, List.set_cons_succ, List.set_cons_zero, List.map_cons, List.map_nil, List.length_cons, List.length_nil, List.replicate, List.nil_append, List.cons_append, if_true, if_false, Bool.false_eq_true, Bool.true_eq_false, Nat.reduceAdd, Nat.reduceSub, Nat.reduceLeDiff, Nat.zero_add, Bool.not_true, Bool.not_false, nc0, nc1, nc2, nc3, not_true_eq_false, not_false_eq_true, ii, addI, subI, negI, int1, eqI, neI, eqS, neS, ix0, ix1, ix2, ix3, decide_eq_true_eq, Bool.not_eq_true', decide_eq_false_iff_not, truB, truN, keyI, keyS, lenT, wipeM]
    refine take_wp (T1.app _) 4 (by decide) (by decide) fun d s2 hd T2 f2 l2 => ?_
    have lt := T1.lt
    have g := f2.at_ s1.length _ (by simp; omega) gnew
    have ff : Mir.Fr [1] s s2 := f1.trans (Mir.Fr.trans (Fr.app) f2)
    have hd : d = 0 ∨ d = 1 ∨ d = 2 ∨ d = 3 := by omega
    rcases hd with rfl | rfl | rfl | rfl
    · repeat first | with_reducible refine Eq.mpr wps_cons ?_ | with_reducible refine Eq.mpr wps_pass ?_ | with_reducible refine Eq.mpr wps_nil ?_ | with_reducible refine Eq.mpr wps_set ?_ | with_reducible refine Eq.mpr wps_do ?_ | with_reducible refine Eq.mpr wps_ret ?_ | with_reducible refine Eq.mpr wps_retN ?_ | with_reducible refine Eq.mpr wps_brk ?_ | with_reducible refine Eq.mpr wps_cnt ?_ | with_reducible refine Eq.mpr wps_if ?_ | with_reducible refine Eq.mpr wps_asg ?_ | with_reducible refine wps_asgL ?_ | with_reducible refine Eq.mpr wps_put ?_ | with_reducible refine Eq.mpr wps_dput ?_ | with_reducible refine Eq.mpr wps_aug ?_ | with_reducible refine Eq.mpr wps_par ?_ | with_reducible refine Eq.mpr wps_for ?_ | with_reducible refine Eq.mpr wps_wh ?_ | simp only [wp_tup0, wp_tup1, wp_tup2, wp_tup3, wp_tup4, wp_tup5, wp_tup6, wp_tup7, wp_lst0, wp_lst1, wp_lst2, wp_lst3, wp_lst4, wp_lst5, wp_lst6, wp_lst7, wp_lst8, wp_lst9, wp_lst10, wp_lst11, wp_lst12, wp_bd, wp_lc, ql_nx, ql_ct, ql_bk, ql_rt, iSeq, iEnu, Mir.iRev, chkR, chkT, chkO, lstO, wp_some, wp_ite, wp_none, bd_some, eVar, eC, eOp, eUn, eFn, eMt, aNil, aCons,  eAnd, eOr, eNot, eIf, eIsi, eChain, bTest, bTruth, bAnd, bOr, bNot, bYes, eSl, pNo, pAt, eRinA, eRinB, eDnew, eDin, eDget, eDget2, tgM_name, tgM_tup, tgMs_nil, tgMs_name, tgMs_tup, List.getElem?_cons_succ, List.getElem?_cons_zero, List.set_cons_succ, List.set_cons_zero, List.map_cons, List.map_nil, List.length_cons, List.length_nil, List.replicate, List.nil_append, List.cons_append, if_true, if_false, Bool.false_eq_true, Bool.true_eq_false, Nat.reduceAdd, Nat.reduceSub, Nat.reduceLeDiff, Nat.zero_add, Bool.not_true, Bool.not_false, nc0, nc1, nc2, nc3, not_true_eq_false, not_false_eq_true, ii, addI, subI, negI, int1, eqI, neI, eqS, neS, ix0, ix1, ix2, ix3, decide_eq_true_eq, Bool.not_eq_true', decide_eq_false_iff_not, truB, truN, keyI, keyS, lenT, wipeM, show gIx (.ref s1.length) (.int 0) s2 = some (.str "a", s2) from ixL (i := 0) g rfl]
      exact ⟨_, rfl, T2, ff⟩
    · repeat first | with_reducible refine Eq.mpr wps_cons ?_ | with_reducible refine Eq.mpr wps_pass ?_ | with_reducible refine Eq.mpr wps_nil ?_ | with_reducible refine Eq.mpr wps_set ?_ | with_reducible refine Eq.mpr wps_do ?_ | with_reducible refine Eq.mpr wps_ret ?_ | with_reducible refine Eq.mpr wps_retN ?_ | with_reducible refine Eq.mpr wps_brk ?_ | with_reducible refine Eq.mpr wps_cnt ?_ | with_reducible refine Eq.mpr wps_if ?_ | with_reducible refine Eq.mpr wps_asg ?_ | with_reducible refine wps_asgL ?_ | with_reducible refine Eq.mpr wps_put ?_ | with_reducible refine Eq.mpr wps_dput ?_ | with_reducible refine Eq.mpr wps_aug ?_ | with_reducible refine Eq.mpr wps_par ?_ | with_reducible refine Eq.mpr wps_for ?_ | with_reducible refine Eq.mpr wps_wh ?_ | simp only [wp_tup0, wp_tup1, wp_tup2, wp_tup3, wp_tup4, wp_tup5, wp_tup6, wp_tup7, wp_lst0, wp_lst1, wp_lst2, wp_lst3, wp_lst4, wp_lst5, wp_lst6, wp_lst7, wp_lst8, wp_lst9, wp_lst10, wp_lst11, wp_lst12, wp_bd, wp_lc, ql_nx, ql_ct, ql_bk, ql_rt, iSeq, iEnu, Mir.iRev, chkR, chkT, chkO, lstO, wp_some, wp_ite, wp_none, bd_some, eVar, eC, eOp, eUn, eFn, eMt, aNil, aCons,  eAnd, eOr, eNot, eIf, eIsi, eChain, bTest, bTruth, bAnd, bOr, bNot, bYes, eSl, pNo, pAt, eRinA, eRinB, eDnew, eDin, eDget, eDget2, tgM_name, tgM_tup, tgMs_nil, tgMs_name, tgMs_tup, List.getElem?_cons_succ, List.getElem?_cons_zero, List.set_cons_succ, List.set_cons_zero, List.map_cons, List.map_nil, List.length_cons, List.length_nil, List.replicate, List.nil_append, List.cons_append, if_true, if_false, Bool.false_eq_true, Bool.true_eq_false, Nat.reduceAdd, Nat.reduceSub, Nat.reduceLeDiff, Nat.zero_add, Bool.not_true, Bool.not_false, nc0, nc1, nc2, nc3, not_true_eq_false, not_false_eq_true, ii, addI, subI, negI, int1, eqI, neI, eqS, neS, ix0, ix1, ix2, ix3, decide_eq_true_eq, Bool.not_eq_true', decide_eq_false_iff_not, truB, truN, keyI, keyS, lenT, wipeM, show gIx (.ref s1.length) (.int 1) s2 = some (.str "Some", s2) from ixL (i := 1) g rfl]
      exact ⟨_, rfl, T2, ff⟩
    · repeat first | with_reducible refine Eq.mpr wps_cons ?_ | with_reducible refine Eq.mpr wps_pass ?_ | with_reducible refine Eq.mpr wps_nil ?_ | with_reducible refine Eq.mpr wps_set ?_ | with_reducible refine Eq.mpr wps_do ?_ | with_reducible refine Eq.mpr wps_ret ?_ | with_reducible refine Eq.mpr wps_retN ?_ | with_reducible refine Eq.mpr wps_brk ?_ | with_reducible refine Eq.mpr wps_cnt ?_ | with_reducible refine Eq.mpr wps_if ?_ | with_reducible refine Eq.mpr wps_asg ?_ | with_reducible refine wps_asgL ?_ | with_reducible refine Eq.mpr wps_put ?_ | with_reducible refine Eq.mpr wps_dput ?_ | with_reducible refine Eq.mpr wps_aug ?_ | with_reducible refine Eq.mpr wps_par ?_ | with_reducible refine Eq.mpr wps_for ?_ | with_reducible refine Eq.mpr wps_wh ?_ | simp only [wp_tup0, wp_tup1, wp_tup2, wp_tup3, wp_tup4, wp_tup5, wp_tup6, wp_tup7, wp_lst0, wp_lst1, wp_lst2, wp_lst3, wp_lst4, wp_lst5, wp_lst6, wp_lst7, wp_lst8, wp_lst9, wp_lst10, wp_lst11, wp_lst12, wp_bd, wp_lc, ql_nx, ql_ct, ql_bk, ql_rt, iSeq, iEnu, Mir.iRev, chkR, chkT, chkO, lstO, wp_some, wp_ite, wp_none, bd_some, eVar, eC, eOp, eUn, eFn, eMt, aNil, aCons,  eAnd, eOr, eNot, eIf, eIsi, eChain, bTest, bTruth, bAnd, bOr, bNot, bYes, eSl, pNo, pAt, eRinA, eRinB, eDnew, eDin, eDget, eDget2, tgM_name, tgM_tup, tgMs_nil, tgMs_name, tgMs_tup, List.getElem?_cons_succ, List.getElem?_cons_zero, List.set_cons_succ, List.set_cons_zero, List.map_cons, List.map_nil, List.length_cons, List.length_nil, List.replicate, List.nil_append, List.cons_append, if_true, if_false, Bool.false_eq_true, Bool.true_eq_false, Nat.reduceAdd, Nat.reduceSub, Nat.reduceLeDiff, Nat.zero_add, Bool.not_true, Bool.not_false, nc0, nc1, nc2, nc3, not_true_eq_false, not_false_eq_true, ii, addI, subI, negI, int1, eqI, neI, eqS, neS, ix0, ix1, ix2, ix3, decide_eq_true_eq, Bool.not_eq_true', decide_eq_false_iff_not, truB, truN, keyI, keyS, lenT, wipeM, show gIx (.ref s1.length) (.int 2) s2 = some (.str "exn E", s2) from ixL (i := 2) g rfl]
      exact ⟨_, rfl, T2, ff⟩
    · repeat first | with_reducible refine Eq.mpr wps_cons ?_ | with_reducible refine Eq.mpr wps_pass ?_ | with_reducible refine Eq.mpr wps_nil ?_ | with_reducible refine Eq.mpr wps_set ?_ | with_reducible refine Eq.mpr wps_do ?_ | with_reducible refine Eq.mpr wps_ret ?_ | with_reducible refine Eq.mpr wps_retN ?_ | with_reducible refine Eq.mpr wps_brk ?_ | with_reducible refine Eq.mpr wps_cnt ?_ | with_reducible refine Eq.mpr wps_if ?_ | with_reducible refine Eq.mpr wps_asg ?_ | with_reducible refine wps_asgL ?_ | with_reducible refine Eq.mpr wps_put ?_ | with_reducible refine Eq.mpr wps_dput ?_ | with_reducible refine Eq.mpr wps_aug ?_ | with_reducible refine Eq.mpr wps_par ?_ | with_reducible refine Eq.mpr wps_for ?_ | with_reducible refine Eq.mpr wps_wh ?_ | simp only [wp_tup0, wp_tup1, wp_tup2, wp_tup3, wp_tup4, wp_tup5, wp_tup6, wp_tup7, wp_lst0, wp_lst1, wp_lst2, wp_lst3, wp_lst4, wp_lst5, wp_lst6, wp_lst7, wp_lst8, wp_lst9, wp_lst10, wp_lst11, wp_lst12, wp_bd, wp_lc, ql_nx, ql_ct, ql_bk, ql_rt, iSeq, iEnu, Mir.iRev, chkR, chkT, chkO, lstO, wp_some, wp_ite, wp_none, bd_some, eVar, eC, eOp, eUn, eFn, eMt, aNil, aCons,  eAnd, eOr, eNot, eIf, eIsi, eChain, bTest, bTruth, bAnd, bOr, bNot, bYes, eSl, pNo, pAt, eRinA, eRinB, eDnew, eDin, eDget, eDget2, tgM_name, tgM_tup, tgMs_nil, tgMs_name, tgMs_tup, List.getElem?_cons_succ, List.getElem?_cons_zero, List.set_cons_succ, List.set_cons_zero, List.map_cons, List.map_nil, List.length_cons, List.length_nil, List.replicate, List.nil_append, List.cons_append, if_true, if_false, Bool.false_eq_true, Bool.true_eq_false, Nat.reduceAdd, Nat.reduceSub, Nat.reduceLeDiff, Nat.zero_add, Bool.not_true, Bool.not_false, nc0, nc1, nc2, nc3, not_true_eq_false, not_false_eq_true, ii, addI, subI, negI, int1, eqI, neI, eqS, neS, ix0, ix1, ix2, ix3, decide_eq_true_eq, Bool.not_eq_true', decide_eq_false_iff_not, truB, truN, keyI, keyS, lenT, wipeM, show gIx (.ref s1.length) (.int 3) s2 = some (.str "val x", s2) from ixL (i := 3) g rfl]
      exact ⟨_, rfl, T2, ff⟩
  rintro ρ s2 ⟨z, rfl, T2, f2⟩
  rw [wps_cons]
  refine wps_mid (M := fun ρ s' => ∃ o : Str, ρ = [some (.ref 1), some (.int (n : Int)), some (.str z), some (.str o), none, none, none] ∧ (∃ i, tl T_OPERAND_COUNTS o = some (some i)) ∧ Tape s' 1 0 ns ∧ Mir.Fr [1] s s') ?_ ?_
  · repeat first | with_reducible refine Eq.mpr wps_cons ?_ | with_reducible refine Eq.mpr wps_pass ?_ | with_reducible refine Eq.mpr wps_nil ?_ | with_reducible refine Eq.mpr wps_set ?_ | with_reducible refine Eq.mpr wps_do ?_ | with_reducible refine Eq.mpr wps_ret ?_ | with_reducible refine Eq.mpr wps_retN ?_ | with_reducible refine Eq.mpr wps_brk ?_ | with_reducible refine Eq.mpr wps_cnt ?_ | with_reducible refine Eq.mpr wps_if ?_ | with_reducible refine Eq.mpr wps_asg ?_ | with_reducible refine wps_asgL ?_ | with_reducible refine Eq.mpr wps_put ?_ | with_reducible refine Eq.mpr wps_dput ?_ | with_reducible refine Eq.mpr wps_aug ?_ | with_reducible refine Eq.mpr wps_par ?_ | with_reducible refine Eq.mpr wps_for ?_ | with_reducible refine Eq.mpr wps_wh ?_ | simp only [wp_tup0, wp_tup1, wp_tup2, wp_tup3, wp_tup4, wp_tup5, wp_tup6, wp_tup7, wp_lst0, wp_lst1, wp_lst2, wp_lst3, wp_lst4, wp_lst5, wp_lst6, wp_lst7, wp_lst8, wp_lst9, wp_lst10, wp_lst11, wp_lst12, wp_bd, wp_lc, ql_nx, ql_ct, ql_bk, ql_rt, iSeq, iEnu, Mir.iRev, chkR, chkT, chkO, lstO, wp_some, wp_ite, wp_none, bd_some, eVar, eC, eOp, eUn, eFn, eMt, aNil, aCons,  eAnd, eOr, eNot, eIf, eIsi, eChain, bTest, bTruth, bAnd, bOr, bNot, bYes, eSl, pNo, pAt, eRinA, eRinB, eDnew, eDin, eDget, eDget2, tgM_name, tgM_tup, tgMs_nil, tgMs_name, tgMs_tup, List.getElem?_cons_succ, List.getElem?_cons_zero, List.set_cons_succ, List.set_cons_zero, List.map_cons, List.map_nil, List.length_cons, List.length_nil, List.replicate, List.nil_append, List.cons_append, if_true, if_false, Bool.false_eq_true, Bool.true_eq_false, Nat.reduceAdd, Nat.reduceSub, Nat.reduceLeDiff, Nat.zero_add, Bool.not_true, Bool.not_false, nc0, nc1, nc2, nc3, not_true_eq_false, not_false_eq_true, ii, addI, subI, negI, int1, eqI, neI, eqS, neS, ix0, ix1, ix2, ix3, decide_eq_true_eq, Bool.not_eq_true', decide_eq_false_iff_not, truB, truN, keyI, keyS, lenT, wipeM]
    refine ops_ok ?_
    repeat first | with_reducible refine Eq.mpr wps_cons ?_ | with_reducible refine Eq.mpr wps_pass ?_ | with_reducible refine Eq.mpr wps_nil ?_ | with_reducible refine Eq.mpr wps_set ?_ | with_reducible refine Eq.mpr wps_do ?_ | with_reducible refine Eq.mpr wps_ret ?_ | with_reducible refine Eq.mpr wps_retN ?_ | with_reducible refine Eq.mpr wps_brk ?_ | with_reducible refine Eq.mpr wps_cnt ?_ | with_reducible refine Eq.mpr wps_if ?_ | with_reducible refine Eq.mpr wps_asg ?_ | with_reducible refine wps_asgL ?_ | with_reducible refine Eq.mpr wps_put ?_ | with_reducible refine Eq.mpr wps_dput ?_ | with_reducible refine Eq.mpr wps_aug ?_ | with_reducible refine Eq.mpr wps_par ?_ | with_reducible refine Eq.mpr wps_for ?_ | with_reducible refine Eq.mpr wps_wh ?_ | simp only [wp_tup0, wp_tup1, wp_tup2, wp_tup3, wp_tup4, wp_tup5, wp_tup6, wp_tup7, wp_lst0, wp_lst1, wp_lst2, wp_lst3, wp_lst4, wp_lst5, wp_lst6, wp_lst7, wp_lst8, wp_lst9, wp_lst10, wp_lst11, wp_lst12, wp_bd, wp_lc, ql_nx, ql_ct, ql_bk, ql_rt, iSeq, iEnu, Mir.iRev, chkR, chkT, chkO, lstO, wp_some, wp_ite, wp_none, bd_some, eVar, eC, eOp, eUn, eFn, eMt, aNil, aCons,  eAnd, eOr, eNot, eIf, eIsi, eChain, bTest, bTruth, bAnd, bOr, bNot, bYes, eSl, pNo, pAt, eRinA, eRinB, eDnew, eDin, eDget, eDget2, tgM_name, tgM_tup, tgMs_nil, tgMs_name, tgMs_tup, List.getElem?_cons_succ, List.getElem?_cons_zero, List.set_cons_succ, List.set_cons_zero, List.map_cons, List.map_nil, List.length_cons, List.length_nil, List.replicate, List.nil_append, List.cons_append, if_true, if_false, Bool.false_eq_true, Bool.true_eq_false, Nat.reduceAdd, Nat.reduceSub, Nat.reduceLeDiff, Nat.zero_add, Bool.not_true, Bool.not_false, nc0, nc1, nc2, nc3, not_true_eq_false, not_false_eq_true, ii, addI, subI, negI, int1, eqI, neI, eqS, neS, ix0, ix1, ix2, ix3, decide_eq_true_eq, Bool.not_eq_true', decide_eq_false_iff_not, truB, truN, keyI, keyS, lenT, wipeM]
    refine take_wp (T2.app _) 13 (by decide) (by decide) fun d s3 hd T3 f3 l3 => ?_
    have lt := T2.lt
    have g := f3.at_ s2.length _ (by simp; omega) gnew
    have ff : Mir.Fr [1] s s3 := f2.trans (Mir.Fr.trans (Fr.app) f3)
    obtain ⟨o, ho1, ho2⟩ := ops_at hd
    have gi : gIx (.ref s2.length) (.int (d : Int)) s3 = some (.str o, s3) := ixL g ho1
    repeat first | with_reducible refine Eq.mpr wps_cons ?_ | with_reducible refine Eq.mpr wps_pass ?_ | with_reducible refine Eq.mpr wps_nil ?_ | with_reducible refine Eq.mpr wps_set ?_ | with_reducible refine Eq.mpr wps_do ?_ | with_reducible refine Eq.mpr wps_ret ?_ | with_reducible refine Eq.mpr wps_retN ?_ | with_reducible refine Eq.mpr wps_brk ?_ | with_reducible refine Eq.mpr wps_cnt ?_ | with_reducible refine Eq.mpr wps_if ?_ | with_reducible refine Eq.mpr wps_asg ?_ | with_reducible refine wps_asgL ?_ | with_reducible refine Eq.mpr wps_put ?_ | with_reducible refine Eq.mpr wps_dput ?_ | with_reducible refine Eq.mpr wps_aug ?_ | with_reducible refine Eq.mpr wps_par ?_ | with_reducible refine Eq.mpr wps_for ?_ | with_reducible refine Eq.mpr wps_wh ?_ | simp only [wp_tup0, wp_tup1, wp_tup2, wp_tup3, wp_tup4, wp_tup5, wp_tup6, wp_tup7, wp_lst0, wp_lst1, wp_lst2, wp_lst3, wp_lst4, wp_lst5, wp_lst6, wp_lst7, wp_lst8, wp_lst9, wp_lst10, wp_lst11, wp_lst12, wp_bd, wp_lc, ql_nx, ql_ct, ql_bk, ql_rt, iSeq, iEnu, Mir.iRev, chkR, chkT, chkO, lstO, wp_some, wp_ite, wp_none, bd_some, eVar, eC, eOp, eUn, eFn, eMt, aNil, aCons,  eAnd, eOr, eNot, eIf, eIsi, eChain, bTest, bTruth, bAnd, bOr, bNot, bYes, eSl, pNo, pAt, eRinA, eRinB, eDnew, eDin, eDget, eDget2, tgM_name, tgM_tup, tgMs_nil, tgMs_name, tgMs_tup, List.getElem?_cons_succ, List.getElem?_cons_zero, List.set_cons_succ, List.set_cons_zero, List.map_cons, List.map_nil, List.length_cons, List.length_nil, List.replicate, List.nil_append, List.cons_append, if_true, if_false, Bool.false_eq_true, Bool.true_eq_false, Nat.reduceAdd, Nat.reduceSub, Nat.reduceLeDiff, Nat.zero_add, Bool.not_true, Bool.not_false, nc0, nc1, nc2, nc3, not_true_eq_false, not_false_eq_true, ii, addI, subI, negI, int1, eqI, neI, eqS, neS, ix0, ix1, ix2, ix3, decide_eq_true_eq, Bool.not_eq_true', decide_eq_false_iff_not, truB, truN, keyI, keyS, lenT, wipeM, gi]
    exact ⟨_, rfl, ho2, T3, ff⟩
  rintro ρ s3 ⟨o, rfl, ho, T3, f3⟩
  rw [wps_cons]
  refine wps_mid (M := fun ρ s' => ∃ l : List Str, ρ = [some (.ref 1), some (.int (n : Int)), some (.str z), some (.str o), some (.tup (l.map W.str)), none, none] ∧ l.length ≤ 1000 ∧ Vs.dn (l.map .inr) = l.length ∧ Tape s' 1 0 ns ∧ Mir.Fr [1] s s') ?_ ?_
  · repeat first | with_reducible refine Eq.mpr wps_cons ?_ | with_reducible refine Eq.mpr wps_pass ?_ | with_reducible refine Eq.mpr wps_nil ?_ | with_reducible refine Eq.mpr wps_set ?_ | with_reducible refine Eq.mpr wps_do ?_ | with_reducible refine Eq.mpr wps_ret ?_ | with_reducible refine Eq.mpr wps_retN ?_ | with_reducible refine Eq.mpr wps_brk ?_ | with_reducible refine Eq.mpr wps_cnt ?_ | with_reducible refine Eq.mpr wps_if ?_ | with_reducible refine Eq.mpr wps_asg ?_ | with_reducible refine wps_asgL ?_ | with_reducible refine Eq.mpr wps_put ?_ | with_reducible refine Eq.mpr wps_dput ?_ | with_reducible refine Eq.mpr wps_aug ?_ | with_reducible refine Eq.mpr wps_par ?_ | with_reducible refine Eq.mpr wps_for ?_ | with_reducible refine Eq.mpr wps_wh ?_ | simp only [wp_tup0, wp_tup1, wp_tup2, wp_tup3, wp_tup4, wp_tup5, wp_tup6, wp_tup7, wp_lst0, wp_lst1, wp_lst2, wp_lst3, wp_lst4, wp_lst5, wp_lst6, wp_lst7, wp_lst8, wp_lst9, wp_lst10, wp_lst11, wp_lst12, wp_bd, wp_lc, ql_nx, ql_ct, ql_bk, ql_rt, iSeq, iEnu, Mir.iRev, chkR, chkT, chkO, lstO, wp_some, wp_ite, wp_none, bd_some, eVar, eC, eOp, eUn, eFn, eMt, aNil, aCons,  eAnd, eOr, eNot, eIf, eIsi, eChain, bTest, bTruth, bAnd, bOr, bNot, bYes, eSl, pNo, pAt, eRinA, eRinB, eDnew, eDin, eDget, eDget2, tgM_name, tgM_tup, tgMs_nil, tgMs_name, tgMs_tup, List.getElem?_cons_succ, List.getElem?_cons_zero, List.set_cons_succ, List.set_cons_zero, List.map_cons, List.map_nil, List.length_cons, List.length_nil, List.replicate, List.nil_append, List.cons_append, if_true, if_false, Bool.false_eq_true, Bool.true_eq_false, Nat.reduceAdd, Nat.reduceSub, Nat.reduceLeDiff, Nat.zero_add, Bool.not_true, Bool.not_false, nc0, nc1, nc2, nc3, not_true_eq_false, not_false_eq_true, ii, addI, subI, negI, int1, eqI, neI, eqS, neS, ix0, ix1, ix2, ix3, decide_eq_true_eq, Bool.not_eq_true', decide_eq_false_iff_not, truB, truN, keyI, keyS, lenT, wipeM]
    refine take_wp (T3.app _) 4 (by decide) (by decide) fun d s4 hd T4 f4 l4 => ?_
    have lt := T3.lt
    have g := f4.at_ s3.length _ (by simp; omega) gnew
    have ff : Mir.Fr [1] s s4 := f3.trans (Mir.Fr.trans (Fr.app) f4)
    have hd : d = 0 ∨ d = 1 ∨ d = 2 ∨ d = 3 := by omega
    rcases hd with rfl | rfl | rfl | rfl
    · repeat first | with_reducible refine Eq.mpr wps_cons ?_ | with_reducible refine Eq.mpr wps_pass ?_ | with_reducible refine Eq.mpr wps_nil ?_ | with_reducible refine Eq.mpr wps_set ?_ | with_reducible refine Eq.mpr wps_do ?_ | with_reducible refine Eq.mpr wps_ret ?_ | with_reducible refine Eq.mpr wps_retN ?_ | with_reducible refine Eq.mpr wps_brk ?_ | with_reducible refine Eq.mpr wps_cnt ?_ | with_reducible refine Eq.mpr wps_if ?_ | with_reducible refine Eq.mpr wps_asg ?_ | with_reducible refine wps_asgL ?_ | with_reducible refine Eq.mpr wps_put ?_ | with_reducible refine Eq.mpr wps_dput ?_ | with_reducible refine Eq.mpr wps_aug ?_ | with_reducible refine Eq.mpr wps_par ?_ | with_reducible refine Eq.mpr wps_for ?_ | with_reducible refine Eq.mpr wps_wh ?_ | simp only [wp_tup0, wp_tup1, wp_tup2, wp_tup3, wp_tup4, wp_tup5, wp_tup6, wp_tup7, wp_lst0, wp_lst1, wp_lst2, wp_lst3, wp_lst4, wp_lst5, wp_lst6, wp_lst7, wp_lst8, wp_lst9, wp_lst10, wp_lst11, wp_lst12, wp_bd, wp_lc, ql_nx, ql_ct, ql_bk, ql_rt, iSeq, iEnu, Mir.iRev, chkR, chkT, chkO, lstO, wp_some, wp_ite, wp_none, bd_some, eVar, eC, eOp, eUn, eFn, eMt, aNil, aCons,  eAnd, eOr, eNot, eIf, eIsi, eChain, bTest, bTruth, bAnd, bOr, bNot, bYes, eSl, pNo, pAt, eRinA, eRinB, eDnew, eDin, eDget, eDget2, tgM_name, tgM_tup, tgMs_nil, tgMs_name, tgMs_tup, List.getElem?_cons_succ, List.getElem?_cons_zero, List.set_cons_succ, List.set_cons_zero, List.map_cons, List.map_nil, List.length_cons, List.length_nil, List.replicate, List.nil_append, List.cons_append, if_true, if_false, Bool.false_eq_true, Bool.true_eq_false, Nat.reduceAdd, Nat.reduceSub, Nat.reduceLeDiff, Nat.zero_add, Bool.not_true, Bool.not_false, nc0, nc1, nc2, nc3, not_true_eq_false, not_false_eq_true, ii, addI, subI, negI, int1, eqI, neI, eqS, neS, ix0, ix1, ix2, ix3, decide_eq_true_eq, Bool.not_eq_true', decide_eq_false_iff_not, truB, truN, keyI, keyS, lenT, wipeM, show gIx (.ref s3.length) (.int 0) s4 = some (.tup [], s4) from ixL (i := 0) g rfl]
      exact ⟨[], rfl, by simp, by decide +kernel, T4, ff⟩
    · repeat first | with_reducible refine Eq.mpr wps_cons ?_ | with_reducible refine Eq.mpr wps_pass ?_ | with_reducible refine Eq.mpr wps_nil ?_ | with_reducible refine Eq.mpr wps_set ?_ | with_reducible refine Eq.mpr wps_do ?_ | with_reducible refine Eq.mpr wps_ret ?_ | with_reducible refine Eq.mpr wps_retN ?_ | with_reducible refine Eq.mpr wps_brk ?_ | with_reducible refine Eq.mpr wps_cnt ?_ | with_reducible refine Eq.mpr wps_if ?_ | with_reducible refine Eq.mpr wps_asg ?_ | with_reducible refine wps_asgL ?_ | with_reducible refine Eq.mpr wps_put ?_ | with_reducible refine Eq.mpr wps_dput ?_ | with_reducible refine Eq.mpr wps_aug ?_ | with_reducible refine Eq.mpr wps_par ?_ | with_reducible refine Eq.mpr wps_for ?_ | with_reducible refine Eq.mpr wps_wh ?_ | simp only [wp_tup0, wp_tup1, wp_tup2, wp_tup3, wp_tup4, wp_tup5, wp_tup6, wp_tup7, wp_lst0, wp_lst1, wp_lst2, wp_lst3, wp_lst4, wp_lst5, wp_lst6, wp_lst7, wp_lst8, wp_lst9, wp_lst10, wp_lst11, wp_lst12, wp_bd, wp_lc, ql_nx, ql_ct, ql_bk, ql_rt, iSeq, iEnu, Mir.iRev, chkR, chkT, chkO, lstO, wp_some, wp_ite, wp_none, bd_some, eVar, eC, eOp, eUn, eFn, eMt, aNil, aCons,  eAnd, eOr, eNot, eIf, eIsi, eChain, bTest, bTruth, bAnd, bOr, bNot, bYes, eSl, pNo, pAt, eRinA, eRinB, eDnew, eDin, eDget, eDget2, tgM_name, tgM_tup, tgMs_nil, tgMs_name, tgMs_tup, List.getElem?_cons_succ, List.getElem?_cons_zero, List.set_cons_succ, List.set_cons_zero, List.map_cons, List.map_nil, List.length_cons, List.length_nil, List.replicate, List.nil_append, List.cons_append, if_true, if_false, Bool.false_eq_true, Bool.true_eq_false, Nat.reduceAdd, Nat.reduceSub, Nat.reduceLeDiff, Nat.zero_add, Bool.not_true, Bool.not_false, nc0, nc1, nc2, nc3, not_true_eq_false, not_false_eq_true, ii, addI, subI, negI, int1, eqI, neI, eqS, neS, ix0, ix1, ix2, ix3, decide_eq_true_eq, Bool.not_eq_true', decide_eq_false_iff_not, truB, truN, keyI, keyS, lenT, wipeM, show gIx (.ref s3.length) (.int 1) s4 = some (.tup [.str "val x"], s4) from ixL (i := 1) g rfl]
      exact ⟨["val x"], rfl, by simp, by decide +kernel, T4, ff⟩
    · repeat first | with_reducible refine Eq.mpr wps_cons ?_ | with_reducible refine Eq.mpr wps_pass ?_ | with_reducible refine Eq.mpr wps_nil ?_ | with_reducible refine Eq.mpr wps_set ?_ | with_reducible refine Eq.mpr wps_do ?_ | with_reducible refine Eq.mpr wps_ret ?_ | with_reducible refine Eq.mpr wps_retN ?_ | with_reducible refine Eq.mpr wps_brk ?_ | with_reducible refine Eq.mpr wps_cnt ?_ | with_reducible refine Eq.mpr wps_if ?_ | with_reducible refine Eq.mpr wps_asg ?_ | with_reducible refine wps_asgL ?_ | with_reducible refine Eq.mpr wps_put ?_ | with_reducible refine Eq.mpr wps_dput ?_ | with_reducible refine Eq.mpr wps_aug ?_ | with_reducible refine Eq.mpr wps_par ?_ | with_reducible refine Eq.mpr wps_for ?_ | with_reducible refine Eq.mpr wps_wh ?_ | simp only [wp_tup0, wp_tup1, wp_tup2, wp_tup3, wp_tup4, wp_tup5, wp_tup6, wp_tup7, wp_lst0, wp_lst1, wp_lst2, wp_lst3, wp_lst4, wp_lst5, wp_lst6, wp_lst7, wp_lst8, wp_lst9, wp_lst10, wp_lst11, wp_lst12, wp_bd, wp_lc, ql_nx, ql_ct, ql_bk, ql_rt, iSeq, iEnu, Mir.iRev, chkR, chkT, chkO, lstO, wp_some, wp_ite, wp_none, bd_some, eVar, eC, eOp, eUn, eFn, eMt, aNil, aCons,  eAnd, eOr, eNot, eIf, eIsi, eChain, bTest, bTruth, bAnd, bOr, bNot, bYes, eSl, pNo, pAt, eRinA, eRinB, eDnew, eDin, eDget, eDget2, tgM_name, tgM_tup, tgMs_nil, tgMs_name, tgMs_tup, List.getElem?_cons_succ, List.getElem?_cons_zero, List.set_cons_succ, List.set_cons_zero, List.map_cons, List.map_nil, List.length_cons, List.length_nil, List.replicate, List.nil_append, List.cons_append, if_true, if_false, Bool.false_eq_true, Bool.true_eq_false, Nat.reduceAdd, Nat.reduceSub, Nat.reduceLeDiff, Nat.zero_add, Bool.not_true, Bool.not_false, nc0, nc1, nc2, nc3, not_true_eq_false, not_false_eq_true, ii, addI, subI, negI, int1, eqI, neI, eqS, neS, ix0, ix1, ix2, ix3, decide_eq_true_eq, Bool.not_eq_true', decide_eq_false_iff_not, truB, truN, keyI, keyS, lenT, wipeM, show gIx (.ref s3.length) (.int 2) s4 = some (.tup [.str "val x", .str "mod M"], s4) from ixL (i := 2) g rfl]
      exact ⟨["val x", "mod M"], rfl, by simp, by decide +kernel, T4, ff⟩
    · repeat first | with_reducible refine Eq.mpr wps_cons ?_ | with_reducible refine Eq.mpr wps_pass ?_ | with_reducible refine Eq.mpr wps_nil ?_ | with_reducible refine Eq.mpr wps_set ?_ | with_reducible refine Eq.mpr wps_do ?_ | with_reducible refine Eq.mpr wps_ret ?_ | with_reducible refine Eq.mpr wps_retN ?_ | with_reducible refine Eq.mpr wps_brk ?_ | with_reducible refine Eq.mpr wps_cnt ?_ | with_reducible refine Eq.mpr wps_if ?_ | with_reducible refine Eq.mpr wps_asg ?_ | with_reducible refine wps_asgL ?_ | with_reducible refine Eq.mpr wps_put ?_ | with_reducible refine Eq.mpr wps_dput ?_ | with_reducible refine Eq.mpr wps_aug ?_ | with_reducible refine Eq.mpr wps_par ?_ | with_reducible refine Eq.mpr wps_for ?_ | with_reducible refine Eq.mpr wps_wh ?_ | simp only [wp_tup0, wp_tup1, wp_tup2, wp_tup3, wp_tup4, wp_tup5, wp_tup6, wp_tup7, wp_lst0, wp_lst1, wp_lst2, wp_lst3, wp_lst4, wp_lst5, wp_lst6, wp_lst7, wp_lst8, wp_lst9, wp_lst10, wp_lst11, wp_lst12, wp_bd, wp_lc, ql_nx, ql_ct, ql_bk, ql_rt, iSeq, iEnu, Mir.iRev, chkR, chkT, chkO, lstO, wp_some, wp_ite, wp_none, bd_some, eVar, eC, eOp, eUn, eFn, eMt, aNil, aCons,  eAnd, eOr, eNot, eIf, eIsi, eChain, bTest, bTruth, bAnd, bOr, bNot, bYes, eSl, pNo, pAt, eRinA, eRinB, eDnew, eDin, eDget, eDget2, tgM_name, tgM_tup, tgMs_nil, tgMs_name, tgMs_tup, List.getElem?_cons_succ, List.getElem?_cons_zero, List.set_cons_succ, List.set_cons_zero, List.map_cons, List.map_nil, List.length_cons, List.length_nil, List.replicate, List.nil_append, List.cons_append, if_true, if_false, Bool.false_eq_true, Bool.true_eq_false, Nat.reduceAdd, Nat.reduceSub, Nat.reduceLeDiff, Nat.zero_add, Bool.not_true, Bool.not_false, nc0, nc1, nc2, nc3, not_true_eq_false, not_false_eq_true, ii, addI, subI, negI, int1, eqI, neI, eqS, neS, ix0, ix1, ix2, ix3, decide_eq_true_eq, Bool.not_eq_true', decide_eq_false_iff_not, truB, truN, keyI, keyS, lenT, wipeM, show gIx (.ref s3.length) (.int 3) s4 = some (.tup [.str "c", .str "b", .str "a"], s4) from ixL (i := 3) g rfl]
      exact ⟨["c", "b", "a"], rfl, by simp, by decide +kernel, T4, ff⟩
  rintro ρ s4 ⟨l, rfl, hl, hdn, T4, f4⟩
  rw [wps_cons]
  refine wps_mid (M := fun ρ s' => ∃ x : Int, ρ = [some (.ref 1), some (.int (n : Int)), some (.str z), some (.str o), some (.tup (l.map W.str)), some (.int x), none] ∧ -2147483648 ≤ x ∧ x ≤ 2147483647 ∧ Tape s' 1 0 ns ∧ Mir.Fr [1] s s') ?_ ?_
  · repeat first | with_reducible refine Eq.mpr wps_cons ?_ | with_reducible refine Eq.mpr wps_pass ?_ | with_reducible refine Eq.mpr wps_nil ?_ | with_reducible refine Eq.mpr wps_set ?_ | with_reducible refine Eq.mpr wps_do ?_ | with_reducible refine Eq.mpr wps_ret ?_ | with_reducible refine Eq.mpr wps_retN ?_ | with_reducible refine Eq.mpr wps_brk ?_ | with_reducible refine Eq.mpr wps_cnt ?_ | with_reducible refine Eq.mpr wps_if ?_ | with_reducible refine Eq.mpr wps_asg ?_ | with_reducible refine wps_asgL ?_ | with_reducible refine Eq.mpr wps_put ?_ | with_reducible refine Eq.mpr wps_dput ?_ | with_reducible refine Eq.mpr wps_aug ?_ | with_reducible refine Eq.mpr wps_par ?_ | with_reducible refine Eq.mpr wps_for ?_ | with_reducible refine Eq.mpr wps_wh ?_ | simp only [wp_tup0, wp_tup1, wp_tup2, wp_tup3, wp_tup4, wp_tup5, wp_tup6, wp_tup7, wp_lst0, wp_lst1, wp_lst2, wp_lst3, wp_lst4, wp_lst5, wp_lst6, wp_lst7, wp_lst8, wp_lst9, wp_lst10, wp_lst11, wp_lst12, wp_bd, wp_lc, ql_nx, ql_ct, ql_bk, ql_rt, iSeq, iEnu, Mir.iRev, chkR, chkT, chkO, lstO, wp_some, wp_ite, wp_none, bd_some, eVar, eC, eOp, eUn, eFn, eMt, aNil, aCons,  eAnd, eOr, eNot, eIf, eIsi, eChain, bTest, bTruth, bAnd, bOr, bNot, bYes, eSl, pNo, pAt, eRinA, eRinB, eDnew, eDin, eDget, eDget2, tgM_name, tgM_tup, tgMs_nil, tgMs_name, tgMs_tup, List.getElem?_cons_succ, List.getElem?_cons_zero, List.set_cons_succ, List.set_cons_zero, List.map_cons, List.map_nil, List.length_cons, List.length_nil, List.replicate, List.nil_append, List.cons_append, if_true, if_false, Bool.false_eq_true, Bool.true_eq_false, Nat.reduceAdd, Nat.reduceSub, Nat.reduceLeDiff, Nat.zero_add, Bool.not_true, Bool.not_false, nc0, nc1, nc2, nc3, not_true_eq_false, not_false_eq_true, ii, addI, subI, negI, int1, eqI, neI, eqS, neS, ix0, ix1, ix2, ix3, decide_eq_true_eq, Bool.not_eq_true', decide_eq_false_iff_not, truB, truN, keyI, keyS, lenT, wipeM]
    refine take_wp T4 4294967296 (by decide) (by decide) fun d s5 hd T5 f5 l5 => ?_
    repeat first | with_reducible refine Eq.mpr wps_cons ?_ | with_reducible refine Eq.mpr wps_pass ?_ | with_reducible refine Eq.mpr wps_nil ?_ | with_reducible refine Eq.mpr wps_set ?_ | with_reducible refine Eq.mpr wps_do ?_ | with_reducible refine Eq.mpr wps_ret ?_ | with_reducible refine Eq.mpr wps_retN ?_ | with_reducible refine Eq.mpr wps_brk ?_ | with_reducible refine Eq.mpr wps_cnt ?_ | with_reducible refine Eq.mpr wps_if ?_ | with_reducible refine Eq.mpr wps_asg ?_ | with_reducible refine wps_asgL ?_ | with_reducible refine Eq.mpr wps_put ?_ | with_reducible refine Eq.mpr wps_dput ?_ | with_reducible refine Eq.mpr wps_aug ?_ | with_reducible refine Eq.mpr wps_par ?_ | with_reducible refine Eq.mpr wps_for ?_ | with_reducible refine Eq.mpr wps_wh ?_ | simp only [wp_tup0, wp_tup1, wp_tup2, wp_tup3, wp_tup4, wp_tup5, wp_tup6, wp_tup7, wp_lst0, wp_lst1, wp_lst2, wp_lst3, wp_lst4, wp_lst5, wp_lst6, wp_lst7, wp_lst8, wp_lst9, wp_lst10, wp_lst11, wp_lst12, wp_bd, wp_lc, ql_nx, ql_ct, ql_bk, ql_rt, iSeq, iEnu, Mir.iRev, chkR, chkT, chkO, lstO, wp_some, wp_ite, wp_none, bd_some, eVar, eC, eOp, eUn, eFn, eMt, aNil, aCons,  eAnd, eOr, eNot, eIf, eIsi, eChain, bTest, bTruth, bAnd, bOr, bNot, bYes, eSl, pNo, pAt, eRinA, eRinB, eDnew, eDin, eDget, eDget2, tgM_name, tgM_tup, tgMs_nil, tgMs_name, tgMs_tup, List.getElem?_cons_succ, List.getElem?_cons_zero, List.set_cons_succ, List.set_cons_zero, List.map_cons, List.map_nil, List.length_cons, List.length_nil, List.replicate, List.nil_append, List.cons_append, if_true, if_false, Bool.false_eq_true, Bool.true_eq_false, Nat.reduceAdd, Nat.reduceSub, Nat.reduceLeDiff, Nat.zero_add, Bool.not_true, Bool.not_false, nc0, nc1, nc2, nc3, not_true_eq_false, not_false_eq_true, ii, addI, subI, negI, int1, eqI, neI, eqS, neS, ix0, ix1, ix2, ix3, decide_eq_true_eq, Bool.not_eq_true', decide_eq_false_iff_not, truB, truN, keyI, keyS, lenT, wipeM]
    exact ⟨_, rfl, by omega, by omega, T5, f4.trans f5⟩
  rintro ρ s5 ⟨x, rfl, x1, x2, T5, f5⟩
  rw [wps_cons]
  refine wps_mid (M := fun ρ s' => ∃ (r : Nat) (ws : List W), ρ = [some (.ref 1), some (.int (n : Int)), some (.str z), some (.str o), some (.tup (l.map W.str)), some (.int x), some (.ref r)] ∧ s'[r]? = some (.lst ws) ∧ (∀ w ∈ ws, Gd w) ∧ ws.length = 7 ∧ r ≠ 1 ∧ Tape s' 1 0 ns ∧ Mir.Fr [1] s s') ?_ ?_
  · repeat first | with_reducible refine Eq.mpr wps_cons ?_ | with_reducible refine Eq.mpr wps_pass ?_ | with_reducible refine Eq.mpr wps_nil ?_ | with_reducible refine Eq.mpr wps_set ?_ | with_reducible refine Eq.mpr wps_do ?_ | with_reducible refine Eq.mpr wps_ret ?_ | with_reducible refine Eq.mpr wps_retN ?_ | with_reducible refine Eq.mpr wps_brk ?_ | with_reducible refine Eq.mpr wps_cnt ?_ | with_reducible refine Eq.mpr wps_if ?_ | with_reducible refine Eq.mpr wps_asg ?_ | with_reducible refine wps_asgL ?_ | with_reducible refine Eq.mpr wps_put ?_ | with_reducible refine Eq.mpr wps_dput ?_ | with_reducible refine Eq.mpr wps_aug ?_ | with_reducible refine Eq.mpr wps_par ?_ | with_reducible refine Eq.mpr wps_for ?_ | with_reducible refine Eq.mpr wps_wh ?_ | simp only [wp_tup0, wp_tup1, wp_tup2, wp_tup3, wp_tup4, wp_tup5, wp_tup6, wp_tup7, wp_lst0, wp_lst1, wp_lst2, wp_lst3, wp_lst4, wp_lst5, wp_lst6, wp_lst7, wp_lst8, wp_lst9, wp_lst10, wp_lst11, wp_lst12, wp_bd, wp_lc, ql_nx, ql_ct, ql_bk, ql_rt, iSeq, iEnu, Mir.iRev, chkR, chkT, chkO, lstO, wp_some, wp_ite, wp_none, bd_some, eVar, eC, eOp, eUn, eFn, eMt, aNil, aCons,  eAnd, eOr, eNot, eIf, eIsi, eChain, bTest, bTruth, bAnd, bOr, bNot, bYes, eSl, pNo, pAt, eRinA, eRinB, eDnew, eDin, eDget, eDget2, tgM_name, tgM_tup, tgMs_nil, tgMs_name, tgMs_tup, List.getElem?_cons_succ, List.getElem?_cons_zero, List.set_cons_succ, List.set_cons_zero, List.map_cons, List.map_nil, List.length_cons, List.length_nil, List.replicate, List.nil_append, List.cons_append, if_true, if_false, Bool.false_eq_true, Bool.true_eq_false, Nat.reduceAdd, Nat.reduceSub, Nat.reduceLeDiff, Nat.zero_add, Bool.not_true, Bool.not_false, nc0, nc1, nc2, nc3, not_true_eq_false, not_false_eq_true, ii, addI, subI, negI, int1, eqI, neI, eqS, neS, ix0, ix1, ix2, ix3, decide_eq_true_eq, Bool.not_eq_true', decide_eq_false_iff_not, truB, truN, keyI, keyS, lenT, wipeM]
    have lt := T5.lt
    refine ⟨s5.length, _, rfl, gnew, ?_, rfl, by omega, T5.app _, f5.trans Fr.app⟩
    intro w hw
    simp only [List.mem_cons, List.not_mem_nil, or_false] at hw
    rcases hw with rfl | rfl | rfl | rfl | rfl | rfl | rfl
    all_goals exact gd1 (f := "is_number") (by kernel_rfl) (by kernel_rfl) (by decide +kernel) t_num (by simp)
  rintro ρ s6 ⟨r, ws, rfl, g6, G6, n6, r6, T6, f6⟩
  have m4 : ∀ s : Sto, gMod (.int (n : Int)) (.int 4) s = some (.int ((n : Int) % 4), s) := fun s => modR (by omega)
  have m6 : ∀ s : Sto, gMod (.int (n : Int)) (.int 6) s = some (.int ((n : Int) % 6), s) := fun s => modR (by omega)
  have m2 : ∀ s : Sto, gMod (.int (n : Int)) (.int 2) s = some (.int ((n : Int) % 2), s) := fun s => modR (by omega)
  have m12 : ∀ s : Sto, gMod (.int (n : Int)) (.int 12) s = some (.int ((n : Int) % 12), s) := fun s => modR (by omega)
  rw [wps_cons]
  refine wps_mid (M := fun ρ s' => ∃ (r : Nat) (ws : List W), ρ = [some (.ref 1), some (.int (n : Int)), some (.str z), some (.str o), some (.tup (l.map W.str)), some (.int x), some (.ref r)] ∧ s'[r]? = some (.lst ws) ∧ (∀ w ∈ ws, Gd w) ∧ ws.length = 12 ∧ r ≠ 1 ∧ Tape s' 1 0 ns ∧ Mir.Fr [1] s s') ?_ ?_
  · obtain ⟨y, hy, hy2⟩ := ix_len n s6
    repeat first | with_reducible refine Eq.mpr wps_cons ?_ | with_reducible refine Eq.mpr wps_pass ?_ | with_reducible refine Eq.mpr wps_nil ?_ | with_reducible refine Eq.mpr wps_set ?_ | with_reducible refine Eq.mpr wps_do ?_ | with_reducible refine Eq.mpr wps_ret ?_ | with_reducible refine Eq.mpr wps_retN ?_ | with_reducible refine Eq.mpr wps_brk ?_ | with_reducible refine Eq.mpr wps_cnt ?_ | with_reducible refine Eq.mpr wps_if ?_ | with_reducible refine Eq.mpr wps_asg ?_ | with_reducible refine wps_asgL ?_ | with_reducible refine Eq.mpr wps_put ?_ | with_reducible refine Eq.mpr wps_dput ?_ | with_reducible refine Eq.mpr wps_aug ?_ | with_reducible refine Eq.mpr wps_par ?_ | with_reducible refine Eq.mpr wps_for ?_ | with_reducible refine Eq.mpr wps_wh ?_ | simp only [wp_tup0, wp_tup1, wp_tup2, wp_tup3, wp_tup4, wp_tup5, wp_tup6, wp_tup7, wp_lst0, wp_lst1, wp_lst2, wp_lst3, wp_lst4, wp_lst5, wp_lst6, wp_lst7, wp_lst8, wp_lst9, wp_lst10, wp_lst11, wp_lst12, wp_bd, wp_lc, ql_nx, ql_ct, ql_bk, ql_rt, iSeq, iEnu, Mir.iRev, chkR, chkT, chkO, lstO, wp_some, wp_ite, wp_none, bd_some, eVar, eC, eOp, eUn, eFn, eMt, aNil, aCons,  eAnd, eOr, eNot, eIf, eIsi, eChain, bTest, bTruth, bAnd, bOr, bNot, bYes, eSl, pNo, pAt, eRinA, eRinB, eDnew, eDin, eDget, eDget2, tgM_name, tgM_tup, tgMs_nil, tgMs_name, tgMs_tup, List.getElem?_cons_succ, List.getElem?_cons_zero, List.set_cons_succ, List.set_cons_zero, List.map_cons, List.map_nil, List.length_cons, List.length_nil, List.replicate, List.nil_append, List.cons_append, if_true, if_false, Bool.false_eq_true, Bool.true_eq_false, Nat.reduceAdd, Nat.reduceSub, Nat.reduceLeDiff, Nat.zero_add, Bool.not_true, Bool.not_false, nc0, nc1, nc2, nc3, not_true_eq_false, not_false_eq_true, ii, addI, subI, negI, int1, eqI, neI, eqS, neS, ix0, ix1, ix2, ix3, decide_eq_true_eq, Bool.not_eq_true', decide_eq_false_iff_not, truB, truN, keyI, keyS, lenT, wipeM, m4, m6, hy]
    refine cat_ok (gapp (gapp g6)) gnew (by simp [n6]) ?_
    repeat first | with_reducible refine Eq.mpr wps_cons ?_ | with_reducible refine Eq.mpr wps_pass ?_ | with_reducible refine Eq.mpr wps_nil ?_ | with_reducible refine Eq.mpr wps_set ?_ | with_reducible refine Eq.mpr wps_do ?_ | with_reducible refine Eq.mpr wps_ret ?_ | with_reducible refine Eq.mpr wps_retN ?_ | with_reducible refine Eq.mpr wps_brk ?_ | with_reducible refine Eq.mpr wps_cnt ?_ | with_reducible refine Eq.mpr wps_if ?_ | with_reducible refine Eq.mpr wps_asg ?_ | with_reducible refine wps_asgL ?_ | with_reducible refine Eq.mpr wps_put ?_ | with_reducible refine Eq.mpr wps_dput ?_ | with_reducible refine Eq.mpr wps_aug ?_ | with_reducible refine Eq.mpr wps_par ?_ | with_reducible refine Eq.mpr wps_for ?_ | with_reducible refine Eq.mpr wps_wh ?_ | simp only [wp_tup0, wp_tup1, wp_tup2, wp_tup3, wp_tup4, wp_tup5, wp_tup6, wp_tup7, wp_lst0, wp_lst1, wp_lst2, wp_lst3, wp_lst4, wp_lst5, wp_lst6, wp_lst7, wp_lst8, wp_lst9, wp_lst10, wp_lst11, wp_lst12, wp_bd, wp_lc, ql_nx, ql_ct, ql_bk, ql_rt, iSeq, iEnu, Mir.iRev, chkR, chkT, chkO, lstO, wp_some, wp_ite, wp_none, bd_some, eVar, eC, eOp, eUn, eFn, eMt, aNil, aCons,  eAnd, eOr, eNot, eIf, eIsi, eChain, bTest, bTruth, bAnd, bOr, bNot, bYes, eSl, pNo, pAt, eRinA, eRinB, eDnew, eDin, eDget, eDget2, tgM_name, tgM_tup, tgMs_nil, tgMs_name, tgMs_tup, List.getElem?_cons_succ, List.getElem?_cons_zero, List.set_cons_succ, List.set_cons_zero, List.map_cons, List.map_nil, List.length_cons, List.length_nil, List.replicate, List.nil_append, List.cons_append, if_true, if_false, Bool.false_eq_true, Bool.true_eq_false, Nat.reduceAdd, Nat.reduceSub, Nat.reduceLeDiff, Nat.zero_add, Bool.not_true, Bool.not_false, nc0, nc1, nc2, nc3, not_true_eq_false, not_false_eq_true, ii, addI, subI, negI, int1, eqI, neI, eqS, neS, ix0, ix1, ix2, ix3, decide_eq_true_eq, Bool.not_eq_true', decide_eq_false_iff_not, truB, truN, keyI, keyS, lenT, wipeM]
    have lt := T6.lt
    refine ⟨_, _, rfl, gnew, ?_, by simp [n6], by simp only [List.length_append, List.length_cons, List.length_nil]; omega, ((T6.app _).app _).app _, f6.trans (Mir.Fr.trans (Fr.app) (Mir.Fr.trans (Fr.app) Fr.app))⟩
    intro w hw
    rcases List.mem_append.mp hw with hw | hw
    · exact G6 w hw
    simp only [List.mem_cons, List.not_mem_nil, or_false] at hw
    rcases hw with rfl | rfl | rfl | rfl | rfl
    · exact gd1 (f := "is_number") (by kernel_rfl) (by kernel_rfl) (by decide +kernel) t_num (by simp)
    · exact gd1 (f := "is_number") (by kernel_rfl) (by kernel_rfl) (by decide +kernel) t_num (by simp)
    · exact gd1 (f := "is_integer") (by kernel_rfl) (by kernel_rfl) (by decide +kernel) t_int (by simp; omega)
    · exact gd1 (f := "is_fixed") (by kernel_rfl) (by kernel_rfl) (by decide +kernel) t_fixed (by simp; omega)
    · exact gd1 (f := "is_length") (by kernel_rfl) (by kernel_rfl) (by decide +kernel) t_length (hy2)
  rintro ρ s7 ⟨r, ws, rfl, g7, G7, n7, r7, T7, f7⟩
  rw [wps_cons]
  refine wps_mid (M := fun ρ s' => ∃ (r : Nat) (ws : List W), ρ = [some (.ref 1), some (.int (n : Int)), some (.str z), some (.str o), some (.tup (l.map W.str)), some (.int x), some (.ref r)] ∧ s'[r]? = some (.lst ws) ∧ (∀ w ∈ ws, Gd w) ∧ ws.length = 17 ∧ r ≠ 1 ∧ Tape s' 1 0 ns ∧ Mir.Fr [1] s s') ?_ ?_
  · repeat first | with_reducible refine Eq.mpr wps_cons ?_ | with_reducible refine Eq.mpr wps_pass ?_ | with_reducible refine Eq.mpr wps_nil ?_ | with_reducible refine Eq.mpr wps_set ?_ | with_reducible refine Eq.mpr wps_do ?_ | with_reducible refine Eq.mpr wps_ret ?_ | with_reducible refine Eq.mpr wps_retN ?_ | with_reducible refine Eq.mpr wps_brk ?_ | with_reducible refine Eq.mpr wps_cnt ?_ | with_reducible refine Eq.mpr wps_if ?_ | with_reducible refine Eq.mpr wps_asg ?_ | with_reducible refine wps_asgL ?_ | with_reducible refine Eq.mpr wps_put ?_ | with_reducible refine Eq.mpr wps_dput ?_ | with_reducible refine Eq.mpr wps_aug ?_ | with_reducible refine Eq.mpr wps_par ?_ | with_reducible refine Eq.mpr wps_for ?_ | with_reducible refine Eq.mpr wps_wh ?_ | simp only [wp_tup0, wp_tup1, wp_tup2, wp_tup3, wp_tup4, wp_tup5, wp_tup6, wp_tup7, wp_lst0, wp_lst1, wp_lst2, wp_lst3, wp_lst4, wp_lst5, wp_lst6, wp_lst7, wp_lst8, wp_lst9, wp_lst10, wp_lst11, wp_lst12, wp_bd, wp_lc, ql_nx, ql_ct, ql_bk, ql_rt, iSeq, iEnu, Mir.iRev, chkR, chkT, chkO, lstO, wp_some, wp_ite, wp_none, bd_some, eVar, eC, eOp, eUn, eFn, eMt, aNil, aCons,  eAnd, eOr, eNot, eIf, eIsi, eChain, bTest, bTruth, bAnd, bOr, bNot, bYes, eSl, pNo, pAt, eRinA, eRinB, eDnew, eDin, eDget, eDget2, tgM_name, tgM_tup, tgMs_nil, tgMs_name, tgMs_tup, List.getElem?_cons_succ, List.getElem?_cons_zero, List.set_cons_succ, List.set_cons_zero, List.map_cons, List.map_nil, List.length_cons, List.length_nil, List.replicate, List.nil_append, List.cons_append, if_true, if_false, Bool.false_eq_true, Bool.true_eq_false, Nat.reduceAdd, Nat.reduceSub, Nat.reduceLeDiff, Nat.zero_add, Bool.not_true, Bool.not_false, nc0, nc1, nc2, nc3, not_true_eq_false, not_false_eq_true, ii, addI, subI, negI, int1, eqI, neI, eqS, neS, ix0, ix1, ix2, ix3, decide_eq_true_eq, Bool.not_eq_true', decide_eq_false_iff_not, truB, truN, keyI, keyS, lenT, wipeM, m2]
    refine cat_ok (gapp g7) gnew (by simp [n7]) ?_
    repeat first | with_reducible refine Eq.mpr wps_cons ?_ | with_reducible refine Eq.mpr wps_pass ?_ | with_reducible refine Eq.mpr wps_nil ?_ | with_reducible refine Eq.mpr wps_set ?_ | with_reducible refine Eq.mpr wps_do ?_ | with_reducible refine Eq.mpr wps_ret ?_ | with_reducible refine Eq.mpr wps_retN ?_ | with_reducible refine Eq.mpr wps_brk ?_ | with_reducible refine Eq.mpr wps_cnt ?_ | with_reducible refine Eq.mpr wps_if ?_ | with_reducible refine Eq.mpr wps_asg ?_ | with_reducible refine wps_asgL ?_ | with_reducible refine Eq.mpr wps_put ?_ | with_reducible refine Eq.mpr wps_dput ?_ | with_reducible refine Eq.mpr wps_aug ?_ | with_reducible refine Eq.mpr wps_par ?_ | with_reducible refine Eq.mpr wps_for ?_ | with_reducible refine Eq.mpr wps_wh ?_ | simp only [wp_tup0, wp_tup1, wp_tup2, wp_tup3, wp_tup4, wp_tup5, wp_tup6, wp_tup7, wp_lst0, wp_lst1, wp_lst2, wp_lst3, wp_lst4, wp_lst5, wp_lst6, wp_lst7, wp_lst8, wp_lst9, wp_lst10, wp_lst11, wp_lst12, wp_bd, wp_lc, ql_nx, ql_ct, ql_bk, ql_rt, iSeq, iEnu, Mir.iRev, chkR, chkT, chkO, lstO, wp_some, wp_ite, wp_none, bd_some, eVar, eC, eOp, eUn, eFn, eMt, aNil, aCons,  eAnd, eOr, eNot, eIf, eIsi, eChain, bTest, bTruth, bAnd, bOr, bNot, bYes, eSl, pNo, pAt, eRinA, eRinB, eDnew, eDin, eDget, eDget2, tgM_name, tgM_tup, tgMs_nil, tgMs_name, tgMs_tup, List.getElem?_cons_succ, List.getElem?_cons_zero, List.set_cons_succ, List.set_cons_zero, List.map_cons, List.map_nil, List.length_cons, List.length_nil, List.replicate, List.nil_append, List.cons_append, if_true, if_false, Bool.false_eq_true, Bool.true_eq_false, Nat.reduceAdd, Nat.reduceSub, Nat.reduceLeDiff, Nat.zero_add, Bool.not_true, Bool.not_false, nc0, nc1, nc2, nc3, not_true_eq_false, not_false_eq_true, ii, addI, subI, negI, int1, eqI, neI, eqS, neS, ix0, ix1, ix2, ix3, decide_eq_true_eq, Bool.not_eq_true', decide_eq_false_iff_not, truB, truN, keyI, keyS, lenT, wipeM]
    have lt := T7.lt
    refine ⟨_, _, rfl, gnew, ?_, by simp [n7], by simp only [List.length_append, List.length_cons, List.length_nil]; omega, (T7.app _).app _, f7.trans (Mir.Fr.trans (Fr.app) Fr.app)⟩
    intro w hw
    rcases List.mem_append.mp hw with hw | hw
    · exact G7 w hw
    simp only [List.mem_cons, List.not_mem_nil, or_false] at hw
    rcases hw with rfl | rfl | rfl | rfl | rfl
    · exact gd1 (f := "is_labels") (by kernel_rfl) (by kernel_rfl) (by decide +kernel) (t_labels hl) (by rw [hdn]; simp)
    · exact gd1 (f := "is_string") (by kernel_rfl) (by kernel_rfl) (by decide +kernel) t_str (rfl)
    · exact gd1 (f := "is_string") (by kernel_rfl) (by kernel_rfl) (by decide +kernel) t_str (rfl)
    · exact gd1 (f := "is_truth") (by kernel_rfl) (by kernel_rfl) (by decide +kernel) t_truth (rfl)
    · obtain ⟨i, hi⟩ := ho
      exact gd1 (f := "is_operation") (by kernel_rfl) (by kernel_rfl) (by decide +kernel) (t_op hi) rfl
  rintro ρ s8 ⟨r, ws, rfl, g8, G8, n8, r8, T8, f8⟩
  rw [wps_cons]
  refine wps_mid (M := fun ρ s' => ∃ (r : Nat) (ws : List W), ρ = [some (.ref 1), some (.int (n : Int)), some (.str z), some (.str o), some (.tup (l.map W.str)), some (.int x), some (.ref r)] ∧ s'[r]? = some (.lst ws) ∧ (∀ w ∈ ws, Gd w) ∧ ws.length = 21 ∧ r ≠ 1 ∧ Tape s' 1 0 ns ∧ Mir.Fr [1] s s') ?_ ?_
  · repeat first | with_reducible refine Eq.mpr wps_cons ?_ | with_reducible refine Eq.mpr wps_pass ?_ | with_reducible refine Eq.mpr wps_nil ?_ | with_reducible refine Eq.mpr wps_set ?_ | with_reducible refine Eq.mpr wps_do ?_ | with_reducible refine Eq.mpr wps_ret ?_ | with_reducible refine Eq.mpr wps_retN ?_ | with_reducible refine Eq.mpr wps_brk ?_ | with_reducible refine Eq.mpr wps_cnt ?_ | with_reducible refine Eq.mpr wps_if ?_ | with_reducible refine Eq.mpr wps_asg ?_ | with_reducible refine wps_asgL ?_ | with_reducible refine Eq.mpr wps_put ?_ | with_reducible refine Eq.mpr wps_dput ?_ | with_reducible refine Eq.mpr wps_aug ?_ | with_reducible refine Eq.mpr wps_par ?_ | with_reducible refine Eq.mpr wps_for ?_ | with_reducible refine Eq.mpr wps_wh ?_ | simp only [wp_tup0, wp_tup1, wp_tup2, wp_tup3, wp_tup4, wp_tup5, wp_tup6, wp_tup7, wp_lst0, wp_lst1, wp_lst2, wp_lst3, wp_lst4, wp_lst5, wp_lst6, wp_lst7, wp_lst8, wp_lst9, wp_lst10, wp_lst11, wp_lst12, wp_bd, wp_lc, ql_nx, ql_ct, ql_bk, ql_rt, iSeq, iEnu, Mir.iRev, chkR, chkT, chkO, lstO, wp_some, wp_ite, wp_none, bd_some, eVar, eC, eOp, eUn, eFn, eMt, aNil, aCons,  eAnd, eOr, eNot, eIf, eIsi, eChain, bTest, bTruth, bAnd, bOr, bNot, bYes, eSl, pNo, pAt, eRinA, eRinB, eDnew, eDin, eDget, eDget2, tgM_name, tgM_tup, tgMs_nil, tgMs_name, tgMs_tup, List.getElem?_cons_succ, List.getElem?_cons_zero, List.set_cons_succ, List.set_cons_zero, List.map_cons, List.map_nil, List.length_cons, List.length_nil, List.replicate, List.nil_append, List.cons_append, if_true, if_false, Bool.false_eq_true, Bool.true_eq_false, Nat.reduceAdd, Nat.reduceSub, Nat.reduceLeDiff, Nat.zero_add, Bool.not_true, Bool.not_false, nc0, nc1, nc2, nc3, not_true_eq_false, not_false_eq_true, ii, addI, subI, negI, int1, eqI, neI, eqS, neS, ix0, ix1, ix2, ix3, decide_eq_true_eq, Bool.not_eq_true', decide_eq_false_iff_not, truB, truN, keyI, keyS, lenT, wipeM, m12]
    refine cat_ok (gapp g8) gnew (by simp [n8]) ?_
    repeat first | with_reducible refine Eq.mpr wps_cons ?_ | with_reducible refine Eq.mpr wps_pass ?_ | with_reducible refine Eq.mpr wps_nil ?_ | with_reducible refine Eq.mpr wps_set ?_ | with_reducible refine Eq.mpr wps_do ?_ | with_reducible refine Eq.mpr wps_ret ?_ | with_reducible refine Eq.mpr wps_retN ?_ | with_reducible refine Eq.mpr wps_brk ?_ | with_reducible refine Eq.mpr wps_cnt ?_ | with_reducible refine Eq.mpr wps_if ?_ | with_reducible refine Eq.mpr wps_asg ?_ | with_reducible refine wps_asgL ?_ | with_reducible refine Eq.mpr wps_put ?_ | with_reducible refine Eq.mpr wps_dput ?_ | with_reducible refine Eq.mpr wps_aug ?_ | with_reducible refine Eq.mpr wps_par ?_ | with_reducible refine Eq.mpr wps_for ?_ | with_reducible refine Eq.mpr wps_wh ?_ | simp only [wp_tup0, wp_tup1, wp_tup2, wp_tup3, wp_tup4, wp_tup5, wp_tup6, wp_tup7, wp_lst0, wp_lst1, wp_lst2, wp_lst3, wp_lst4, wp_lst5, wp_lst6, wp_lst7, wp_lst8, wp_lst9, wp_lst10, wp_lst11, wp_lst12, wp_bd, wp_lc, ql_nx, ql_ct, ql_bk, ql_rt, iSeq, iEnu, Mir.iRev, chkR, chkT, chkO, lstO, wp_some, wp_ite, wp_none, bd_some, eVar, eC, eOp, eUn, eFn, eMt, aNil, aCons,  eAnd, eOr, eNot, eIf, eIsi, eChain, bTest, bTruth, bAnd, bOr, bNot, bYes, eSl, pNo, pAt, eRinA, eRinB, eDnew, eDin, eDget, eDget2, tgM_name, tgM_tup, tgMs_nil, tgMs_name, tgMs_tup, List.getElem?_cons_succ, List.getElem?_cons_zero, List.set_cons_succ, List.set_cons_zero, List.map_cons, List.map_nil, List.length_cons, List.length_nil, List.replicate, List.nil_append, List.cons_append, if_true, if_false, Bool.false_eq_true, Bool.true_eq_false, Nat.reduceAdd, Nat.reduceSub, Nat.reduceLeDiff, Nat.zero_add, Bool.not_true, Bool.not_false, nc0, nc1, nc2, nc3, not_true_eq_false, not_false_eq_true, ii, addI, subI, negI, int1, eqI, neI, eqS, neS, ix0, ix1, ix2, ix3, decide_eq_true_eq, Bool.not_eq_true', decide_eq_false_iff_not, truB, truN, keyI, keyS, lenT, wipeM]
    have lt := T8.lt
    refine ⟨_, _, rfl, gnew, ?_, by simp [n8], by simp only [List.length_append, List.length_cons, List.length_nil]; omega, (T8.app _).app _, f8.trans (Mir.Fr.trans (Fr.app) Fr.app)⟩
    intro w hw
    rcases List.mem_append.mp hw with hw | hw
    · exact G8 w hw
    simp only [List.mem_cons, List.not_mem_nil, or_false] at hw
    rcases hw with rfl | rfl | rfl | rfl
    · exact gd2 (f := "is_index") (g := "is_string") (by kernel_rfl) (by kernel_rfl) (by decide +kernel) t_index t_str (by simp; omega)
    · exact gd2 (f := "is_index") (g := "is_string") (by kernel_rfl) (by kernel_rfl) (by decide +kernel) t_index t_str (by simp; omega)
    · exact gd2 (f := "is_index") (g := "is_number") (by kernel_rfl) (by kernel_rfl) (by decide +kernel) t_index t_num (by simp; omega)
    · exact gd2 (f := "is_integer") (g := "is_number") (by kernel_rfl) (by kernel_rfl) (by decide +kernel) t_int t_num (by simp; omega)
  rintro ρ s9 ⟨r, ws, rfl, g9, G9, n9, r9, T9, f9⟩
  rw [wps_cons]
  refine wps_mid (M := fun ρ s' => ∃ (r : Nat) (ws : List W), ρ = [some (.ref 1), some (.int (n : Int)), some (.str z), some (.str o), some (.tup (l.map W.str)), some (.int x), some (.ref r)] ∧ s'[r]? = some (.lst ws) ∧ (∀ w ∈ ws, Gd w) ∧ ws.length = 28 ∧ r ≠ 1 ∧ Tape s' 1 0 ns ∧ Mir.Fr [1] s s') ?_ ?_
  · repeat first | with_reducible refine Eq.mpr wps_cons ?_ | with_reducible refine Eq.mpr wps_pass ?_ | with_reducible refine Eq.mpr wps_nil ?_ | with_reducible refine Eq.mpr wps_set ?_ | with_reducible refine Eq.mpr wps_do ?_ | with_reducible refine Eq.mpr wps_ret ?_ | with_reducible refine Eq.mpr wps_retN ?_ | with_reducible refine Eq.mpr wps_brk ?_ | with_reducible refine Eq.mpr wps_cnt ?_ | with_reducible refine Eq.mpr wps_if ?_ | with_reducible refine Eq.mpr wps_asg ?_ | with_reducible refine wps_asgL ?_ | with_reducible refine Eq.mpr wps_put ?_ | with_reducible refine Eq.mpr wps_dput ?_ | with_reducible refine Eq.mpr wps_aug ?_ | with_reducible refine Eq.mpr wps_par ?_ | with_reducible refine Eq.mpr wps_for ?_ | with_reducible refine Eq.mpr wps_wh ?_ | simp only [wp_tup0, wp_tup1, wp_tup2, wp_tup3, wp_tup4, wp_tup5, wp_tup6, wp_tup7, wp_lst0, wp_lst1, wp_lst2, wp_lst3, wp_lst4, wp_lst5, wp_lst6, wp_lst7, wp_lst8, wp_lst9, wp_lst10, wp_lst11, wp_lst12, wp_bd, wp_lc, ql_nx, ql_ct, ql_bk, ql_rt, iSeq, iEnu, Mir.iRev, chkR, chkT, chkO, lstO, wp_some, wp_ite, wp_none, bd_some, eVar, eC, eOp, eUn, eFn, eMt, aNil, aCons,  eAnd, eOr, eNot, eIf, eIsi, eChain, bTest, bTruth, bAnd, bOr, bNot, bYes, eSl, pNo, pAt, eRinA, eRinB, eDnew, eDin, eDget, eDget2, tgM_name, tgM_tup, tgMs_nil, tgMs_name, tgMs_tup, List.getElem?_cons_succ, List.getElem?_cons_zero, List.set_cons_succ, List.set_cons_zero, List.map_cons, List.map_nil, List.length_cons, List.length_nil, List.replicate, List.nil_append, List.cons_append, if_true, if_false, Bool.false_eq_true, Bool.true_eq_false, Nat.reduceAdd, Nat.reduceSub, Nat.reduceLeDiff, Nat.zero_add, Bool.not_true, Bool.not_false, nc0, nc1, nc2, nc3, not_true_eq_false, not_false_eq_true, ii, addI, subI, negI, int1, eqI, neI, eqS, neS, ix0, ix1, ix2, ix3, decide_eq_true_eq, Bool.not_eq_true', decide_eq_false_iff_not, truB, truN, keyI, keyS, lenT, wipeM]
    refine cat_ok (gapp g9) gnew (by simp [n9]) ?_
    repeat first | with_reducible refine Eq.mpr wps_cons ?_ | with_reducible refine Eq.mpr wps_pass ?_ | with_reducible refine Eq.mpr wps_nil ?_ | with_reducible refine Eq.mpr wps_set ?_ | with_reducible refine Eq.mpr wps_do ?_ | with_reducible refine Eq.mpr wps_ret ?_ | with_reducible refine Eq.mpr wps_retN ?_ | with_reducible refine Eq.mpr wps_brk ?_ | with_reducible refine Eq.mpr wps_cnt ?_ | with_reducible refine Eq.mpr wps_if ?_ | with_reducible refine Eq.mpr wps_asg ?_ | with_reducible refine wps_asgL ?_ | with_reducible refine Eq.mpr wps_put ?_ | with_reducible refine Eq.mpr wps_dput ?_ | with_reducible refine Eq.mpr wps_aug ?_ | with_reducible refine Eq.mpr wps_par ?_ | with_reducible refine Eq.mpr wps_for ?_ | with_reducible refine Eq.mpr wps_wh ?_ | simp only [wp_tup0, wp_tup1, wp_tup2, wp_tup3, wp_tup4, wp_tup5, wp_tup6, wp_tup7, wp_lst0, wp_lst1, wp_lst2, wp_lst3, wp_lst4, wp_lst5, wp_lst6, wp_lst7, wp_lst8, wp_lst9, wp_lst10, wp_lst11, wp_lst12, wp_bd, wp_lc, ql_nx, ql_ct, ql_bk, ql_rt, iSeq, iEnu, Mir.iRev, chkR, chkT, chkO, lstO, wp_some, wp_ite, wp_none, bd_some, eVar, eC, eOp, eUn, eFn, eMt, aNil, aCons,  eAnd, eOr, eNot, eIf, eIsi, eChain, bTest, bTruth, bAnd, bOr, bNot, bYes, eSl, pNo, pAt, eRinA, eRinB, eDnew, eDin, eDget, eDget2, tgM_name, tgM_tup, tgMs_nil, tgMs_name, tgMs_tup, List.getElem?_cons_succ, List.getElem?_cons_zero, List.set_cons_succ, List.set_cons_zero, List.map_cons, List.map_nil, List.length_cons, List.length_nil, List.replicate, List.nil_append, List.cons_append, if_true, if_false, Bool.false_eq_true, Bool.true_eq_false, Nat.reduceAdd, Nat.reduceSub, Nat.reduceLeDiff, Nat.zero_add, Bool.not_true, Bool.not_false, nc0, nc1, nc2, nc3, not_true_eq_false, not_false_eq_true, ii, addI, subI, negI, int1, eqI, neI, eqS, neS, ix0, ix1, ix2, ix3, decide_eq_true_eq, Bool.not_eq_true', decide_eq_false_iff_not, truB, truN, keyI, keyS, lenT, wipeM]
    have lt := T9.lt
    refine ⟨_, _, rfl, gnew, ?_, by simp [n9], by simp only [List.length_append, List.length_cons, List.length_nil]; omega, (T9.app _).app _, f9.trans (Mir.Fr.trans (Fr.app) Fr.app)⟩
    intro w hw
    rcases List.mem_append.mp hw with hw | hw
    · exact G9 w hw
    simp only [List.mem_cons, List.not_mem_nil, or_false] at hw
    rcases hw with rfl | rfl | rfl | rfl | rfl | rfl | rfl
    · exact gd0 (by kernel_rfl) (by kernel_rfl) (by decide +kernel)
    · exact gd0 (by kernel_rfl) (by kernel_rfl) (by decide +kernel)
    · exact gd0 (by kernel_rfl) (by kernel_rfl) (by decide +kernel)
    · exact gd0 (by kernel_rfl) (by kernel_rfl) (by decide +kernel)
    · exact gd0 (by kernel_rfl) (by kernel_rfl) (by decide +kernel)
    · exact gd0 (by kernel_rfl) (by kernel_rfl) (by decide +kernel)
    · exact gd0 (by kernel_rfl) (by kernel_rfl) (by decide +kernel)
  rintro ρ s10 ⟨r, ws, rfl, g10, G10, n10, r10, T10, f10⟩
  have ln : ∀ s : Sto, s[r]? = some (.lst ws) → gLen [.ref r] s = some (.int ((28 : Nat) : Int), s) := fun s g => by rw [lenL g, n10]
  repeat first | with_reducible refine Eq.mpr wps_cons ?_ | with_reducible refine Eq.mpr wps_pass ?_ | with_reducible refine Eq.mpr wps_nil ?_ | with_reducible refine Eq.mpr wps_set ?_ | with_reducible refine Eq.mpr wps_do ?_ | with_reducible refine Eq.mpr wps_ret ?_ | with_reducible refine Eq.mpr wps_retN ?_ | with_reducible refine Eq.mpr wps_brk ?_ | with_reducible refine Eq.mpr wps_cnt ?_ | with_reducible refine Eq.mpr wps_if ?_ | with_reducible refine Eq.mpr wps_asg ?_ | with_reducible refine wps_asgL ?_ | with_reducible refine Eq.mpr wps_put ?_ | with_reducible refine Eq.mpr wps_dput ?_ | with_reducible refine Eq.mpr wps_aug ?_ | with_reducible refine Eq.mpr wps_par ?_ | with_reducible refine Eq.mpr wps_for ?_ | with_reducible refine Eq.mpr wps_wh ?_ | simp only [wp_tup0, wp_tup1, wp_tup2, wp_tup3, wp_tup4, wp_tup5, wp_tup6, wp_tup7, wp_lst0, wp_lst1, wp_lst2, wp_lst3, wp_lst4, wp_lst5, wp_lst6, wp_lst7, wp_lst8, wp_lst9, wp_lst10, wp_lst11, wp_lst12, wp_bd, wp_lc, ql_nx, ql_ct, ql_bk, ql_rt, iSeq, iEnu, Mir.iRev, chkR, chkT, chkO, lstO, wp_some, wp_ite, wp_none, bd_some, eVar, eC, eOp, eUn, eFn, eMt, aNil, aCons,  eAnd, eOr, eNot, eIf, eIsi, eChain, bTest, bTruth, bAnd, bOr, bNot, bYes, eSl, pNo, pAt, eRinA, eRinB, eDnew, eDin, eDget, eDget2, tgM_name, tgM_tup, tgMs_nil, tgMs_name, tgMs_tup, List.getElem?_cons_succ, List.getElem?_cons_zero, List.set_cons_succ, List.set_cons_zero, List.map_cons, List.map_nil, List.length_cons, List.length_nil, List.replicate, List.nil_append, List.cons_append, if_true, if_false, Bool.false_eq_true, Bool.true_eq_false, Nat.reduceAdd, Nat.reduceSub, Nat.reduceLeDiff, Nat.zero_add, Bool.not_true, Bool.not_false, nc0, nc1, nc2, nc3, not_true_eq_false, not_false_eq_true, ii, addI, subI, negI, int1, eqI, neI, eqS, neS, ix0, ix1, ix2, ix3, decide_eq_true_eq, Bool.not_eq_true', decide_eq_false_iff_not, truB, truN, keyI, keyS, lenT, wipeM, ln _ g10]
  refine take_wp T10 28 (by decide) (by decide) fun d s11 hd T11 f11 l11 => ?_
  have g11 := f11.at_ r _ (by simp; omega) g10
  have hx : ws[d]? = some ws[d] := List.getElem?_eq_getElem (by omega)
  repeat first | with_reducible refine Eq.mpr wps_cons ?_ | with_reducible refine Eq.mpr wps_pass ?_ | with_reducible refine Eq.mpr wps_nil ?_ | with_reducible refine Eq.mpr wps_set ?_ | with_reducible refine Eq.mpr wps_do ?_ | with_reducible refine Eq.mpr wps_ret ?_ | with_reducible refine Eq.mpr wps_retN ?_ | with_reducible refine Eq.mpr wps_brk ?_ | with_reducible refine Eq.mpr wps_cnt ?_ | with_reducible refine Eq.mpr wps_if ?_ | with_reducible refine Eq.mpr wps_asg ?_ | with_reducible refine wps_asgL ?_ | with_reducible refine Eq.mpr wps_put ?_ | with_reducible refine Eq.mpr wps_dput ?_ | with_reducible refine Eq.mpr wps_aug ?_ | with_reducible refine Eq.mpr wps_par ?_ | with_reducible refine Eq.mpr wps_for ?_ | with_reducible refine Eq.mpr wps_wh ?_ | simp only [wp_tup0, wp_tup1, wp_tup2, wp_tup3, wp_tup4, wp_tup5, wp_tup6, wp_tup7, wp_lst0, wp_lst1, wp_lst2, wp_lst3, wp_lst4, wp_lst5, wp_lst6, wp_lst7, wp_lst8, wp_lst9, wp_lst10, wp_lst11, wp_lst12, wp_bd, wp_lc, ql_nx, ql_ct, ql_bk, ql_rt, iSeq, iEnu, Mir.iRev, chkR, chkT, chkO, lstO, wp_some, wp_ite, wp_none, bd_some, eVar, eC, eOp, eUn, eFn, eMt, aNil, aCons,  eAnd, eOr, eNot, eIf, eIsi, eChain, bTest, bTruth, bAnd, bOr, bNot, bYes, eSl, pNo, pAt, eRinA, eRinB, eDnew, eDin, eDget, eDget2, tgM_name, tgM_tup, tgMs_nil, tgMs_name, tgMs_tup, List.getElem?_cons_succ, List.getElem?_cons_zero, List.set_cons_succ, List.set_cons_zero, List.map_cons, List.map_nil, List.length_cons, List.length_nil, List.replicate, List.nil_append, List.cons_append, if_true, if_false, Bool.false_eq_true, Bool.true_eq_false, Nat.reduceAdd, Nat.reduceSub, Nat.reduceLeDiff, Nat.zero_add, Bool.not_true, Bool.not_false, nc0, nc1, nc2, nc3, not_true_eq_false, not_false_eq_true, ii, addI, subI, negI, int1, eqI, neI, eqS, neS, ix0, ix1, ix2, ix3, decide_eq_true_eq, Bool.not_eq_true', decide_eq_false_iff_not, truB, truN, keyI, keyS, lenT, wipeM, ixL g11 hx]
  exact h _ _ (G10 _ (List.getElem_mem (by omega))) T11 (f10.trans f11)
end
end K62

set_option Elab.async false
set_option linter.all false
set_option maxRecDepth 100000
namespace K62
open PySem PySem.Spec PyProof.Rows L2 Mir
section
variable {s : Sto} {R : W → Sto → Prop} {ns : List Int}
theorem wrong_ok (T : Tape s 1 0 ns) (h : ∀ row s', Ins row false → Tape s' 1 0 ns → Mir.Fr [1] s s' → R row s') : Wp (FLawWrong [.ref 1] s) R := by
  unfold FLawWrong
  rw [wp_mkF (by rfl)]
  unfold BLawWrong
  rw [take_eq]
  rw [wps_cons]
  refine wps_mid (M := fun ρ s' => ∃ n : Int, ρ = [some (.ref 1), some (.int n), none] ∧ 1 ≤ n ∧ n ≤ 50 ∧ Tape s' 1 0 ns ∧ Mir.Fr [1] s s') ?_ ?_
  · repeat first | with_reducible refine Eq.mpr wps_cons ?_ | with_reducible refine Eq.mpr wps_pass ?_ | with_reducible refine Eq.mpr wps_nil ?_ | with_reducible refine Eq.mpr wps_set ?_ | with_reducible refine Eq.mpr wps_do ?_ | with_reducible refine Eq.mpr wps_ret ?_ | with_reducible refine Eq.mpr wps_retN ?_ | with_reducible refine Eq.mpr wps_brk ?_ | with_reducible refine Eq.mpr wps_cnt ?_ | with_reducible refine Eq.mpr wps_if ?_ | with_reducible refine Eq.mpr wps_asg ?_ | with_reducible refine wps_asgL ?_ | with_reducible refine Eq.mpr wps_put ?_ | with_reducible refine Eq.mpr wps_dput ?_ | with_reducible refine Eq.mpr wps_aug ?_ | with_reducible refine Eq.mpr wps_par ?_ | with_reducible refine Eq.mpr wps_for ?_ | with_reducible refine Eq.mpr wps_wh ?_ | simp only [wp_tup0, wp_tup1, wp_tup2, wp_tup3, wp_tup4, wp_tup5, wp_tup6, wp_tup7, wp_lst0, wp_lst1, wp_lst2, wp_lst3, wp_lst4, wp_lst5, wp_lst6, wp_lst7, wp_lst8, wp_lst9, wp_lst10, wp_lst11, wp_lst12, wp_bd, wp_lc, ql_nx, ql_ct, ql_bk, ql_rt, iSeq, iEnu, Mir.iRev, chkR, chkT, chkO, lstO, wp_some, wp_ite, wp_none, bd_some, eVar, eC, eOp, eUn, eFn, eMt, aNil, aCons,  eAnd, eOr, eNot, eIf, eIsi, eChain, bTest, bTruth, bAnd, bOr, bNot, bYes, eSl, pNo, pAt, eRinA, eRinB, eDnew, eDin, eDget, eDget2, tgM_name, tgM_tup, tgMs_nil, tgMs_name, tgMs_tup, List.getElem?_cons_succ, List.getElem?_cons_zero, List.set_cons_succ, List.set_cons_zero, List.map_cons, List.map_nil, List.length_cons, List.length_nil, List.replicate, List.nil_append, List.cons_append, if_true, if_false, Bool.false_eq_true, Bool.true_eq_false, Nat.reduceAdd, Nat.reduceSub, Nat.reduceLeDiff, Nat.zero_add, Bool.not_true, Bool.not_false, nc0, nc1, nc2, nc3, not_true_eq_false, not_false_eq_true, ii, addI, subI, negI, int1, eqI, neI, eqS, neS, ix0, ix1, ix2, ix3, decide_eq_true_eq, Bool.not_eq_true', decide_eq_false_iff_not, truB, truN, keyI, keyS, lenT, wipeM]
    refine take_wp T 50 (by decide) (by decide) fun d s1 hd T1 f1 l1 => ?_
    repeat first | with_reducible refine Eq.mpr wps_cons ?_ | with_reducible refine Eq.mpr wps_pass ?_ | with_reducible refine Eq.mpr wps_nil ?_ | with_reducible refine Eq.mpr wps_set ?_ | with_reducible refine Eq.mpr wps_do ?_ | with_reducible refine Eq.mpr wps_ret ?_ | with_reducible refine Eq.mpr wps_retN ?_ | with_reducible refine Eq.mpr wps_brk ?_ | with_reducible refine Eq.mpr wps_cnt ?_ | with_reducible refine Eq.mpr wps_if ?_ | with_reducible refine Eq.mpr wps_asg ?_ | with_reducible refine wps_asgL ?_ | with_reducible refine Eq.mpr wps_put ?_ | with_reducible refine Eq.mpr wps_dput ?_ | with_reducible refine Eq.mpr wps_aug ?_ | with_reducible refine Eq.mpr wps_par ?_ | with_reducible refine Eq.mpr wps_for ?_ | with_reducible refine Eq.mpr wps_wh ?_ | simp only [wp_tup0, wp_tup1, wp_tup2, wp_tup3, wp_tup4, wp_tup5, wp_tup6, wp_tup7, wp_lst0, wp_lst1, wp_lst2, wp_lst3, wp_lst4, wp_lst5, wp_lst6, wp_lst7, wp_lst8, wp_lst9, wp_lst10, wp_lst11, wp_lst12, wp_bd, wp_lc, ql_nx, ql_ct, ql_bk, ql_rt, iSeq, iEnu, Mir.iRev, chkR, chkT, chkO, lstO, wp_some, wp_ite, wp_none, bd_some, eVar, eC, eOp, eUn, eFn, eMt, aNil, aCons,  eAnd, eOr, eNot, eIf, eIsi, eChain, bTest, bTruth, bAnd, bOr, bNot, bYes, eSl, pNo, pAt, eRinA, eRinB, eDnew, eDin, eDget, eDget2, tgM_name, tgM_tup, tgMs_nil, tgMs_name, tgMs_tup, List.getElem?_cons_succ, List.getElem?_cons_zero, List.set_cons_succ, List.set_cons_zero, List.map_cons, List.map_nil, List.length_cons, List.length_nil, List.replicate, List.nil_append, List.cons_append, if_true, if_false, Bool.false_eq_true, Bool.true_eq_false, Nat.reduceAdd, Nat.reduceSub, Nat.reduceLeDiff, Nat.zero_add, Bool.not_true, Bool.not_false, nc0, nc1, nc2, nc3, not_true_eq_false, not_false_eq_true, ii, addI, subI, negI, int1, eqI, neI, eqS, neS, ix0, ix1, ix2, ix3, decide_eq_true_eq, Bool.not_eq_true', decide_eq_false_iff_not, truB, truN, keyI, keyS, lenT, wipeM]
    exact ⟨_, rfl, by omega, by omega, T1, f1⟩
  rintro ρ s5 ⟨n, rfl, n1, n2, T5, f5⟩
  have m12 : ∀ s : Sto, gMod (.int n) (.int 12) s = some (.int (n % 12), s) := fun s => modR (by omega)
  rw [wps_cons]
  refine wps_mid (M := fun ρ s' => ∃ (r : Nat) (ws : List W), ρ = [some (.ref 1), some (.int n), some (.ref r)] ∧ s'[r]? = some (.lst ws) ∧ (∀ w ∈ ws, Ins w false) ∧ ws.length = 8 ∧ r ≠ 1 ∧ Tape s' 1 0 ns ∧ Mir.Fr [1] s s') ?_ ?_
  · repeat first | with_reducible refine Eq.mpr wps_cons ?_ | with_reducible refine Eq.mpr wps_pass ?_ | with_reducible refine Eq.mpr wps_nil ?_ | with_reducible refine Eq.mpr wps_set ?_ | with_reducible refine Eq.mpr wps_do ?_ | with_reducible refine Eq.mpr wps_ret ?_ | with_reducible refine Eq.mpr wps_retN ?_ | with_reducible refine Eq.mpr wps_brk ?_ | with_reducible refine Eq.mpr wps_cnt ?_ | with_reducible refine Eq.mpr wps_if ?_ | with_reducible refine Eq.mpr wps_asg ?_ | with_reducible refine wps_asgL ?_ | with_reducible refine Eq.mpr wps_put ?_ | with_reducible refine Eq.mpr wps_dput ?_ | with_reducible refine Eq.mpr wps_aug ?_ | with_reducible refine Eq.mpr wps_par ?_ | with_reducible refine Eq.mpr wps_for ?_ | with_reducible refine Eq.mpr wps_wh ?_ | simp only [wp_tup0, wp_tup1, wp_tup2, wp_tup3, wp_tup4, wp_tup5, wp_tup6, wp_tup7, wp_lst0, wp_lst1, wp_lst2, wp_lst3, wp_lst4, wp_lst5, wp_lst6, wp_lst7, wp_lst8, wp_lst9, wp_lst10, wp_lst11, wp_lst12, wp_bd, wp_lc, ql_nx, ql_ct, ql_bk, ql_rt, iSeq, iEnu, Mir.iRev, chkR, chkT, chkO, lstO, wp_some, wp_ite, wp_none, bd_some, eVar, eC, eOp, eUn, eFn, eMt, aNil, aCons,  eAnd, eOr, eNot, eIf, eIsi, eChain, bTest, bTruth, bAnd, bOr, bNot, bYes, eSl, pNo, pAt, eRinA, eRinB, eDnew, eDin, eDget, eDget2, tgM_name, tgM_tup, tgMs_nil, tgMs_name, tgMs_tup, List.getElem?_cons_succ, List.getElem?_cons_zero, List.set_cons_succ, List.set_cons_zero, List.map_cons, List.map_nil, List.length_cons, List.length_nil, List.replicate, List.nil_append, List.cons_append, if_true, if_false, Bool.false_eq_true, Bool.true_eq_false, Nat.reduceAdd, Nat.reduceSub, Nat.reduceLeDiff, Nat.zero_add, Bool.not_true, Bool.not_false, nc0, nc1, nc2, nc3, not_true_eq_false, not_false_eq_true, ii, addI, subI, negI, int1, eqI, neI, eqS, neS, ix0, ix1, ix2, ix3, decide_eq_true_eq, Bool.not_eq_true', decide_eq_false_iff_not, truB, truN, keyI, keyS, lenT, wipeM]
    have lt := T5.lt
    refine ⟨s5.length, _, rfl, gnew, ?_, rfl, by omega, T5.app _, f5.trans Fr.app⟩
    intro w hw
    simp only [List.mem_cons, List.not_mem_nil, or_false] at hw
    rcases hw with rfl | rfl | rfl | rfl | rfl | rfl | rfl | rfl
    · exact ins1 (by kernel_rfl) t_num (by simp; omega)
    · exact ins1 (by kernel_rfl) t_numS (rfl)
    · exact ins1 (by kernel_rfl) t_numS (rfl)
    · exact insL (fs := [.fn "is_number"]) (by kernel_rfl) (by simp)
    · exact insL (fs := []) (by kernel_rfl) (by simp)
    · exact ins1 (by kernel_rfl) t_length (by decide)
    · exact ins1 (by kernel_rfl) t_length (by simp; omega)
    · exact ins1 (by kernel_rfl) t_fixed (by decide)
  rintro ρ s6 ⟨r, ws, rfl, g6, G6, n6, r6, T6, f6⟩
  rw [wps_cons]
  refine wps_mid (M := fun ρ s' => ∃ (r : Nat) (ws : List W), ρ = [some (.ref 1), some (.int n), some (.ref r)] ∧ s'[r]? = some (.lst ws) ∧ (∀ w ∈ ws, Ins w false) ∧ ws.length = 14 ∧ r ≠ 1 ∧ Tape s' 1 0 ns ∧ Mir.Fr [1] s s') ?_ ?_
  · repeat first | with_reducible refine Eq.mpr wps_cons ?_ | with_reducible refine Eq.mpr wps_pass ?_ | with_reducible refine Eq.mpr wps_nil ?_ | with_reducible refine Eq.mpr wps_set ?_ | with_reducible refine Eq.mpr wps_do ?_ | with_reducible refine Eq.mpr wps_ret ?_ | with_reducible refine Eq.mpr wps_retN ?_ | with_reducible refine Eq.mpr wps_brk ?_ | with_reducible refine Eq.mpr wps_cnt ?_ | with_reducible refine Eq.mpr wps_if ?_ | with_reducible refine Eq.mpr wps_asg ?_ | with_reducible refine wps_asgL ?_ | with_reducible refine Eq.mpr wps_put ?_ | with_reducible refine Eq.mpr wps_dput ?_ | with_reducible refine Eq.mpr wps_aug ?_ | with_reducible refine Eq.mpr wps_par ?_ | with_reducible refine Eq.mpr wps_for ?_ | with_reducible refine Eq.mpr wps_wh ?_ | simp only [wp_tup0, wp_tup1, wp_tup2, wp_tup3, wp_tup4, wp_tup5, wp_tup6, wp_tup7, wp_lst0, wp_lst1, wp_lst2, wp_lst3, wp_lst4, wp_lst5, wp_lst6, wp_lst7, wp_lst8, wp_lst9, wp_lst10, wp_lst11, wp_lst12, wp_bd, wp_lc, ql_nx, ql_ct, ql_bk, ql_rt, iSeq, iEnu, Mir.iRev, chkR, chkT, chkO, lstO, wp_some, wp_ite, wp_none, bd_some, eVar, eC, eOp, eUn, eFn, eMt, aNil, aCons,  eAnd, eOr, eNot, eIf, eIsi, eChain, bTest, bTruth, bAnd, bOr, bNot, bYes, eSl, pNo, pAt, eRinA, eRinB, eDnew, eDin, eDget, eDget2, tgM_name, tgM_tup, tgMs_nil, tgMs_name, tgMs_tup, List.getElem?_cons_succ, List.getElem?_cons_zero, List.set_cons_succ, List.set_cons_zero, List.map_cons, List.map_nil, List.length_cons, List.length_nil, List.replicate, List.nil_append, List.cons_append, if_true, if_false, Bool.false_eq_true, Bool.true_eq_false, Nat.reduceAdd, Nat.reduceSub, Nat.reduceLeDiff, Nat.zero_add, Bool.not_true, Bool.not_false, nc0, nc1, nc2, nc3, not_true_eq_false, not_false_eq_true, ii, addI, subI, negI, int1, eqI, neI, eqS, neS, ix0, ix1, ix2, ix3, decide_eq_true_eq, Bool.not_eq_true', decide_eq_false_iff_not, truB, truN, keyI, keyS, lenT, wipeM]
    refine cat_ok (gapp g6) gnew (by simp [n6]) ?_
    repeat first | with_reducible refine Eq.mpr wps_cons ?_ | with_reducible refine Eq.mpr wps_pass ?_ | with_reducible refine Eq.mpr wps_nil ?_ | with_reducible refine Eq.mpr wps_set ?_ | with_reducible refine Eq.mpr wps_do ?_ | with_reducible refine Eq.mpr wps_ret ?_ | with_reducible refine Eq.mpr wps_retN ?_ | with_reducible refine Eq.mpr wps_brk ?_ | with_reducible refine Eq.mpr wps_cnt ?_ | with_reducible refine Eq.mpr wps_if ?_ | with_reducible refine Eq.mpr wps_asg ?_ | with_reducible refine wps_asgL ?_ | with_reducible refine Eq.mpr wps_put ?_ | with_reducible refine Eq.mpr wps_dput ?_ | with_reducible refine Eq.mpr wps_aug ?_ | with_reducible refine Eq.mpr wps_par ?_ | with_reducible refine Eq.mpr wps_for ?_ | with_reducible refine Eq.mpr wps_wh ?_ | simp only [wp_tup0, wp_tup1, wp_tup2, wp_tup3, wp_tup4, wp_tup5, wp_tup6, wp_tup7, wp_lst0, wp_lst1, wp_lst2, wp_lst3, wp_lst4, wp_lst5, wp_lst6, wp_lst7, wp_lst8, wp_lst9, wp_lst10, wp_lst11, wp_lst12, wp_bd, wp_lc, ql_nx, ql_ct, ql_bk, ql_rt, iSeq, iEnu, Mir.iRev, chkR, chkT, chkO, lstO, wp_some, wp_ite, wp_none, bd_some, eVar, eC, eOp, eUn, eFn, eMt, aNil, aCons,  eAnd, eOr, eNot, eIf, eIsi, eChain, bTest, bTruth, bAnd, bOr, bNot, bYes, eSl, pNo, pAt, eRinA, eRinB, eDnew, eDin, eDget, eDget2, tgM_name, tgM_tup, tgMs_nil, tgMs_name, tgMs_tup, List.getElem?_cons_succ, List.getElem?_cons_zero, List.set_cons_succ, List.set_cons_zero, List.map_cons, List.map_nil, List.length_cons, List.length_nil, List.replicate, List.nil_append, List.cons_append, if_true, if_false, Bool.false_eq_true, Bool.true_eq_false, Nat.reduceAdd, Nat.reduceSub, Nat.reduceLeDiff, Nat.zero_add, Bool.not_true, Bool.not_false, nc0, nc1, nc2, nc3, not_true_eq_false, not_false_eq_true, ii, addI, subI, negI, int1, eqI, neI, eqS, neS, ix0, ix1, ix2, ix3, decide_eq_true_eq, Bool.not_eq_true', decide_eq_false_iff_not, truB, truN, keyI, keyS, lenT, wipeM]
    have lt := T6.lt
    refine ⟨_, _, rfl, gnew, ?_, by simp [n6], by simp only [List.length_append, List.length_cons, List.length_nil]; omega, (T6.app _).app _, f6.trans (Mir.Fr.trans (Fr.app) Fr.app)⟩
    intro w hw
    rcases List.mem_append.mp hw with hw | hw
    · exact G6 w hw
    simp only [List.mem_cons, List.not_mem_nil, or_false] at hw
    rcases hw with rfl | rfl | rfl | rfl | rfl | rfl
    · exact ins1 (by kernel_rfl) (t_labels (l := ["a", "a"]) (by simp)) (by decide +kernel)
    · exact ins1 (by kernel_rfl) (t_labels (l := ["a", "b", "a"]) (by simp)) (by decide +kernel)
    · exact ins1 (by kernel_rfl) t_labelsS (rfl)
    · exact ins1 (by kernel_rfl) t_strI (rfl)
    · exact ins1 (by kernel_rfl) t_strI (rfl)
    · exact ins1 (by kernel_rfl) t_strI (rfl)
  rintro ρ s7 ⟨r, ws, rfl, g7, G7, n7, r7, T7, f7⟩
  rw [wps_cons]
  refine wps_mid (M := fun ρ s' => ∃ (r : Nat) (ws : List W), ρ = [some (.ref 1), some (.int n), some (.ref r)] ∧ s'[r]? = some (.lst ws) ∧ (∀ w ∈ ws, Ins w false) ∧ ws.length = 20 ∧ r ≠ 1 ∧ Tape s' 1 0 ns ∧ Mir.Fr [1] s s') ?_ ?_
  · repeat first | with_reducible refine Eq.mpr wps_cons ?_ | with_reducible refine Eq.mpr wps_pass ?_ | with_reducible refine Eq.mpr wps_nil ?_ | with_reducible refine Eq.mpr wps_set ?_ | with_reducible refine Eq.mpr wps_do ?_ | with_reducible refine Eq.mpr wps_ret ?_ | with_reducible refine Eq.mpr wps_retN ?_ | with_reducible refine Eq.mpr wps_brk ?_ | with_reducible refine Eq.mpr wps_cnt ?_ | with_reducible refine Eq.mpr wps_if ?_ | with_reducible refine Eq.mpr wps_asg ?_ | with_reducible refine wps_asgL ?_ | with_reducible refine Eq.mpr wps_put ?_ | with_reducible refine Eq.mpr wps_dput ?_ | with_reducible refine Eq.mpr wps_aug ?_ | with_reducible refine Eq.mpr wps_par ?_ | with_reducible refine Eq.mpr wps_for ?_ | with_reducible refine Eq.mpr wps_wh ?_ | simp only [wp_tup0, wp_tup1, wp_tup2, wp_tup3, wp_tup4, wp_tup5, wp_tup6, wp_tup7, wp_lst0, wp_lst1, wp_lst2, wp_lst3, wp_lst4, wp_lst5, wp_lst6, wp_lst7, wp_lst8, wp_lst9, wp_lst10, wp_lst11, wp_lst12, wp_bd, wp_lc, ql_nx, ql_ct, ql_bk, ql_rt, iSeq, iEnu, Mir.iRev, chkR, chkT, chkO, lstO, wp_some, wp_ite, wp_none, bd_some, eVar, eC, eOp, eUn, eFn, eMt, aNil, aCons,  eAnd, eOr, eNot, eIf, eIsi, eChain, bTest, bTruth, bAnd, bOr, bNot, bYes, eSl, pNo, pAt, eRinA, eRinB, eDnew, eDin, eDget, eDget2, tgM_name, tgM_tup, tgMs_nil, tgMs_name, tgMs_tup, List.getElem?_cons_succ, List.getElem?_cons_zero, List.set_cons_succ, List.set_cons_zero, List.map_cons, List.map_nil, List.length_cons, List.length_nil, List.replicate, List.nil_append, List.cons_append, if_true, if_false, Bool.false_eq_true, Bool.true_eq_false, Nat.reduceAdd, Nat.reduceSub, Nat.reduceLeDiff, Nat.zero_add, Bool.not_true, Bool.not_false, nc0, nc1, nc2, nc3, not_true_eq_false, not_false_eq_true, ii, addI, subI, negI, int1, eqI, neI, eqS, neS, ix0, ix1, ix2, ix3, decide_eq_true_eq, Bool.not_eq_true', decide_eq_false_iff_not, truB, truN, keyI, keyS, lenT, wipeM]
    refine cat_ok (gapp g7) gnew (by simp [n7]) ?_
    repeat first | with_reducible refine Eq.mpr wps_cons ?_ | with_reducible refine Eq.mpr wps_pass ?_ | with_reducible refine Eq.mpr wps_nil ?_ | with_reducible refine Eq.mpr wps_set ?_ | with_reducible refine Eq.mpr wps_do ?_ | with_reducible refine Eq.mpr wps_ret ?_ | with_reducible refine Eq.mpr wps_retN ?_ | with_reducible refine Eq.mpr wps_brk ?_ | with_reducible refine Eq.mpr wps_cnt ?_ | with_reducible refine Eq.mpr wps_if ?_ | with_reducible refine Eq.mpr wps_asg ?_ | with_reducible refine wps_asgL ?_ | with_reducible refine Eq.mpr wps_put ?_ | with_reducible refine Eq.mpr wps_dput ?_ | with_reducible refine Eq.mpr wps_aug ?_ | with_reducible refine Eq.mpr wps_par ?_ | with_reducible refine Eq.mpr wps_for ?_ | with_reducible refine Eq.mpr wps_wh ?_ | simp only [wp_tup0, wp_tup1, wp_tup2, wp_tup3, wp_tup4, wp_tup5, wp_tup6, wp_tup7, wp_lst0, wp_lst1, wp_lst2, wp_lst3, wp_lst4, wp_lst5, wp_lst6, wp_lst7, wp_lst8, wp_lst9, wp_lst10, wp_lst11, wp_lst12, wp_bd, wp_lc, ql_nx, ql_ct, ql_bk, ql_rt, iSeq, iEnu, Mir.iRev, chkR, chkT, chkO, lstO, wp_some, wp_ite, wp_none, bd_some, eVar, eC, eOp, eUn, eFn, eMt, aNil, aCons,  eAnd, eOr, eNot, eIf, eIsi, eChain, bTest, bTruth, bAnd, bOr, bNot, bYes, eSl, pNo, pAt, eRinA, eRinB, eDnew, eDin, eDget, eDget2, tgM_name, tgM_tup, tgMs_nil, tgMs_name, tgMs_tup, List.getElem?_cons_succ, List.getElem?_cons_zero, List.set_cons_succ, List.set_cons_zero, List.map_cons, List.map_nil, List.length_cons, List.length_nil, List.replicate, List.nil_append, List.cons_append, if_true, if_false, Bool.false_eq_true, Bool.true_eq_false, Nat.reduceAdd, Nat.reduceSub, Nat.reduceLeDiff, Nat.zero_add, Bool.not_true, Bool.not_false, nc0, nc1, nc2, nc3, not_true_eq_false, not_false_eq_true, ii, addI, subI, negI, int1, eqI, neI, eqS, neS, ix0, ix1, ix2, ix3, decide_eq_true_eq, Bool.not_eq_true', decide_eq_false_iff_not, truB, truN, keyI, keyS, lenT, wipeM]
    have lt := T7.lt
    refine ⟨_, _, rfl, gnew, ?_, by simp [n7], by simp only [List.length_append, List.length_cons, List.length_nil]; omega, (T7.app _).app _, f7.trans (Mir.Fr.trans (Fr.app) Fr.app)⟩
    intro w hw
    rcases List.mem_append.mp hw with hw | hw
    · exact G7 w hw
    simp only [List.mem_cons, List.not_mem_nil, or_false] at hw
    rcases hw with rfl | rfl | rfl | rfl | rfl | rfl
    · exact ins1 (by kernel_rfl) t_truthI (rfl)
    · exact ins1 (by kernel_rfl) t_truthS (rfl)
    · exact ins1 (by kernel_rfl) (t_op (o := none) (by kernel_rfl)) (rfl)
    · exact ins1 (by kernel_rfl) t_opI (rfl)
    · exact ins2 (by kernel_rfl) t_index t_str (by decide)
    · exact ins2 (by kernel_rfl) t_index t_str (by decide)
  rintro ρ s8 ⟨r, ws, rfl, g8, G8, n8, r8, T8, f8⟩
  rw [wps_cons]
  refine wps_mid (M := fun ρ s' => ∃ (r : Nat) (ws : List W), ρ = [some (.ref 1), some (.int n), some (.ref r)] ∧ s'[r]? = some (.lst ws) ∧ (∀ w ∈ ws, Ins w false) ∧ ws.length = 25 ∧ r ≠ 1 ∧ Tape s' 1 0 ns ∧ Mir.Fr [1] s s') ?_ ?_
  · repeat first | with_reducible refine Eq.mpr wps_cons ?_ | with_reducible refine Eq.mpr wps_pass ?_ | with_reducible refine Eq.mpr wps_nil ?_ | with_reducible refine Eq.mpr wps_set ?_ | with_reducible refine Eq.mpr wps_do ?_ | with_reducible refine Eq.mpr wps_ret ?_ | with_reducible refine Eq.mpr wps_retN ?_ | with_reducible refine Eq.mpr wps_brk ?_ | with_reducible refine Eq.mpr wps_cnt ?_ | with_reducible refine Eq.mpr wps_if ?_ | with_reducible refine Eq.mpr wps_asg ?_ | with_reducible refine wps_asgL ?_ | with_reducible refine Eq.mpr wps_put ?_ | with_reducible refine Eq.mpr wps_dput ?_ | with_reducible refine Eq.mpr wps_aug ?_ | with_reducible refine Eq.mpr wps_par ?_ | with_reducible refine Eq.mpr wps_for ?_ | with_reducible refine Eq.mpr wps_wh ?_ | simp only [wp_tup0, wp_tup1, wp_tup2, wp_tup3, wp_tup4, wp_tup5, wp_tup6, wp_tup7, wp_lst0, wp_lst1, wp_lst2, wp_lst3, wp_lst4, wp_lst5, wp_lst6, wp_lst7, wp_lst8, wp_lst9, wp_lst10, wp_lst11, wp_lst12, wp_bd, wp_lc, ql_nx, ql_ct, ql_bk, ql_rt, iSeq, iEnu, Mir.iRev, chkR, chkT, chkO, lstO, wp_some, wp_ite, wp_none, bd_some, eVar, eC, eOp, eUn, eFn, eMt, aNil, aCons,  eAnd, eOr, eNot, eIf, eIsi, eChain, bTest, bTruth, bAnd, bOr, bNot, bYes, eSl, pNo, pAt, eRinA, eRinB, eDnew, eDin, eDget, eDget2, tgM_name, tgM_tup, tgMs_nil, tgMs_name, tgMs_tup, List.getElem?_cons_succ, List.getElem?_cons_zero, List.set_cons_succ, List.set_cons_zero, List.map_cons, List.map_nil, List.length_cons, List.length_nil, List.replicate, List.nil_append, List.cons_append, if_true, if_false, Bool.false_eq_true, Bool.true_eq_false, Nat.reduceAdd, Nat.reduceSub, Nat.reduceLeDiff, Nat.zero_add, Bool.not_true, Bool.not_false, nc0, nc1, nc2, nc3, not_true_eq_false, not_false_eq_true, ii, addI, subI, negI, int1, eqI, neI, eqS, neS, ix0, ix1, ix2, ix3, decide_eq_true_eq, Bool.not_eq_true', decide_eq_false_iff_not, truB, truN, keyI, keyS, lenT, wipeM, m12]
    refine cat_ok (gapp g8) gnew (by simp [n8]) ?_
    repeat first | with_reducible refine Eq.mpr wps_cons ?_ | with_reducible refine Eq.mpr wps_pass ?_ | with_reducible refine Eq.mpr wps_nil ?_ | with_reducible refine Eq.mpr wps_set ?_ | with_reducible refine Eq.mpr wps_do ?_ | with_reducible refine Eq.mpr wps_ret ?_ | with_reducible refine Eq.mpr wps_retN ?_ | with_reducible refine Eq.mpr wps_brk ?_ | with_reducible refine Eq.mpr wps_cnt ?_ | with_reducible refine Eq.mpr wps_if ?_ | with_reducible refine Eq.mpr wps_asg ?_ | with_reducible refine wps_asgL ?_ | with_reducible refine Eq.mpr wps_put ?_ | with_reducible refine Eq.mpr wps_dput ?_ | with_reducible refine Eq.mpr wps_aug ?_ | with_reducible refine Eq.mpr wps_par ?_ | with_reducible refine Eq.mpr wps_for ?_ | with_reducible refine Eq.mpr wps_wh ?_ | simp only [wp_tup0, wp_tup1, wp_tup2, wp_tup3, wp_tup4, wp_tup5, wp_tup6, wp_tup7, wp_lst0, wp_lst1, wp_lst2, wp_lst3, wp_lst4, wp_lst5, wp_lst6, wp_lst7, wp_lst8, wp_lst9, wp_lst10, wp_lst11, wp_lst12, wp_bd, wp_lc, ql_nx, ql_ct, ql_bk, ql_rt, iSeq, iEnu, Mir.iRev, chkR, chkT, chkO, lstO, wp_some, wp_ite, wp_none, bd_some, eVar, eC, eOp, eUn, eFn, eMt, aNil, aCons,  eAnd, eOr, eNot, eIf, eIsi, eChain, bTest, bTruth, bAnd, bOr, bNot, bYes, eSl, pNo, pAt, eRinA, eRinB, eDnew, eDin, eDget, eDget2, tgM_name, tgM_tup, tgMs_nil, tgMs_name, tgMs_tup, List.getElem?_cons_succ, List.getElem?_cons_zero, List.set_cons_succ, List.set_cons_zero, List.map_cons, List.map_nil, List.length_cons, List.length_nil, List.replicate, List.nil_append, List.cons_append, if_true, if_false, Bool.false_eq_true, Bool.true_eq_false, Nat.reduceAdd, Nat.reduceSub, Nat.reduceLeDiff, Nat.zero_add, Bool.not_true, Bool.not_false, nc0, nc1, nc2, nc3, not_true_eq_false, not_false_eq_true, ii, addI, subI, negI, int1, eqI, neI, eqS, neS, ix0, ix1, ix2, ix3, decide_eq_true_eq, Bool.not_eq_true', decide_eq_false_iff_not, truB, truN, keyI, keyS, lenT, wipeM]
    have lt := T8.lt
    refine ⟨_, _, rfl, gnew, ?_, by simp [n8], by simp only [List.length_append, List.length_cons, List.length_nil]; omega, (T8.app _).app _, f8.trans (Mir.Fr.trans (Fr.app) Fr.app)⟩
    intro w hw
    rcases List.mem_append.mp hw with hw | hw
    · exact G8 w hw
    simp only [List.mem_cons, List.not_mem_nil, or_false] at hw
    rcases hw with rfl | rfl | rfl | rfl | rfl
    · exact ins2 (by kernel_rfl) t_index t_strI (by simp)
    · exact insL (fs := [.fn "is_index", .fn "is_string"]) (by kernel_rfl) (by simp)
    · exact ins2 (by kernel_rfl) t_index t_num (by simp)
    · exact insL (fs := [.fn "is_index", .fn "is_number"]) (by kernel_rfl) (by simp)
    · exact insL (fs := [.fn "is_integer", .fn "is_number"]) (by kernel_rfl) (by simp)
  rintro ρ s9 ⟨r, ws, rfl, g9, G9, n9, r9, T9, f9⟩
  rw [wps_cons]
  refine wps_mid (M := fun ρ s' => ∃ (r : Nat) (ws : List W), ρ = [some (.ref 1), some (.int n), some (.ref r)] ∧ s'[r]? = some (.lst ws) ∧ (∀ w ∈ ws, Ins w false) ∧ ws.length = 32 ∧ r ≠ 1 ∧ Tape s' 1 0 ns ∧ Mir.Fr [1] s s') ?_ ?_
  · repeat first | with_reducible refine Eq.mpr wps_cons ?_ | with_reducible refine Eq.mpr wps_pass ?_ | with_reducible refine Eq.mpr wps_nil ?_ | with_reducible refine Eq.mpr wps_set ?_ | with_reducible refine Eq.mpr wps_do ?_ | with_reducible refine Eq.mpr wps_ret ?_ | with_reducible refine Eq.mpr wps_retN ?_ | with_reducible refine Eq.mpr wps_brk ?_ | with_reducible refine Eq.mpr wps_cnt ?_ | with_reducible refine Eq.mpr wps_if ?_ | with_reducible refine Eq.mpr wps_asg ?_ | with_reducible refine wps_asgL ?_ | with_reducible refine Eq.mpr wps_put ?_ | with_reducible refine Eq.mpr wps_dput ?_ | with_reducible refine Eq.mpr wps_aug ?_ | with_reducible refine Eq.mpr wps_par ?_ | with_reducible refine Eq.mpr wps_for ?_ | with_reducible refine Eq.mpr wps_wh ?_ | simp only [wp_tup0, wp_tup1, wp_tup2, wp_tup3, wp_tup4, wp_tup5, wp_tup6, wp_tup7, wp_lst0, wp_lst1, wp_lst2, wp_lst3, wp_lst4, wp_lst5, wp_lst6, wp_lst7, wp_lst8, wp_lst9, wp_lst10, wp_lst11, wp_lst12, wp_bd, wp_lc, ql_nx, ql_ct, ql_bk, ql_rt, iSeq, iEnu, Mir.iRev, chkR, chkT, chkO, lstO, wp_some, wp_ite, wp_none, bd_some, eVar, eC, eOp, eUn, eFn, eMt, aNil, aCons,  eAnd, eOr, eNot, eIf, eIsi, eChain, bTest, bTruth, bAnd, bOr, bNot, bYes, eSl, pNo, pAt, eRinA, eRinB, eDnew, eDin, eDget, eDget2, tgM_name, tgM_tup, tgMs_nil, tgMs_name, tgMs_tup, List.getElem?_cons_succ, List.getElem?_cons_zero, List.set_cons_succ, List.set_cons_zero, List.map_cons, List.map_nil, List.length_cons, List.length_nil, List.replicate, List.nil_append, List.cons_append, if_true, if_false, Bool.false_eq_true, Bool.true_eq_false, Nat.reduceAdd, Nat.reduceSub, Nat.reduceLeDiff, Nat.zero_add, Bool.not_true, Bool.not_false, nc0, nc1, nc2, nc3, not_true_eq_false, not_false_eq_true, ii, addI, subI, negI, int1, eqI, neI, eqS, neS, ix0, ix1, ix2, ix3, decide_eq_true_eq, Bool.not_eq_true', decide_eq_false_iff_not, truB, truN, keyI, keyS, lenT, wipeM]
    refine cat_ok (gapp g9) gnew (by simp [n9]) ?_
    repeat first | with_reducible refine Eq.mpr wps_cons ?_ | with_reducible refine Eq.mpr wps_pass ?_ | with_reducible refine Eq.mpr wps_nil ?_ | with_reducible refine Eq.mpr wps_set ?_ | with_reducible refine Eq.mpr wps_do ?_ | with_reducible refine Eq.mpr wps_ret ?_ | with_reducible refine Eq.mpr wps_retN ?_ | with_reducible refine Eq.mpr wps_brk ?_ | with_reducible refine Eq.mpr wps_cnt ?_ | with_reducible refine Eq.mpr wps_if ?_ | with_reducible refine Eq.mpr wps_asg ?_ | with_reducible refine wps_asgL ?_ | with_reducible refine Eq.mpr wps_put ?_ | with_reducible refine Eq.mpr wps_dput ?_ | with_reducible refine Eq.mpr wps_aug ?_ | with_reducible refine Eq.mpr wps_par ?_ | with_reducible refine Eq.mpr wps_for ?_ | with_reducible refine Eq.mpr wps_wh ?_ | simp only [wp_tup0, wp_tup1, wp_tup2, wp_tup3, wp_tup4, wp_tup5, wp_tup6, wp_tup7, wp_lst0, wp_lst1, wp_lst2, wp_lst3, wp_lst4, wp_lst5, wp_lst6, wp_lst7, wp_lst8, wp_lst9, wp_lst10, wp_lst11, wp_lst12, wp_bd, wp_lc, ql_nx, ql_ct, ql_bk, ql_rt, iSeq, iEnu, Mir.iRev, chkR, chkT, chkO, lstO, wp_some, wp_ite, wp_none, bd_some, eVar, eC, eOp, eUn, eFn, eMt, aNil, aCons,  eAnd, eOr, eNot, eIf, eIsi, eChain, bTest, bTruth, bAnd, bOr, bNot, bYes, eSl, pNo, pAt, eRinA, eRinB, eDnew, eDin, eDget, eDget2, tgM_name, tgM_tup, tgMs_nil, tgMs_name, tgMs_tup, List.getElem?_cons_succ, List.getElem?_cons_zero, List.set_cons_succ, List.set_cons_zero, List.map_cons, List.map_nil, List.length_cons, List.length_nil, List.replicate, List.nil_append, List.cons_append, if_true, if_false, Bool.false_eq_true, Bool.true_eq_false, Nat.reduceAdd, Nat.reduceSub, Nat.reduceLeDiff, Nat.zero_add, Bool.not_true, Bool.not_false, nc0, nc1, nc2, nc3, not_true_eq_false, not_false_eq_true, ii, addI, subI, negI, int1, eqI, neI, eqS, neS, ix0, ix1, ix2, ix3, decide_eq_true_eq, Bool.not_eq_true', decide_eq_false_iff_not, truB, truN, keyI, keyS, lenT, wipeM]
    have lt := T9.lt
    refine ⟨_, _, rfl, gnew, ?_, by simp [n9], by simp only [List.length_append, List.length_cons, List.length_nil]; omega, (T9.app _).app _, f9.trans (Mir.Fr.trans (Fr.app) Fr.app)⟩
    intro w hw
    rcases List.mem_append.mp hw with hw | hw
    · exact G9 w hw
    simp only [List.mem_cons, List.not_mem_nil, or_false] at hw
    rcases hw with rfl | rfl | rfl | rfl | rfl | rfl | rfl
    · exact ins2 (by kernel_rfl) t_int t_num (by simp)
    · exact ins1 (by kernel_rfl) t_int (by decide)
    · exact ins1 (by kernel_rfl) t_intS (rfl)
    · exact ins1 (by kernel_rfl) t_intS (rfl)
    · exact insN (by kernel_rfl)
    · exact insE
    · exact insN (by kernel_rfl)
  rintro ρ s10 ⟨r, ws, rfl, g10, G10, n10, r10, T10, f10⟩
  rw [wps_cons]
  refine wps_mid (M := fun ρ s' => ∃ (r : Nat) (ws : List W), ρ = [some (.ref 1), some (.int n), some (.ref r)] ∧ s'[r]? = some (.lst ws) ∧ (∀ w ∈ ws, Ins w false) ∧ ws.length = 39 ∧ r ≠ 1 ∧ Tape s' 1 0 ns ∧ Mir.Fr [1] s s') ?_ ?_
  · repeat first | with_reducible refine Eq.mpr wps_cons ?_ | with_reducible refine Eq.mpr wps_pass ?_ | with_reducible refine Eq.mpr wps_nil ?_ | with_reducible refine Eq.mpr wps_set ?_ | with_reducible refine Eq.mpr wps_do ?_ | with_reducible refine Eq.mpr wps_ret ?_ | with_reducible refine Eq.mpr wps_retN ?_ | with_reducible refine Eq.mpr wps_brk ?_ | with_reducible refine Eq.mpr wps_cnt ?_ | with_reducible refine Eq.mpr wps_if ?_ | with_reducible refine Eq.mpr wps_asg ?_ | with_reducible refine wps_asgL ?_ | with_reducible refine Eq.mpr wps_put ?_ | with_reducible refine Eq.mpr wps_dput ?_ | with_reducible refine Eq.mpr wps_aug ?_ | with_reducible refine Eq.mpr wps_par ?_ | with_reducible refine Eq.mpr wps_for ?_ | with_reducible refine Eq.mpr wps_wh ?_ | simp only [wp_tup0, wp_tup1, wp_tup2, wp_tup3, wp_tup4, wp_tup5, wp_tup6, wp_tup7, wp_lst0, wp_lst1, wp_lst2, wp_lst3, wp_lst4, wp_lst5, wp_lst6, wp_lst7, wp_lst8, wp_lst9, wp_lst10, wp_lst11, wp_lst12, wp_bd, wp_lc, ql_nx, ql_ct, ql_bk, ql_rt, iSeq, iEnu, Mir.iRev, chkR, chkT, chkO, lstO, wp_some, wp_ite, wp_none, bd_some, eVar, eC, eOp, eUn, eFn, eMt, aNil, aCons,  eAnd, eOr, eNot, eIf, eIsi, eChain, bTest, bTruth, bAnd, bOr, bNot, bYes, eSl, pNo, pAt, eRinA, eRinB, eDnew, eDin, eDget, eDget2, tgM_name, tgM_tup, tgMs_nil, tgMs_name, tgMs_tup, List.getElem?_cons_succ, List.getElem?_cons_zero, List.set_cons_succ, List.set_cons_zero, List.map_cons, List.map_nil, List.length_cons, List.length_nil, List.replicate, List.nil_append, List.cons_append, if_true, if_false, Bool.false_eq_true, Bool.true_eq_false, Nat.reduceAdd, Nat.reduceSub, Nat.reduceLeDiff, Nat.zero_add, Bool.not_true, Bool.not_false, nc0, nc1, nc2, nc3, not_true_eq_false, not_false_eq_true, ii, addI, subI, negI, int1, eqI, neI, eqS, neS, ix0, ix1, ix2, ix3, decide_eq_true_eq, Bool.not_eq_true', decide_eq_false_iff_not, truB, truN, keyI, keyS, lenT, wipeM]
    refine cat_ok (gapp g10) gnew (by simp [n10]) ?_
    repeat first | with_reducible refine Eq.mpr wps_cons ?_ | with_reducible refine Eq.mpr wps_pass ?_ | with_reducible refine Eq.mpr wps_nil ?_ | with_reducible refine Eq.mpr wps_set ?_ | with_reducible refine Eq.mpr wps_do ?_ | with_reducible refine Eq.mpr wps_ret ?_ | with_reducible refine Eq.mpr wps_retN ?_ | with_reducible refine Eq.mpr wps_brk ?_ | with_reducible refine Eq.mpr wps_cnt ?_ | with_reducible refine Eq.mpr wps_if ?_ | with_reducible refine Eq.mpr wps_asg ?_ | with_reducible refine wps_asgL ?_ | with_reducible refine Eq.mpr wps_put ?_ | with_reducible refine Eq.mpr wps_dput ?_ | with_reducible refine Eq.mpr wps_aug ?_ | with_reducible refine Eq.mpr wps_par ?_ | with_reducible refine Eq.mpr wps_for ?_ | with_reducible refine Eq.mpr wps_wh ?_ | simp only [wp_tup0, wp_tup1, wp_tup2, wp_tup3, wp_tup4, wp_tup5, wp_tup6, wp_tup7, wp_lst0, wp_lst1, wp_lst2, wp_lst3, wp_lst4, wp_lst5, wp_lst6, wp_lst7, wp_lst8, wp_lst9, wp_lst10, wp_lst11, wp_lst12, wp_bd, wp_lc, ql_nx, ql_ct, ql_bk, ql_rt, iSeq, iEnu, Mir.iRev, chkR, chkT, chkO, lstO, wp_some, wp_ite, wp_none, bd_some, eVar, eC, eOp, eUn, eFn, eMt, aNil, aCons,  eAnd, eOr, eNot, eIf, eIsi, eChain, bTest, bTruth, bAnd, bOr, bNot, bYes, eSl, pNo, pAt, eRinA, eRinB, eDnew, eDin, eDget, eDget2, tgM_name, tgM_tup, tgMs_nil, tgMs_name, tgMs_tup, List.getElem?_cons_succ, List.getElem?_cons_zero, List.set_cons_succ, List.set_cons_zero, List.map_cons, List.map_nil, List.length_cons, List.length_nil, List.replicate, List.nil_append, List.cons_append, if_true, if_false, Bool.false_eq_true, Bool.true_eq_false, Nat.reduceAdd, Nat.reduceSub, Nat.reduceLeDiff, Nat.zero_add, Bool.not_true, Bool.not_false, nc0, nc1, nc2, nc3, not_true_eq_false, not_false_eq_true, ii, addI, subI, negI, int1, eqI, neI, eqS, neS, ix0, ix1, ix2, ix3, decide_eq_true_eq, Bool.not_eq_true', decide_eq_false_iff_not, truB, truN, keyI, keyS, lenT, wipeM]
    have lt := T10.lt
    refine ⟨_, _, rfl, gnew, ?_, by simp [n10], by simp only [List.length_append, List.length_cons, List.length_nil]; omega, (T10.app _).app _, f10.trans (Mir.Fr.trans (Fr.app) Fr.app)⟩
    intro w hw
    rcases List.mem_append.mp hw with hw | hw
    · exact G10 w hw
    simp only [List.mem_cons, List.not_mem_nil, or_false] at hw
    rcases hw with rfl | rfl | rfl | rfl | rfl | rfl | rfl
    · exact ins1 (by kernel_rfl) t_num (by decide)
    · exact ins1 (by kernel_rfl) t_numS (rfl)
    · exact ins1 (by kernel_rfl) t_numS (rfl)
    · exact insL (fs := []) (by kernel_rfl) (by simp)
    · exact ins1 (by kernel_rfl) t_fixed (by decide)
    · exact ins1 (by kernel_rfl) t_length (by simp; omega)
    · exact insL (fs := []) (by kernel_rfl) (by simp)
  rintro ρ s11 ⟨r, ws, rfl, g11, G11, n11, r11, T11, f11⟩
  have ln : ∀ s : Sto, s[r]? = some (.lst ws) → gLen [.ref r] s = some (.int ((39 : Nat) : Int), s) := fun s g => by rw [lenL g, n11]
  repeat first | with_reducible refine Eq.mpr wps_cons ?_ | with_reducible refine Eq.mpr wps_pass ?_ | with_reducible refine Eq.mpr wps_nil ?_ | with_reducible refine Eq.mpr wps_set ?_ | with_reducible refine Eq.mpr wps_do ?_ | with_reducible refine Eq.mpr wps_ret ?_ | with_reducible refine Eq.mpr wps_retN ?_ | with_reducible refine Eq.mpr wps_brk ?_ | with_reducible refine Eq.mpr wps_cnt ?_ | with_reducible refine Eq.mpr wps_if ?_ | with_reducible refine Eq.mpr wps_asg ?_ | with_reducible refine wps_asgL ?_ | with_reducible refine Eq.mpr wps_put ?_ | with_reducible refine Eq.mpr wps_dput ?_ | with_reducible refine Eq.mpr wps_aug ?_ | with_reducible refine Eq.mpr wps_par ?_ | with_reducible refine Eq.mpr wps_for ?_ | with_reducible refine Eq.mpr wps_wh ?_ | simp only [wp_tup0, wp_tup1, wp_tup2, wp_tup3, wp_tup4, wp_tup5, wp_tup6, wp_tup7, wp_lst0, wp_lst1, wp_lst2, wp_lst3, wp_lst4, wp_lst5, wp_lst6, wp_lst7, wp_lst8, wp_lst9, wp_lst10, wp_lst11, wp_lst12, wp_bd, wp_lc, ql_nx, ql_ct, ql_bk, ql_rt, iSeq, iEnu, Mir.iRev, chkR, chkT, chkO, lstO, wp_some, wp_ite, wp_none, bd_some, eVar, eC, eOp, eUn, eFn, eMt, aNil, aCons,  eAnd, eOr, eNot, eIf, eIsi, eChain, bTest, bTruth, bAnd, bOr, bNot, bYes, eSl, pNo, pAt, eRinA, eRinB, eDnew, eDin, eDget, eDget2, tgM_name, tgM_tup, tgMs_nil, tgMs_name, tgMs_tup, List.getElem?_cons_succ, List.getElem?_cons_zero, List.set_cons_succ, List.set_cons_zero, List.map_cons, List.map_nil, List.length_cons, List.length_nil, List.replicate, List.nil_append, List.cons_append, if_true, if_false, Bool.false_eq_true, Bool.true_eq_false, Nat.reduceAdd, Nat.reduceSub, Nat.reduceLeDiff, Nat.zero_add, Bool.not_true, Bool.not_false, nc0, nc1, nc2, nc3, not_true_eq_false, not_false_eq_true, ii, addI, subI, negI, int1, eqI, neI, eqS, neS, ix0, ix1, ix2, ix3, decide_eq_true_eq, Bool.not_eq_true', decide_eq_false_iff_not, truB, truN, keyI, keyS, lenT, wipeM, ln _ g11]
  refine take_wp T11 39 (by decide) (by decide) fun d s12 hd T12 f12 l12 => ?_
  have g12 := f12.at_ r _ (by simp; omega) g11
  have hx : ws[d]? = some ws[d] := List.getElem?_eq_getElem (by omega)
  repeat first | with_reducible refine Eq.mpr wps_cons ?_ | with_reducible refine Eq.mpr wps_pass ?_ | with_reducible refine Eq.mpr wps_nil ?_ | with_reducible refine Eq.mpr wps_set ?_ | with_reducible refine Eq.mpr wps_do ?_ | with_reducible refine Eq.mpr wps_ret ?_ | with_reducible refine Eq.mpr wps_retN ?_ | with_reducible refine Eq.mpr wps_brk ?_ | with_reducible refine Eq.mpr wps_cnt ?_ | with_reducible refine Eq.mpr wps_if ?_ | with_reducible refine Eq.mpr wps_asg ?_ | with_reducible refine wps_asgL ?_ | with_reducible refine Eq.mpr wps_put ?_ | with_reducible refine Eq.mpr wps_dput ?_ | with_reducible refine Eq.mpr wps_aug ?_ | with_reducible refine Eq.mpr wps_par ?_ | with_reducible refine Eq.mpr wps_for ?_ | with_reducible refine Eq.mpr wps_wh ?_ | simp only [wp_tup0, wp_tup1, wp_tup2, wp_tup3, wp_tup4, wp_tup5, wp_tup6, wp_tup7, wp_lst0, wp_lst1, wp_lst2, wp_lst3, wp_lst4, wp_lst5, wp_lst6, wp_lst7, wp_lst8, wp_lst9, wp_lst10, wp_lst11, wp_lst12, wp_bd, wp_lc, ql_nx, ql_ct, ql_bk, ql_rt, iSeq, iEnu, Mir.iRev, chkR, chkT, chkO, lstO, wp_some, wp_ite, wp_none, bd_some, eVar, eC, eOp, eUn, eFn, eMt, aNil, aCons,  eAnd, eOr, eNot, eIf, eIsi, eChain, bTest, bTruth, bAnd, bOr, bNot, bYes, eSl, pNo, pAt, eRinA, eRinB, eDnew, eDin, eDget, eDget2, tgM_name, tgM_tup, tgMs_nil, tgMs_name, tgMs_tup, List.getElem?_cons_succ, List.getElem?_cons_zero, List.set_cons_succ, List.set_cons_zero, List.map_cons, List.map_nil, List.length_cons, List.length_nil, List.replicate, List.nil_append, List.cons_append, if_true, if_false, Bool.false_eq_true, Bool.true_eq_false, Nat.reduceAdd, Nat.reduceSub, Nat.reduceLeDiff, Nat.zero_add, Bool.not_true, Bool.not_false, nc0, nc1, nc2, nc3, not_true_eq_false, not_false_eq_true, ii, addI, subI, negI, int1, eqI, neI, eqS, neS, ix0, ix1, ix2, ix3, decide_eq_true_eq, Bool.not_eq_true', decide_eq_false_iff_not, truB, truN, keyI, keyS, lenT, wipeM, ixL g12 hx]
  exact h _ _ (G11 _ (List.getElem_mem (by omega))) T12 (f11.trans f12)
end
end K62

set_option Elab.async false
set_option linter.all false
set_option maxRecDepth 100000
namespace K62
open PySem PySem.Spec PyProof.Rows L2 Mir
theorem isnB {a b : Bool} {s : Sto} : gIsNot (.bl a) (.bl b) s = some (.bl (!decide (a = b)), s) := rfl
theorem opd_ok {z : Str} {o : Option W} {s : Sto} {R : W → Sto → Prop} (hb : tl T_OPERAND_COUNTS z = some o) (h : R (o.getD (.int 0)) s) : Wp (FOperands [.str z] s) R := by
  unfold FOperands
  rw [wp_mkF (by rfl)]
  unfold BOperands
  cases o with
  | none =>
    repeat first | with_reducible refine Eq.mpr wps_cons ?_ | with_reducible refine Eq.mpr wps_pass ?_ | with_reducible refine Eq.mpr wps_nil ?_ | with_reducible refine Eq.mpr wps_set ?_ | with_reducible refine Eq.mpr wps_do ?_ | with_reducible refine Eq.mpr wps_ret ?_ | with_reducible refine Eq.mpr wps_retN ?_ | with_reducible refine Eq.mpr wps_brk ?_ | with_reducible refine Eq.mpr wps_cnt ?_ | with_reducible refine Eq.mpr wps_if ?_ | with_reducible refine Eq.mpr wps_asg ?_ | with_reducible refine wps_asgL ?_ | with_reducible refine Eq.mpr wps_put ?_ | with_reducible refine Eq.mpr wps_dput ?_ | with_reducible refine Eq.mpr wps_aug ?_ | with_reducible refine Eq.mpr wps_par ?_ | with_reducible refine Eq.mpr wps_for ?_ | with_reducible refine Eq.mpr wps_wh ?_ | with_reducible refine wh_go ?_ | with_reducible refine fo_goN ?_ | with_reducible refine fo_goC ?_ | simp only [wp_tup0, wp_tup1, wp_tup2, wp_tup3, wp_tup4, wp_tup5, wp_tup6, wp_tup7, wp_lst0, wp_lst1, wp_lst2, wp_lst3, wp_lst4, wp_lst5, wp_lst6, wp_lst7, wp_lst8, wp_lst9, wp_lst10, wp_lst11, wp_lst12, wp_bd, wp_lc, ql_nx, ql_ct, ql_bk, ql_rt, iSeq, iEnu, Mir.iRev, chkR, chkT, chkO, lstO, wp_some, wp_ite, wp_none, bd_some, eVar, eC, eOp, eUn, eFn, eMt, aNil, aCons,  eAnd, eOr, eNot, eIf, eIsi, eChain, bTest, bTruth, bAnd, bOr, bNot, bYes, eSl, pNo, pAt, eRinA, eRinB, eDnew, eDin, eDget, eDget2, tgM_name, tgM_tup, tgMs_nil, tgMs_name, tgMs_tup, List.getElem?_cons_succ, List.getElem?_cons_zero, List.set_cons_succ, List.set_cons_zero, List.map_cons, List.map_nil, List.length_cons, List.length_nil, List.replicate, List.nil_append, List.cons_append, if_true, if_false, Bool.false_eq_true, Bool.true_eq_false, Nat.reduceAdd, Nat.reduceSub, Nat.reduceLeDiff, Nat.zero_add, Bool.not_true, Bool.not_false, nc0, nc1, nc2, nc3, not_true_eq_false, not_false_eq_true, ii, addI, subI, negI, int1, eqI, neI, eqS, neS, ix0, ix1, ix2, ix3, decide_eq_true_eq, Bool.not_eq_true', decide_eq_false_iff_not, truB, truN, keyI, keyS, lenT, wipeM, qw_nx, qw_ct, qw_bk, qw_rt, qf_nx, qf_ct, qf_bk, qf_rt, okN, lcf_goN, lcf_goC, lcf_goT, slT1, slT2, List.drop_succ_cons, List.drop_zero, List.take_succ_cons, List.take_zero, true_and, and_true, ofString_inj, String.reduceEq, decide_true, decide_false, Bool.or_self, Bool.or_true, Bool.true_or, Bool.or_false, Bool.false_or, Bool.and_self, Bool.and_true, Bool.true_and, Bool.and_false, Bool.false_and, isN, isnN, Mir.isNon, truB, eCget2, hb]
    exact h
  | some w =>
    repeat first | with_reducible refine Eq.mpr wps_cons ?_ | with_reducible refine Eq.mpr wps_pass ?_ | with_reducible refine Eq.mpr wps_nil ?_ | with_reducible refine Eq.mpr wps_set ?_ | with_reducible refine Eq.mpr wps_do ?_ | with_reducible refine Eq.mpr wps_ret ?_ | with_reducible refine Eq.mpr wps_retN ?_ | with_reducible refine Eq.mpr wps_brk ?_ | with_reducible refine Eq.mpr wps_cnt ?_ | with_reducible refine Eq.mpr wps_if ?_ | with_reducible refine Eq.mpr wps_asg ?_ | with_reducible refine wps_asgL ?_ | with_reducible refine Eq.mpr wps_put ?_ | with_reducible refine Eq.mpr wps_dput ?_ | with_reducible refine Eq.mpr wps_aug ?_ | with_reducible refine Eq.mpr wps_par ?_ | with_reducible refine Eq.mpr wps_for ?_ | with_reducible refine Eq.mpr wps_wh ?_ | with_reducible refine wh_go ?_ | with_reducible refine fo_goN ?_ | with_reducible refine fo_goC ?_ | simp only [wp_tup0, wp_tup1, wp_tup2, wp_tup3, wp_tup4, wp_tup5, wp_tup6, wp_tup7, wp_lst0, wp_lst1, wp_lst2, wp_lst3, wp_lst4, wp_lst5, wp_lst6, wp_lst7, wp_lst8, wp_lst9, wp_lst10, wp_lst11, wp_lst12, wp_bd, wp_lc, ql_nx, ql_ct, ql_bk, ql_rt, iSeq, iEnu, Mir.iRev, chkR, chkT, chkO, lstO, wp_some, wp_ite, wp_none, bd_some, eVar, eC, eOp, eUn, eFn, eMt, aNil, aCons,  eAnd, eOr, eNot, eIf, eIsi, eChain, bTest, bTruth, bAnd, bOr, bNot, bYes, eSl, pNo, pAt, eRinA, eRinB, eDnew, eDin, eDget, eDget2, tgM_name, tgM_tup, tgMs_nil, tgMs_name, tgMs_tup, List.getElem?_cons_succ, List.getElem?_cons_zero, List.set_cons_succ, List.set_cons_zero, List.map_cons, List.map_nil, List.length_cons, List.length_nil, List.replicate, List.nil_append, List.cons_append, if_true, if_false, Bool.false_eq_true, Bool.true_eq_false, Nat.reduceAdd, Nat.reduceSub, Nat.reduceLeDiff, Nat.zero_add, Bool.not_true, Bool.not_false, nc0, nc1, nc2, nc3, not_true_eq_false, not_false_eq_true, ii, addI, subI, negI, int1, eqI, neI, eqS, neS, ix0, ix1, ix2, ix3, decide_eq_true_eq, Bool.not_eq_true', decide_eq_false_iff_not, truB, truN, keyI, keyS, lenT, wipeM, qw_nx, qw_ct, qw_bk, qw_rt, qf_nx, qf_ct, qf_bk, qf_rt, okN, lcf_goN, lcf_goC, lcf_goT, slT1, slT2, List.drop_succ_cons, List.drop_zero, List.take_succ_cons, List.take_zero, true_and, and_true, ofString_inj, String.reduceEq, decide_true, decide_false, Bool.or_self, Bool.or_true, Bool.true_or, Bool.or_false, Bool.false_or, Bool.and_self, Bool.and_true, Bool.true_and, Bool.and_false, Bool.false_and, isN, isnN, Mir.isNon, truB, eCget2, hb]
    exact h
theorem opd_eq {z : Str} {o : Option W} {s : Sto} (hb : tl T_OPERAND_COUNTS z = some o) : FOperands [.str z] s = some (o.getD (.int 0), s) := by
  obtain ⟨w, s', e, rfl, rfl⟩ := opd_ok (R := fun w s' => w = o.getD (.int 0) ∧ s' = s) hb ⟨rfl, rfl⟩
  exact e
theorem inL {a : Str} {l : List Str} {s : Sto} : gIn (.str a) (.tup (l.map W.str)) s = some (.bl (l.any fun y => decide (a = y)), s) := by
  have f1 : flatW (.str a) = true := rfl
  have f2 : ∀ l : List Str, (l.map W.str).all flatW = true := by
    intro l
    induction l with
    | nil => rfl
    | cons x r ih => simp [flatW, ih]
  have f3 : ∀ l : List Str, inW (.str a) (l.map W.str) = l.any fun y => decide (a = y) := by
    intro l
    rw [inW, List.any_map]
    congr 1
    funext y
    simp only [Function.comp, eqF]
    by_cases c : a = y
    · subst c; simp
    · have : y ≠ a := fun h => c h.symm
      simp [c, this]
  simp only [gIn, insW, seqOf, f1, f2, f3, and_self, if_true]
/-- how many operands, and the names that are none -/
def Opn (o : Str) : Prop := ∃ k : Int, tl T_OPERAND_COUNTS o = some (some (.int k)) ∧ tl T_OPERAND_COUNTS (o ++ ("s" : Str)) = some none ∧ o.length ≤ 50 ∧ k = (if (["neg", "ref", "fetch", "print"] : List Str).any (fun y => decide (o = y)) = true then 1 else 2)
theorem ops_at2 {d : Nat} (h : d < 13) : ∃ o : Str, ([.str "add", .str "sub", .str "mul", .str "div", .str "mod", .str "neg", .str "less", .str "leq", .str "equal", .str "ref", .str "fetch", .str "assign", .str "print"] : List W)[d]? = some (.str o) ∧ Opn o := by
  have hd : d = 0 ∨ d = 1 ∨ d = 2 ∨ d = 3 ∨ d = 4 ∨ d = 5 ∨ d = 6 ∨ d = 7 ∨ d = 8 ∨ d = 9 ∨ d = 10 ∨ d = 11 ∨ d = 12 := by omega
  rcases hd with rfl | rfl | rfl | rfl | rfl | rfl | rfl | rfl | rfl | rfl | rfl | rfl | rfl
  all_goals first | exact ⟨_, rfl, 2, by kernel_rfl, by kernel_rfl, by decide +kernel, by decide +kernel⟩ | exact ⟨_, rfl, 1, by kernel_rfl, by kernel_rfl, by decide +kernel, by decide +kernel⟩
theorem pure_law : ∀ ns : List Int, ns.length ≤ 63 → ∃ s, FLaw [.lro (ns.map W.int)] [] = some (.bl true, s) := by
  intro ns _
  suffices h : Wp (FLaw [.lro (ns.map W.int)] []) (fun w _ => w = .bl true) by
    obtain ⟨w, s, e, rfl⟩ := h
    exact ⟨s, e⟩
  unfold FLaw
  rw [wp_mkF (by rfl)]
  unfold BLaw
  rw [tape_eq, take_eq]
  rw [wps_cons]
  first | with_reducible refine Eq.mpr wps_cons ?_ | with_reducible refine Eq.mpr wps_pass ?_ | with_reducible refine Eq.mpr wps_nil ?_ | with_reducible refine Eq.mpr wps_set ?_ | with_reducible refine Eq.mpr wps_do ?_ | with_reducible refine Eq.mpr wps_ret ?_ | with_reducible refine Eq.mpr wps_retN ?_ | with_reducible refine Eq.mpr wps_brk ?_ | with_reducible refine Eq.mpr wps_cnt ?_ | with_reducible refine Eq.mpr wps_if ?_ | with_reducible refine Eq.mpr wps_asg ?_ | with_reducible refine wps_asgL ?_ | with_reducible refine Eq.mpr wps_put ?_ | with_reducible refine Eq.mpr wps_dput ?_ | with_reducible refine Eq.mpr wps_aug ?_ | with_reducible refine Eq.mpr wps_par ?_ | with_reducible refine Eq.mpr wps_for ?_ | with_reducible refine Eq.mpr wps_wh ?_
  simp only [wp_tup0, wp_tup1, wp_tup2, wp_tup3, wp_tup4, wp_tup5, wp_tup6, wp_tup7, wp_lst0, wp_lst1, wp_lst2, wp_lst3, wp_lst4, wp_lst5, wp_lst6, wp_lst7, wp_lst8, wp_lst9, wp_lst10, wp_lst11, wp_lst12, wp_bd, wp_lc, ql_nx, ql_ct, ql_bk, ql_rt, iSeq, iEnu, Mir.iRev, chkR, chkT, chkO, lstO, wp_some, wp_ite, wp_none, bd_some, eVar, eC, eOp, eUn, eFn, eMt, aNil, aCons,  eAnd, eOr, eNot, eIf, eIsi, eChain, bTest, bTruth, bAnd, bOr, bNot, bYes, eSl, pNo, pAt, eRinA, eRinB, eDnew, eDin, eDget, eDget2, tgM_name, tgM_tup, tgMs_nil, tgMs_name, tgMs_tup, List.getElem?_cons_succ, List.getElem?_cons_zero, List.set_cons_succ, List.set_cons_zero, List.map_cons, List.map_nil, List.length_cons, List.length_nil, List.replicate, List.nil_append, List.cons_append, if_true, if_false, Bool.false_eq_true, Bool.true_eq_false, Nat.reduceAdd, Nat.reduceSub, Nat.reduceLeDiff, Nat.zero_add, Bool.not_true, Bool.not_false, nc0, nc1, nc2, nc3, not_true_eq_false, not_false_eq_true, ii, addI, subI, negI, int1, eqI, neI, eqS, neS, ix0, ix1, ix2, ix3, decide_eq_true_eq, Bool.not_eq_true', decide_eq_false_iff_not, truB, truN, keyI, keyS, lenT, wipeM, tape_ok]
  have T := tape_T ns
  generalize ([.lst (ns.map W.int), .lst [.ref 0, .int 0, .int 0, .int 1, .int 0]] : Sto) = s0 at T ⊢
  repeat first | with_reducible refine Eq.mpr wps_cons ?_ | with_reducible refine Eq.mpr wps_pass ?_ | with_reducible refine Eq.mpr wps_nil ?_ | with_reducible refine Eq.mpr wps_set ?_ | with_reducible refine Eq.mpr wps_do ?_ | with_reducible refine Eq.mpr wps_ret ?_ | with_reducible refine Eq.mpr wps_retN ?_ | with_reducible refine Eq.mpr wps_brk ?_ | with_reducible refine Eq.mpr wps_cnt ?_ | with_reducible refine Eq.mpr wps_if ?_ | with_reducible refine Eq.mpr wps_asg ?_ | with_reducible refine wps_asgL ?_ | with_reducible refine Eq.mpr wps_put ?_ | with_reducible refine Eq.mpr wps_dput ?_ | with_reducible refine Eq.mpr wps_aug ?_ | with_reducible refine Eq.mpr wps_par ?_ | with_reducible refine Eq.mpr wps_for ?_ | with_reducible refine Eq.mpr wps_wh ?_ | simp only [wp_tup0, wp_tup1, wp_tup2, wp_tup3, wp_tup4, wp_tup5, wp_tup6, wp_tup7, wp_lst0, wp_lst1, wp_lst2, wp_lst3, wp_lst4, wp_lst5, wp_lst6, wp_lst7, wp_lst8, wp_lst9, wp_lst10, wp_lst11, wp_lst12, wp_bd, wp_lc, ql_nx, ql_ct, ql_bk, ql_rt, iSeq, iEnu, Mir.iRev, chkR, chkT, chkO, lstO, wp_some, wp_ite, wp_none, bd_some, eVar, eC, eOp, eUn, eFn, eMt, aNil, aCons,  eAnd, eOr, eNot, eIf, eIsi, eChain, bTest, bTruth, bAnd, bOr, bNot, bYes, eSl, pNo, pAt, eRinA, eRinB, eDnew, eDin, eDget, eDget2, tgM_name, tgM_tup, tgMs_nil, tgMs_name, tgMs_tup, List.getElem?_cons_succ, List.getElem?_cons_zero, List.set_cons_succ, List.set_cons_zero, List.map_cons, List.map_nil, List.length_cons, List.length_nil, List.replicate, List.nil_append, List.cons_append, if_true, if_false, Bool.false_eq_true, Bool.true_eq_false, Nat.reduceAdd, Nat.reduceSub, Nat.reduceLeDiff, Nat.zero_add, Bool.not_true, Bool.not_false, nc0, nc1, nc2, nc3, not_true_eq_false, not_false_eq_true, ii, addI, subI, negI, int1, eqI, neI, eqS, neS, ix0, ix1, ix2, ix3, decide_eq_true_eq, Bool.not_eq_true', decide_eq_false_iff_not, truB, truN, keyI, keyS, lenT, wipeM]
  refine instruction_ok T fun row s1 G T1 f1 => ?_
  obtain ⟨tag, ps, fs, rfl, h1, h2, h3, h4, h5, h6⟩ := G
  repeat first | with_reducible refine Eq.mpr wps_cons ?_ | with_reducible refine Eq.mpr wps_pass ?_ | with_reducible refine Eq.mpr wps_nil ?_ | with_reducible refine Eq.mpr wps_set ?_ | with_reducible refine Eq.mpr wps_do ?_ | with_reducible refine Eq.mpr wps_ret ?_ | with_reducible refine Eq.mpr wps_retN ?_ | with_reducible refine Eq.mpr wps_brk ?_ | with_reducible refine Eq.mpr wps_cnt ?_ | with_reducible refine Eq.mpr wps_if ?_ | with_reducible refine Eq.mpr wps_asg ?_ | with_reducible refine wps_asgL ?_ | with_reducible refine Eq.mpr wps_put ?_ | with_reducible refine Eq.mpr wps_dput ?_ | with_reducible refine Eq.mpr wps_aug ?_ | with_reducible refine Eq.mpr wps_par ?_ | with_reducible refine Eq.mpr wps_for ?_ | with_reducible refine Eq.mpr wps_wh ?_ | simp only [wp_tup0, wp_tup1, wp_tup2, wp_tup3, wp_tup4, wp_tup5, wp_tup6, wp_tup7, wp_lst0, wp_lst1, wp_lst2, wp_lst3, wp_lst4, wp_lst5, wp_lst6, wp_lst7, wp_lst8, wp_lst9, wp_lst10, wp_lst11, wp_lst12, wp_bd, wp_lc, ql_nx, ql_ct, ql_bk, ql_rt, iSeq, iEnu, Mir.iRev, chkR, chkT, chkO, lstO, wp_some, wp_ite, wp_none, bd_some, eVar, eC, eOp, eUn, eFn, eMt, aNil, aCons,  eAnd, eOr, eNot, eIf, eIsi, eChain, bTest, bTruth, bAnd, bOr, bNot, bYes, eSl, pNo, pAt, eRinA, eRinB, eDnew, eDin, eDget, eDget2, tgM_name, tgM_tup, tgMs_nil, tgMs_name, tgMs_tup, List.getElem?_cons_succ, List.getElem?_cons_zero, List.set_cons_succ, List.set_cons_zero, List.map_cons, List.map_nil, List.length_cons, List.length_nil, List.replicate, List.nil_append, List.cons_append, if_true, if_false, Bool.false_eq_true, Bool.true_eq_false, Nat.reduceAdd, Nat.reduceSub, Nat.reduceLeDiff, Nat.zero_add, Bool.not_true, Bool.not_false, nc0, nc1, nc2, nc3, not_true_eq_false, not_false_eq_true, ii, addI, subI, negI, int1, eqI, neI, eqS, neS, ix0, ix1, ix2, ix3, decide_eq_true_eq, Bool.not_eq_true', decide_eq_false_iff_not, truB, truN, keyI, keyS, lenT, wipeM]
  refine h6 _ _ fun s2 f2 => ?_
  have T2 := T1.fr f2 (by simp) (by simp)
  repeat first | with_reducible refine Eq.mpr wps_cons ?_ | with_reducible refine Eq.mpr wps_pass ?_ | with_reducible refine Eq.mpr wps_nil ?_ | with_reducible refine Eq.mpr wps_set ?_ | with_reducible refine Eq.mpr wps_do ?_ | with_reducible refine Eq.mpr wps_ret ?_ | with_reducible refine Eq.mpr wps_retN ?_ | with_reducible refine Eq.mpr wps_brk ?_ | with_reducible refine Eq.mpr wps_cnt ?_ | with_reducible refine Eq.mpr wps_if ?_ | with_reducible refine Eq.mpr wps_asg ?_ | with_reducible refine wps_asgL ?_ | with_reducible refine Eq.mpr wps_put ?_ | with_reducible refine Eq.mpr wps_dput ?_ | with_reducible refine Eq.mpr wps_aug ?_ | with_reducible refine Eq.mpr wps_par ?_ | with_reducible refine Eq.mpr wps_for ?_ | with_reducible refine Eq.mpr wps_wh ?_ | simp only [wp_tup0, wp_tup1, wp_tup2, wp_tup3, wp_tup4, wp_tup5, wp_tup6, wp_tup7, wp_lst0, wp_lst1, wp_lst2, wp_lst3, wp_lst4, wp_lst5, wp_lst6, wp_lst7, wp_lst8, wp_lst9, wp_lst10, wp_lst11, wp_lst12, wp_bd, wp_lc, ql_nx, ql_ct, ql_bk, ql_rt, iSeq, iEnu, Mir.iRev, chkR, chkT, chkO, lstO, wp_some, wp_ite, wp_none, bd_some, eVar, eC, eOp, eUn, eFn, eMt, aNil, aCons,  eAnd, eOr, eNot, eIf, eIsi, eChain, bTest, bTruth, bAnd, bOr, bNot, bYes, eSl, pNo, pAt, eRinA, eRinB, eDnew, eDin, eDget, eDget2, tgM_name, tgM_tup, tgMs_nil, tgMs_name, tgMs_tup, List.getElem?_cons_succ, List.getElem?_cons_zero, List.set_cons_succ, List.set_cons_zero, List.map_cons, List.map_nil, List.length_cons, List.length_nil, List.replicate, List.nil_append, List.cons_append, if_true, if_false, Bool.false_eq_true, Bool.true_eq_false, Nat.reduceAdd, Nat.reduceSub, Nat.reduceLeDiff, Nat.zero_add, Bool.not_true, Bool.not_false, nc0, nc1, nc2, nc3, not_true_eq_false, not_false_eq_true, ii, addI, subI, negI, int1, eqI, neI, eqS, neS, ix0, ix1, ix2, ix3, decide_eq_true_eq, Bool.not_eq_true', decide_eq_false_iff_not, truB, truN, keyI, keyS, lenT, wipeM, isnB, decide_true]
  refine wrong_ok T2 fun bad s3 B T3 f3 => ?_
  repeat first | with_reducible refine Eq.mpr wps_cons ?_ | with_reducible refine Eq.mpr wps_pass ?_ | with_reducible refine Eq.mpr wps_nil ?_ | with_reducible refine Eq.mpr wps_set ?_ | with_reducible refine Eq.mpr wps_do ?_ | with_reducible refine Eq.mpr wps_ret ?_ | with_reducible refine Eq.mpr wps_retN ?_ | with_reducible refine Eq.mpr wps_brk ?_ | with_reducible refine Eq.mpr wps_cnt ?_ | with_reducible refine Eq.mpr wps_if ?_ | with_reducible refine Eq.mpr wps_asg ?_ | with_reducible refine wps_asgL ?_ | with_reducible refine Eq.mpr wps_put ?_ | with_reducible refine Eq.mpr wps_dput ?_ | with_reducible refine Eq.mpr wps_aug ?_ | with_reducible refine Eq.mpr wps_par ?_ | with_reducible refine Eq.mpr wps_for ?_ | with_reducible refine Eq.mpr wps_wh ?_ | simp only [wp_tup0, wp_tup1, wp_tup2, wp_tup3, wp_tup4, wp_tup5, wp_tup6, wp_tup7, wp_lst0, wp_lst1, wp_lst2, wp_lst3, wp_lst4, wp_lst5, wp_lst6, wp_lst7, wp_lst8, wp_lst9, wp_lst10, wp_lst11, wp_lst12, wp_bd, wp_lc, ql_nx, ql_ct, ql_bk, ql_rt, iSeq, iEnu, Mir.iRev, chkR, chkT, chkO, lstO, wp_some, wp_ite, wp_none, bd_some, eVar, eC, eOp, eUn, eFn, eMt, aNil, aCons,  eAnd, eOr, eNot, eIf, eIsi, eChain, bTest, bTruth, bAnd, bOr, bNot, bYes, eSl, pNo, pAt, eRinA, eRinB, eDnew, eDin, eDget, eDget2, tgM_name, tgM_tup, tgMs_nil, tgMs_name, tgMs_tup, List.getElem?_cons_succ, List.getElem?_cons_zero, List.set_cons_succ, List.set_cons_zero, List.map_cons, List.map_nil, List.length_cons, List.length_nil, List.replicate, List.nil_append, List.cons_append, if_true, if_false, Bool.false_eq_true, Bool.true_eq_false, Nat.reduceAdd, Nat.reduceSub, Nat.reduceLeDiff, Nat.zero_add, Bool.not_true, Bool.not_false, nc0, nc1, nc2, nc3, not_true_eq_false, not_false_eq_true, ii, addI, subI, negI, int1, eqI, neI, eqS, neS, ix0, ix1, ix2, ix3, decide_eq_true_eq, Bool.not_eq_true', decide_eq_false_iff_not, truB, truN, keyI, keyS, lenT, wipeM]
  refine B _ _ fun s4 f4 => ?_
  have T4 := T3.fr f4 (by simp) (by simp)
  have a1 : ∀ s : Sto, gAdd (.tup (.str tag :: ps)) (.tup [.str "x"]) s = some (.tup (.str tag :: (ps ++ [.str "x"])), s) := fun s => by
    have e : (W.str tag :: ps).length + ([.str "x"] : List W).length ≤ 100000 := by simp; omega
    simp only [gAdd, e, if_true, List.cons_append]
  have a2 : ∀ s : Sto, gAdd (.str "no ") (.str tag) s = some (.str (("no " : Str) ++ tag), s) := fun s => by
    have l3 : ("no " : Str).length = 3 := by decide +kernel
    have e : ("no " : Str).length + tag.length ≤ 100000 := by rw [l3]; omega
    simp only [gAdd, e, if_true]
  have a3 : ∀ s : Sto, gAdd (.tup [.str (("no " : Str) ++ tag)]) (.tup ps) s = some (.tup (.str (("no " : Str) ++ tag) :: ps), s) := fun s => by
    have e : ([.str (("no " : Str) ++ tag)] : List W).length + ps.length ≤ 100000 := by simp; omega
    simp only [gAdd, e, if_true, List.cons_append, List.nil_append]
  repeat first | with_reducible refine Eq.mpr wps_cons ?_ | with_reducible refine Eq.mpr wps_pass ?_ | with_reducible refine Eq.mpr wps_nil ?_ | with_reducible refine Eq.mpr wps_set ?_ | with_reducible refine Eq.mpr wps_do ?_ | with_reducible refine Eq.mpr wps_ret ?_ | with_reducible refine Eq.mpr wps_retN ?_ | with_reducible refine Eq.mpr wps_brk ?_ | with_reducible refine Eq.mpr wps_cnt ?_ | with_reducible refine Eq.mpr wps_if ?_ | with_reducible refine Eq.mpr wps_asg ?_ | with_reducible refine wps_asgL ?_ | with_reducible refine Eq.mpr wps_put ?_ | with_reducible refine Eq.mpr wps_dput ?_ | with_reducible refine Eq.mpr wps_aug ?_ | with_reducible refine Eq.mpr wps_par ?_ | with_reducible refine Eq.mpr wps_for ?_ | with_reducible refine Eq.mpr wps_wh ?_ | simp only [wp_tup0, wp_tup1, wp_tup2, wp_tup3, wp_tup4, wp_tup5, wp_tup6, wp_tup7, wp_lst0, wp_lst1, wp_lst2, wp_lst3, wp_lst4, wp_lst5, wp_lst6, wp_lst7, wp_lst8, wp_lst9, wp_lst10, wp_lst11, wp_lst12, wp_bd, wp_lc, ql_nx, ql_ct, ql_bk, ql_rt, iSeq, iEnu, Mir.iRev, chkR, chkT, chkO, lstO, wp_some, wp_ite, wp_none, bd_some, eVar, eC, eOp, eUn, eFn, eMt, aNil, aCons,  eAnd, eOr, eNot, eIf, eIsi, eChain, bTest, bTruth, bAnd, bOr, bNot, bYes, eSl, pNo, pAt, eRinA, eRinB, eDnew, eDin, eDget, eDget2, tgM_name, tgM_tup, tgMs_nil, tgMs_name, tgMs_tup, List.getElem?_cons_succ, List.getElem?_cons_zero, List.set_cons_succ, List.set_cons_zero, List.map_cons, List.map_nil, List.length_cons, List.length_nil, List.replicate, List.nil_append, List.cons_append, if_true, if_false, Bool.false_eq_true, Bool.true_eq_false, Nat.reduceAdd, Nat.reduceSub, Nat.reduceLeDiff, Nat.zero_add, Bool.not_true, Bool.not_false, nc0, nc1, nc2, nc3, not_true_eq_false, not_false_eq_true, ii, addI, subI, negI, int1, eqI, neI, eqS, neS, ix0, ix1, ix2, ix3, decide_eq_true_eq, Bool.not_eq_true', decide_eq_false_iff_not, truB, truN, keyI, keyS, lenT, wipeM, isnB, decide_true, a1]
  refine insL (fs := fs) h1 (by rw [List.length_append, List.length_singleton]; omega) _ _ fun s5 f5 => ?_
  have T5 := T4.fr f5 (by simp) (by simp)
  repeat first | with_reducible refine Eq.mpr wps_cons ?_ | with_reducible refine Eq.mpr wps_pass ?_ | with_reducible refine Eq.mpr wps_nil ?_ | with_reducible refine Eq.mpr wps_set ?_ | with_reducible refine Eq.mpr wps_do ?_ | with_reducible refine Eq.mpr wps_ret ?_ | with_reducible refine Eq.mpr wps_retN ?_ | with_reducible refine Eq.mpr wps_brk ?_ | with_reducible refine Eq.mpr wps_cnt ?_ | with_reducible refine Eq.mpr wps_if ?_ | with_reducible refine Eq.mpr wps_asg ?_ | with_reducible refine wps_asgL ?_ | with_reducible refine Eq.mpr wps_put ?_ | with_reducible refine Eq.mpr wps_dput ?_ | with_reducible refine Eq.mpr wps_aug ?_ | with_reducible refine Eq.mpr wps_par ?_ | with_reducible refine Eq.mpr wps_for ?_ | with_reducible refine Eq.mpr wps_wh ?_ | simp only [wp_tup0, wp_tup1, wp_tup2, wp_tup3, wp_tup4, wp_tup5, wp_tup6, wp_tup7, wp_lst0, wp_lst1, wp_lst2, wp_lst3, wp_lst4, wp_lst5, wp_lst6, wp_lst7, wp_lst8, wp_lst9, wp_lst10, wp_lst11, wp_lst12, wp_bd, wp_lc, ql_nx, ql_ct, ql_bk, ql_rt, iSeq, iEnu, Mir.iRev, chkR, chkT, chkO, lstO, wp_some, wp_ite, wp_none, bd_some, eVar, eC, eOp, eUn, eFn, eMt, aNil, aCons,  eAnd, eOr, eNot, eIf, eIsi, eChain, bTest, bTruth, bAnd, bOr, bNot, bYes, eSl, pNo, pAt, eRinA, eRinB, eDnew, eDin, eDget, eDget2, tgM_name, tgM_tup, tgMs_nil, tgMs_name, tgMs_tup, List.getElem?_cons_succ, List.getElem?_cons_zero, List.set_cons_succ, List.set_cons_zero, List.map_cons, List.map_nil, List.length_cons, List.length_nil, List.replicate, List.nil_append, List.cons_append, if_true, if_false, Bool.false_eq_true, Bool.true_eq_false, Nat.reduceAdd, Nat.reduceSub, Nat.reduceLeDiff, Nat.zero_add, Bool.not_true, Bool.not_false, nc0, nc1, nc2, nc3, not_true_eq_false, not_false_eq_true, ii, addI, subI, negI, int1, eqI, neI, eqS, neS, ix0, ix1, ix2, ix3, decide_eq_true_eq, Bool.not_eq_true', decide_eq_false_iff_not, truB, truN, keyI, keyS, lenT, wipeM, isnB, decide_true, a2, sl1, a3]
  refine insN h4 _ _ fun s6 f6 => ?_
  have T6 := T5.fr f6 (by simp) (by simp)
  repeat first | with_reducible refine Eq.mpr wps_cons ?_ | with_reducible refine Eq.mpr wps_pass ?_ | with_reducible refine Eq.mpr wps_nil ?_ | with_reducible refine Eq.mpr wps_set ?_ | with_reducible refine Eq.mpr wps_do ?_ | with_reducible refine Eq.mpr wps_ret ?_ | with_reducible refine Eq.mpr wps_retN ?_ | with_reducible refine Eq.mpr wps_brk ?_ | with_reducible refine Eq.mpr wps_cnt ?_ | with_reducible refine Eq.mpr wps_if ?_ | with_reducible refine Eq.mpr wps_asg ?_ | with_reducible refine wps_asgL ?_ | with_reducible refine Eq.mpr wps_put ?_ | with_reducible refine Eq.mpr wps_dput ?_ | with_reducible refine Eq.mpr wps_aug ?_ | with_reducible refine Eq.mpr wps_par ?_ | with_reducible refine Eq.mpr wps_for ?_ | with_reducible refine Eq.mpr wps_wh ?_ | simp only [wp_tup0, wp_tup1, wp_tup2, wp_tup3, wp_tup4, wp_tup5, wp_tup6, wp_tup7, wp_lst0, wp_lst1, wp_lst2, wp_lst3, wp_lst4, wp_lst5, wp_lst6, wp_lst7, wp_lst8, wp_lst9, wp_lst10, wp_lst11, wp_lst12, wp_bd, wp_lc, ql_nx, ql_ct, ql_bk, ql_rt, iSeq, iEnu, Mir.iRev, chkR, chkT, chkO, lstO, wp_some, wp_ite, wp_none, bd_some, eVar, eC, eOp, eUn, eFn, eMt, aNil, aCons,  eAnd, eOr, eNot, eIf, eIsi, eChain, bTest, bTruth, bAnd, bOr, bNot, bYes, eSl, pNo, pAt, eRinA, eRinB, eDnew, eDin, eDget, eDget2, tgM_name, tgM_tup, tgMs_nil, tgMs_name, tgMs_tup, List.getElem?_cons_succ, List.getElem?_cons_zero, List.set_cons_succ, List.set_cons_zero, List.map_cons, List.map_nil, List.length_cons, List.length_nil, List.replicate, List.nil_append, List.cons_append, if_true, if_false, Bool.false_eq_true, Bool.true_eq_false, Nat.reduceAdd, Nat.reduceSub, Nat.reduceLeDiff, Nat.zero_add, Bool.not_true, Bool.not_false, nc0, nc1, nc2, nc3, not_true_eq_false, not_false_eq_true, ii, addI, subI, negI, int1, eqI, neI, eqS, neS, ix0, ix1, ix2, ix3, decide_eq_true_eq, Bool.not_eq_true', decide_eq_false_iff_not, truB, truN, keyI, keyS, lenT, wipeM, isnB, decide_true]
  refine ops_ok ?_
  repeat first | with_reducible refine Eq.mpr wps_cons ?_ | with_reducible refine Eq.mpr wps_pass ?_ | with_reducible refine Eq.mpr wps_nil ?_ | with_reducible refine Eq.mpr wps_set ?_ | with_reducible refine Eq.mpr wps_do ?_ | with_reducible refine Eq.mpr wps_ret ?_ | with_reducible refine Eq.mpr wps_retN ?_ | with_reducible refine Eq.mpr wps_brk ?_ | with_reducible refine Eq.mpr wps_cnt ?_ | with_reducible refine Eq.mpr wps_if ?_ | with_reducible refine Eq.mpr wps_asg ?_ | with_reducible refine wps_asgL ?_ | with_reducible refine Eq.mpr wps_put ?_ | with_reducible refine Eq.mpr wps_dput ?_ | with_reducible refine Eq.mpr wps_aug ?_ | with_reducible refine Eq.mpr wps_par ?_ | with_reducible refine Eq.mpr wps_for ?_ | with_reducible refine Eq.mpr wps_wh ?_ | simp only [wp_tup0, wp_tup1, wp_tup2, wp_tup3, wp_tup4, wp_tup5, wp_tup6, wp_tup7, wp_lst0, wp_lst1, wp_lst2, wp_lst3, wp_lst4, wp_lst5, wp_lst6, wp_lst7, wp_lst8, wp_lst9, wp_lst10, wp_lst11, wp_lst12, wp_bd, wp_lc, ql_nx, ql_ct, ql_bk, ql_rt, iSeq, iEnu, Mir.iRev, chkR, chkT, chkO, lstO, wp_some, wp_ite, wp_none, bd_some, eVar, eC, eOp, eUn, eFn, eMt, aNil, aCons,  eAnd, eOr, eNot, eIf, eIsi, eChain, bTest, bTruth, bAnd, bOr, bNot, bYes, eSl, pNo, pAt, eRinA, eRinB, eDnew, eDin, eDget, eDget2, tgM_name, tgM_tup, tgMs_nil, tgMs_name, tgMs_tup, List.getElem?_cons_succ, List.getElem?_cons_zero, List.set_cons_succ, List.set_cons_zero, List.map_cons, List.map_nil, List.length_cons, List.length_nil, List.replicate, List.nil_append, List.cons_append, if_true, if_false, Bool.false_eq_true, Bool.true_eq_false, Nat.reduceAdd, Nat.reduceSub, Nat.reduceLeDiff, Nat.zero_add, Bool.not_true, Bool.not_false, nc0, nc1, nc2, nc3, not_true_eq_false, not_false_eq_true, ii, addI, subI, negI, int1, eqI, neI, eqS, neS, ix0, ix1, ix2, ix3, decide_eq_true_eq, Bool.not_eq_true', decide_eq_false_iff_not, truB, truN, keyI, keyS, lenT, wipeM]
  refine take_wp (T6.app _) 13 (by decide) (by decide) fun d s7 hd T7 f7 l7 => ?_
  have lt := T6.lt
  have g := f7.at_ s6.length _ (by simp; omega) gnew
  obtain ⟨o, ho1, k, o1, o2, o3, o4⟩ := ops_at2 hd
  have gi : gIx (.ref s6.length) (.int (d : Int)) s7 = some (.str o, s7) := ixL g ho1
  have gn : ∀ s : Sto, gIn (.str o) (.tup [.str "neg", .str "ref", .str "fetch", .str "print"]) s = some (.bl ((["neg", "ref", "fetch", "print"] : List Str).any fun y => decide (o = y)), s) := fun s => inL (l := ["neg", "ref", "fetch", "print"])
  have a4 : ∀ s : Sto, gAdd (.str o) (.str "s") s = some (.str (o ++ ("s" : Str)), s) := fun s => by
    have l1 : ("s" : Str).length = 1 := by decide +kernel
    have e : o.length + ("s" : Str).length ≤ 100000 := by rw [l1]; omega
    simp only [gAdd, e, if_true]
  generalize ((["neg", "ref", "fetch", "print"] : List Str).any fun y => decide (o = y)) = bb at gn o4
  have e0 : tl T_OPERAND_COUNTS ("" : Str) = some none := by kernel_rfl
  have q1 : ∀ s, FOperands [.str o] s = some (.int k, s) := fun s => opd_eq o1
  have q2 : ∀ s, FOperands [.str (o ++ ("s" : Str))] s = some (.int 0, s) := fun s => opd_eq o2
  have q3 : ∀ s, FOperands [.str ("" : Str)] s = some (.int 0, s) := fun s => opd_eq e0
  cases bb with
  | true =>
    have ek : k = 1 := o4
    subst ek
    repeat first | with_reducible refine Eq.mpr wps_cons ?_ | with_reducible refine Eq.mpr wps_pass ?_ | with_reducible refine Eq.mpr wps_nil ?_ | with_reducible refine Eq.mpr wps_set ?_ | with_reducible refine Eq.mpr wps_do ?_ | with_reducible refine Eq.mpr wps_ret ?_ | with_reducible refine Eq.mpr wps_retN ?_ | with_reducible refine Eq.mpr wps_brk ?_ | with_reducible refine Eq.mpr wps_cnt ?_ | with_reducible refine Eq.mpr wps_if ?_ | with_reducible refine Eq.mpr wps_asg ?_ | with_reducible refine wps_asgL ?_ | with_reducible refine Eq.mpr wps_put ?_ | with_reducible refine Eq.mpr wps_dput ?_ | with_reducible refine Eq.mpr wps_aug ?_ | with_reducible refine Eq.mpr wps_par ?_ | with_reducible refine Eq.mpr wps_for ?_ | with_reducible refine Eq.mpr wps_wh ?_ | simp only [wp_tup0, wp_tup1, wp_tup2, wp_tup3, wp_tup4, wp_tup5, wp_tup6, wp_tup7, wp_lst0, wp_lst1, wp_lst2, wp_lst3, wp_lst4, wp_lst5, wp_lst6, wp_lst7, wp_lst8, wp_lst9, wp_lst10, wp_lst11, wp_lst12, wp_bd, wp_lc, ql_nx, ql_ct, ql_bk, ql_rt, iSeq, iEnu, Mir.iRev, chkR, chkT, chkO, lstO, wp_some, wp_ite, wp_none, bd_some, eVar, eC, eOp, eUn, eFn, eMt, aNil, aCons,  eAnd, eOr, eNot, eIf, eIsi, eChain, bTest, bTruth, bAnd, bOr, bNot, bYes, eSl, pNo, pAt, eRinA, eRinB, eDnew, eDin, eDget, eDget2, tgM_name, tgM_tup, tgMs_nil, tgMs_name, tgMs_tup, List.getElem?_cons_succ, List.getElem?_cons_zero, List.set_cons_succ, List.set_cons_zero, List.map_cons, List.map_nil, List.length_cons, List.length_nil, List.replicate, List.nil_append, List.cons_append, if_true, if_false, Bool.false_eq_true, Bool.true_eq_false, Nat.reduceAdd, Nat.reduceSub, Nat.reduceLeDiff, Nat.zero_add, Bool.not_true, Bool.not_false, nc0, nc1, nc2, nc3, not_true_eq_false, not_false_eq_true, ii, addI, subI, negI, int1, eqI, neI, eqS, neS, ix0, ix1, ix2, ix3, decide_eq_true_eq, Bool.not_eq_true', decide_eq_false_iff_not, truB, truN, keyI, keyS, lenT, wipeM, gi, gn, q1, q2, q3, a4]
    rfl
  | false =>
    have ek : k = 2 := o4
    subst ek
    repeat first | with_reducible refine Eq.mpr wps_cons ?_ | with_reducible refine Eq.mpr wps_pass ?_ | with_reducible refine Eq.mpr wps_nil ?_ | with_reducible refine Eq.mpr wps_set ?_ | with_reducible refine Eq.mpr wps_do ?_ | with_reducible refine Eq.mpr wps_ret ?_ | with_reducible refine Eq.mpr wps_retN ?_ | with_reducible refine Eq.mpr wps_brk ?_ | with_reducible refine Eq.mpr wps_cnt ?_ | with_reducible refine Eq.mpr wps_if ?_ | with_reducible refine Eq.mpr wps_asg ?_ | with_reducible refine wps_asgL ?_ | with_reducible refine Eq.mpr wps_put ?_ | with_reducible refine Eq.mpr wps_dput ?_ | with_reducible refine Eq.mpr wps_aug ?_ | with_reducible refine Eq.mpr wps_par ?_ | with_reducible refine Eq.mpr wps_for ?_ | with_reducible refine Eq.mpr wps_wh ?_ | simp only [wp_tup0, wp_tup1, wp_tup2, wp_tup3, wp_tup4, wp_tup5, wp_tup6, wp_tup7, wp_lst0, wp_lst1, wp_lst2, wp_lst3, wp_lst4, wp_lst5, wp_lst6, wp_lst7, wp_lst8, wp_lst9, wp_lst10, wp_lst11, wp_lst12, wp_bd, wp_lc, ql_nx, ql_ct, ql_bk, ql_rt, iSeq, iEnu, Mir.iRev, chkR, chkT, chkO, lstO, wp_some, wp_ite, wp_none, bd_some, eVar, eC, eOp, eUn, eFn, eMt, aNil, aCons,  eAnd, eOr, eNot, eIf, eIsi, eChain, bTest, bTruth, bAnd, bOr, bNot, bYes, eSl, pNo, pAt, eRinA, eRinB, eDnew, eDin, eDget, eDget2, tgM_name, tgM_tup, tgMs_nil, tgMs_name, tgMs_tup, List.getElem?_cons_succ, List.getElem?_cons_zero, List.set_cons_succ, List.set_cons_zero, List.map_cons, List.map_nil, List.length_cons, List.length_nil, List.replicate, List.nil_append, List.cons_append, if_true, if_false, Bool.false_eq_true, Bool.true_eq_false, Nat.reduceAdd, Nat.reduceSub, Nat.reduceLeDiff, Nat.zero_add, Bool.not_true, Bool.not_false, nc0, nc1, nc2, nc3, not_true_eq_false, not_false_eq_true, ii, addI, subI, negI, int1, eqI, neI, eqS, neS, ix0, ix1, ix2, ix3, decide_eq_true_eq, Bool.not_eq_true', decide_eq_false_iff_not, truB, truN, keyI, keyS, lenT, wipeM, gi, gn, q1, q2, q3, a4]
    rfl
end K62

set_option Elab.async false
set_option linter.all false
set_option maxRecDepth 100000
namespace K62
open PySem PySem.Spec PyProof.Rows L2 Mir
set_option maxHeartbeats 0 in
theorem all_mk {l : PySem.W.OpenLaw} {w : World} {K : PySem.W.Frag} {h : Heap} {mg : Str → Option Value} {fa f1 f2 f3 f4 f5 f6 f7 f8 f9 f10 f11 f12 f13 f14 f15 f16 f17 f18 : Addr} (X : K.In h) (G : h.Ns mainGlobals mg) (hfa : mg "law" = some (.ref fa))
    {od1 an1 od2 an2 od3 an3 od4 an4 od5 an5 od6 an6 od7 an7 od8 an8 od9 an9 od10 an10 od11 an11 od12 an12 od13 an13 od14 an14 od15 an15 od16 an16 od17 an17 od18 an18 : Option Addr} {sl1 sl2 sl3 sl4 sl5 sl6 sl7 sl8 sl9 sl10 sl11 sl12 sl13 sl14 sl15 sl16 sl17 sl18 : Array (Option Value)} {oc1 kV1 dc1 pm1 cd1 ct1 oc2 kV2 dc2 pm2 cd2 ct2 oc3 kV3 dc3 pm3 cd3 ct3 oc4 kV4 dc4 pm4 cd4 ct4 oc5 kV5 dc5 pm5 cd5 ct5 oc6 kV6 dc6 pm6 cd6 ct6 oc7 kV7 dc7 pm7 cd7 ct7 oc8 kV8 dc8 pm8 cd8 ct8 oc9 kV9 dc9 pm9 cd9 ct9 oc10 kV10 dc10 pm10 cd10 ct10 oc11 kV11 dc11 pm11 cd11 ct11 oc12 kV12 dc12 pm12 cd12 ct12 oc13 kV13 dc13 pm13 cd13 ct13 oc14 kV14 dc14 pm14 cd14 ct14 oc15 kV15 dc15 pm15 cd15 ct15 oc16 kV16 dc16 pm16 cd16 ct16 oc17 kV17 dc17 pm17 cd17 ct17 oc18 kV18 dc18 pm18 cd18 ct18 : Value}
    (a1 : PySem.W.nsIn K mainGlobals "is_number" = some (some (.ref f1))) (l1 : K.lookup f1 = some ⟨oc1, od1, .func (PySem.W.fnOf "is_number" "is_number" (defArgs sIsNumber) (defBody sIsNumber) (defScope sIsNumber) .none kV1 dc1 pm1 an1 cd1 ct1), sl1⟩) (c1 : PySem.W.codeIn K cd1 "is_number" = true) (k1 : PySem.W.keepIn K (.ref f1) = true)
    (a2 : PySem.W.nsIn K mainGlobals "is_integer" = some (some (.ref f2))) (l2 : K.lookup f2 = some ⟨oc2, od2, .func (PySem.W.fnOf "is_integer" "is_integer" (defArgs sIsInteger) (defBody sIsInteger) (defScope sIsInteger) .none kV2 dc2 pm2 an2 cd2 ct2), sl2⟩) (c2 : PySem.W.codeIn K cd2 "is_integer" = true) (k2 : PySem.W.keepIn K (.ref f2) = true)
    (a3 : PySem.W.nsIn K mainGlobals "operands" = some (some (.ref f3))) (l3 : K.lookup f3 = some ⟨oc3, od3, .func (PySem.W.fnOf "operands" "operands" (defArgs sOperands) (defBody sOperands) (defScope sOperands) .none kV3 dc3 pm3 an3 cd3 ct3), sl3⟩) (c3 : PySem.W.codeIn K cd3 "operands" = true) (k3 : PySem.W.keepIn K (.ref f3) = true)
    (a4 : PySem.W.nsIn K mainGlobals "is_string" = some (some (.ref f4))) (l4 : K.lookup f4 = some ⟨oc4, od4, .func (PySem.W.fnOf "is_string" "is_string" (defArgs sIsString) (defBody sIsString) (defScope sIsString) .none kV4 dc4 pm4 an4 cd4 ct4), sl4⟩) (c4 : PySem.W.codeIn K cd4 "is_string" = true) (k4 : PySem.W.keepIn K (.ref f4) = true)
    (a5 : PySem.W.nsIn K mainGlobals "is_truth" = some (some (.ref f5))) (l5 : K.lookup f5 = some ⟨oc5, od5, .func (PySem.W.fnOf "is_truth" "is_truth" (defArgs sIsTruth) (defBody sIsTruth) (defScope sIsTruth) .none kV5 dc5 pm5 an5 cd5 ct5), sl5⟩) (c5 : PySem.W.codeIn K cd5 "is_truth" = true) (k5 : PySem.W.keepIn K (.ref f5) = true)
    (a6 : PySem.W.nsIn K mainGlobals "is_fixed" = some (some (.ref f6))) (l6 : K.lookup f6 = some ⟨oc6, od6, .func (PySem.W.fnOf "is_fixed" "is_fixed" (defArgs sIsFixed) (defBody sIsFixed) (defScope sIsFixed) .none kV6 dc6 pm6 an6 cd6 ct6), sl6⟩) (c6 : PySem.W.codeIn K cd6 "is_fixed" = true) (k6 : PySem.W.keepIn K (.ref f6) = true)
    (a7 : PySem.W.nsIn K mainGlobals "is_index" = some (some (.ref f7))) (l7 : K.lookup f7 = some ⟨oc7, od7, .func (PySem.W.fnOf "is_index" "is_index" (defArgs sIsIndex) (defBody sIsIndex) (defScope sIsIndex) .none kV7 dc7 pm7 an7 cd7 ct7), sl7⟩) (c7 : PySem.W.codeIn K cd7 "is_index" = true) (k7 : PySem.W.keepIn K (.ref f7) = true)
    (a8 : PySem.W.nsIn K mainGlobals "is_length" = some (some (.ref f8))) (l8 : K.lookup f8 = some ⟨oc8, od8, .func (PySem.W.fnOf "is_length" "is_length" (defArgs sIsLength) (defBody sIsLength) (defScope sIsLength) .none kV8 dc8 pm8 an8 cd8 ct8), sl8⟩) (c8 : PySem.W.codeIn K cd8 "is_length" = true) (k8 : PySem.W.keepIn K (.ref f8) = true)
    (a9 : PySem.W.nsIn K mainGlobals "is_labels" = some (some (.ref f9))) (l9 : K.lookup f9 = some ⟨oc9, od9, .func (PySem.W.fnOf "is_labels" "is_labels" (defArgs sIsLabels) (defBody sIsLabels) (defScope sIsLabels) .none kV9 dc9 pm9 an9 cd9 ct9), sl9⟩) (c9 : PySem.W.codeIn K cd9 "is_labels" = true) (k9 : PySem.W.keepIn K (.ref f9) = true)
    (a10 : PySem.W.nsIn K mainGlobals "is_operation" = some (some (.ref f10))) (l10 : K.lookup f10 = some ⟨oc10, od10, .func (PySem.W.fnOf "is_operation" "is_operation" (defArgs sIsOperation) (defBody sIsOperation) (defScope sIsOperation) .none kV10 dc10 pm10 an10 cd10 ct10), sl10⟩) (c10 : PySem.W.codeIn K cd10 "is_operation" = true) (k10 : PySem.W.keepIn K (.ref f10) = true)
    (a11 : PySem.W.nsIn K mainGlobals "is_instruction" = some (some (.ref f11))) (l11 : K.lookup f11 = some ⟨oc11, od11, .func (PySem.W.fnOf "is_instruction" "is_instruction" (defArgs sIsInstruction) (defBody sIsInstruction) (defScope sIsInstruction) .none kV11 dc11 pm11 an11 cd11 ct11), sl11⟩) (c11 : PySem.W.codeIn K cd11 "is_instruction" = true) (k11 : PySem.W.keepIn K (.ref f11) = true)
    (a12 : PySem.W.nsIn K mainGlobals "_law_mix" = some (some (.ref f12))) (l12 : K.lookup f12 = some ⟨oc12, od12, .func (PySem.W.fnOf "_law_mix" "_law_mix" (defArgs sLawMix) (defBody sLawMix) (defScope sLawMix) .none kV12 dc12 pm12 an12 cd12 ct12), sl12⟩) (c12 : PySem.W.codeIn K cd12 "_law_mix" = true) (k12 : PySem.W.keepIn K (.ref f12) = true)
    (a13 : PySem.W.nsIn K mainGlobals "_law_tape" = some (some (.ref f13))) (l13 : K.lookup f13 = some ⟨oc13, od13, .func (PySem.W.fnOf "_law_tape" "_law_tape" (defArgs sLawTape) (defBody sLawTape) (defScope sLawTape) .none kV13 dc13 pm13 an13 cd13 ct13), sl13⟩) (c13 : PySem.W.codeIn K cd13 "_law_tape" = true) (k13 : PySem.W.keepIn K (.ref f13) = true)
    (a14 : PySem.W.nsIn K mainGlobals "_law_take" = some (some (.ref f14))) (l14 : K.lookup f14 = some ⟨oc14, od14, .func (PySem.W.fnOf "_law_take" "_law_take" (defArgs sLawTake) (defBody sLawTake) (defScope sLawTake) .none kV14 dc14 pm14 an14 cd14 ct14), sl14⟩) (c14 : PySem.W.codeIn K cd14 "_law_take" = true) (k14 : PySem.W.keepIn K (.ref f14) = true)
    (a15 : PySem.W.nsIn K mainGlobals "_law_operations" = some (some (.ref f15))) (l15 : K.lookup f15 = some ⟨oc15, od15, .func (PySem.W.fnOf "_law_operations" "_law_operations" (defArgs sLawOperations) (defBody sLawOperations) (defScope sLawOperations) .none kV15 dc15 pm15 an15 cd15 ct15), sl15⟩) (c15 : PySem.W.codeIn K cd15 "_law_operations" = true) (k15 : PySem.W.keepIn K (.ref f15) = true)
    (a16 : PySem.W.nsIn K mainGlobals "_law_instruction" = some (some (.ref f16))) (l16 : K.lookup f16 = some ⟨oc16, od16, .func (PySem.W.fnOf "_law_instruction" "_law_instruction" (defArgs sLawInstruction) (defBody sLawInstruction) (defScope sLawInstruction) .none kV16 dc16 pm16 an16 cd16 ct16), sl16⟩) (c16 : PySem.W.codeIn K cd16 "_law_instruction" = true) (k16 : PySem.W.keepIn K (.ref f16) = true)
    (a17 : PySem.W.nsIn K mainGlobals "_law_wrong" = some (some (.ref f17))) (l17 : K.lookup f17 = some ⟨oc17, od17, .func (PySem.W.fnOf "_law_wrong" "_law_wrong" (defArgs sLawWrong) (defBody sLawWrong) (defScope sLawWrong) .none kV17 dc17 pm17 an17 cd17 ct17), sl17⟩) (c17 : PySem.W.codeIn K cd17 "_law_wrong" = true) (k17 : PySem.W.keepIn K (.ref f17) = true)
    (a18 : PySem.W.nsIn K mainGlobals "law" = some (some (.ref f18))) (l18 : K.lookup f18 = some ⟨oc18, od18, .func (PySem.W.fnOf "law" "law" (defArgs sLaw) (defBody sLaw) (defScope sLaw) .none kV18 dc18 pm18 an18 cd18 ct18), sl18⟩) (c18 : PySem.W.codeIn K cd18 "law" = true) (k18 : PySem.W.keepIn K (.ref f18) = true)
    (z1 : PySem.W.nsIn K mainGlobals "all" = some none)
    (z2 : PySem.W.nsIn K mainGlobals "bool" = some none)
    (z3 : PySem.W.nsIn K mainGlobals "int" = some none)
    (z4 : PySem.W.nsIn K mainGlobals "isinstance" = some none)
    (z5 : PySem.W.nsIn K mainGlobals "len" = some none)
    (z6 : PySem.W.nsIn K mainGlobals "list" = some none)
    (z7 : PySem.W.nsIn K mainGlobals "str" = some none)
    (z8 : PySem.W.nsIn K mainGlobals "tuple" = some none)
    (z9 : PySem.W.nsIn K mainGlobals "zip" = some none)
    {dA0 : Addr} {es0 : Array DictEntry} {dn0 : Nat} (x0 : PySem.W.nsIn K mainGlobals "FORMS" = some (some (.ref dA0))) (xa0 : K.lookup dA0 = some ⟨.type "dict", none, .dict es0 dn0, #[]⟩) (xb0 : PySem.W.KeysLit w.params es0.toList) (xc0 : (dA0 == sysModules) = false)
    {cTd0_0 : Addr}
    {od0_0_2 : Option Addr} {nd0_0_2 : Nat} {sld0_0_2 : Array (Option Value)} (yd0_0_2 : K.lookup cTd0_0 = some ⟨.type "tuple", od0_0_2, .seq #[.ref f2] nd0_0_2, sld0_0_2⟩)
    (xe0_0 : PySem.W.nsIn K dA0 "int" = some (some (.ref cTd0_0)))
    {cTd0_1 : Addr}
    {od0_1_2 : Option Addr} {nd0_1_2 : Nat} {sld0_1_2 : Array (Option Value)} (yd0_1_2 : K.lookup cTd0_1 = some ⟨.type "tuple", od0_1_2, .seq #[.ref f6] nd0_1_2, sld0_1_2⟩)
    (xe0_1 : PySem.W.nsIn K dA0 "fixed" = some (some (.ref cTd0_1)))
    {cTd0_2 : Addr}
    {od0_2_2 : Option Addr} {nd0_2_2 : Nat} {sld0_2_2 : Array (Option Value)} (yd0_2_2 : K.lookup cTd0_2 = some ⟨.type "tuple", od0_2_2, .seq #[.ref f1] nd0_2_2, sld0_2_2⟩)
    (xe0_2 : PySem.W.nsIn K dA0 "slot" = some (some (.ref cTd0_2)))
    {cTd0_3 : Addr}
    {od0_3_2 : Option Addr} {nd0_3_2 : Nat} {sld0_3_2 : Array (Option Value)} (yd0_3_2 : K.lookup cTd0_3 = some ⟨.type "tuple", od0_3_2, .seq #[.ref f1] nd0_3_2, sld0_3_2⟩)
    (xe0_3 : PySem.W.nsIn K dA0 "store" = some (some (.ref cTd0_3)))
    {cTd0_4 : Addr}
    {od0_4_2 : Option Addr} {nd0_4_2 : Nat} {sld0_4_2 : Array (Option Value)} (yd0_4_2 : K.lookup cTd0_4 = some ⟨.type "tuple", od0_4_2, .seq #[.ref f1] nd0_4_2, sld0_4_2⟩)
    (xe0_4 : PySem.W.nsIn K dA0 "captured" = some (some (.ref cTd0_4)))
    {cTd0_5 : Addr}
    {od0_5_1 : Option Addr} {nd0_5_1 : Nat} {sld0_5_1 : Array (Option Value)} (yd0_5_1 : K.lookup cTd0_5 = some ⟨.type "tuple", od0_5_1, .seq #[] nd0_5_1, sld0_5_1⟩)
    (xe0_5 : PySem.W.nsIn K dA0 "drop" = some (some (.ref cTd0_5)))
    {cTd0_6 : Addr}
    {od0_6_2 : Option Addr} {nd0_6_2 : Nat} {sld0_6_2 : Array (Option Value)} (yd0_6_2 : K.lookup cTd0_6 = some ⟨.type "tuple", od0_6_2, .seq #[.ref f8] nd0_6_2, sld0_6_2⟩)
    (xe0_6 : PySem.W.nsIn K dA0 "tuple" = some (some (.ref cTd0_6)))
    {cTd0_7 : Addr}
    {od0_7_2 : Option Addr} {nd0_7_2 : Nat} {sld0_7_2 : Array (Option Value)} (yd0_7_2 : K.lookup cTd0_7 = some ⟨.type "tuple", od0_7_2, .seq #[.ref f1] nd0_7_2, sld0_7_2⟩)
    (xe0_7 : PySem.W.nsIn K dA0 "part" = some (some (.ref cTd0_7)))
    {cTd0_8 : Addr}
    {od0_8_2 : Option Addr} {nd0_8_2 : Nat} {sld0_8_2 : Array (Option Value)} (yd0_8_2 : K.lookup cTd0_8 = some ⟨.type "tuple", od0_8_2, .seq #[.ref f9] nd0_8_2, sld0_8_2⟩)
    (xe0_8 : PySem.W.nsIn K dA0 "record" = some (some (.ref cTd0_8)))
    {cTd0_9 : Addr}
    {od0_9_2 : Option Addr} {nd0_9_2 : Nat} {sld0_9_2 : Array (Option Value)} (yd0_9_2 : K.lookup cTd0_9 = some ⟨.type "tuple", od0_9_2, .seq #[.ref f4] nd0_9_2, sld0_9_2⟩)
    (xe0_9 : PySem.W.nsIn K dA0 "field" = some (some (.ref cTd0_9)))
    {cTd0_10 : Addr}
    {od0_10_3 : Option Addr} {nd0_10_3 : Nat} {sld0_10_3 : Array (Option Value)} (yd0_10_3 : K.lookup cTd0_10 = some ⟨.type "tuple", od0_10_3, .seq #[.ref f7, .ref f4] nd0_10_3, sld0_10_3⟩)
    (xe0_10 : PySem.W.nsIn K dA0 "con" = some (some (.ref cTd0_10)))
    {cTd0_11 : Addr}
    {od0_11_3 : Option Addr} {nd0_11_3 : Nat} {sld0_11_3 : Array (Option Value)} (yd0_11_3 : K.lookup cTd0_11 = some ⟨.type "tuple", od0_11_3, .seq #[.ref f7, .ref f4] nd0_11_3, sld0_11_3⟩)
    (xe0_11 : PySem.W.nsIn K dA0 "wrap" = some (some (.ref cTd0_11)))
    {cTd0_12 : Addr}
    {od0_12_1 : Option Addr} {nd0_12_1 : Nat} {sld0_12_1 : Array (Option Value)} (yd0_12_1 : K.lookup cTd0_12 = some ⟨.type "tuple", od0_12_1, .seq #[] nd0_12_1, sld0_12_1⟩)
    (xe0_12 : PySem.W.nsIn K dA0 "argument" = some (some (.ref cTd0_12)))
    {cTd0_13 : Addr}
    {od0_13_2 : Option Addr} {nd0_13_2 : Nat} {sld0_13_2 : Array (Option Value)} (yd0_13_2 : K.lookup cTd0_13 = some ⟨.type "tuple", od0_13_2, .seq #[.ref f1] nd0_13_2, sld0_13_2⟩)
    (xe0_13 : PySem.W.nsIn K dA0 "closure" = some (some (.ref cTd0_13)))
    {cTd0_14 : Addr}
    {od0_14_2 : Option Addr} {nd0_14_2 : Nat} {sld0_14_2 : Array (Option Value)} (yd0_14_2 : K.lookup cTd0_14 = some ⟨.type "tuple", od0_14_2, .seq #[.ref f1] nd0_14_2, sld0_14_2⟩)
    (xe0_14 : PySem.W.nsIn K dA0 "sibling" = some (some (.ref cTd0_14)))
    {cTd0_15 : Addr}
    {od0_15_1 : Option Addr} {nd0_15_1 : Nat} {sld0_15_1 : Array (Option Value)} (yd0_15_1 : K.lookup cTd0_15 = some ⟨.type "tuple", od0_15_1, .seq #[] nd0_15_1, sld0_15_1⟩)
    (xe0_15 : PySem.W.nsIn K dA0 "call" = some (some (.ref cTd0_15)))
    {cTd0_16 : Addr}
    {od0_16_1 : Option Addr} {nd0_16_1 : Nat} {sld0_16_1 : Array (Option Value)} (yd0_16_1 : K.lookup cTd0_16 = some ⟨.type "tuple", od0_16_1, .seq #[] nd0_16_1, sld0_16_1⟩)
    (xe0_16 : PySem.W.nsIn K dA0 "tail" = some (some (.ref cTd0_16)))
    {cTd0_17 : Addr}
    {od0_17_1 : Option Addr} {nd0_17_1 : Nat} {sld0_17_1 : Array (Option Value)} (yd0_17_1 : K.lookup cTd0_17 = some ⟨.type "tuple", od0_17_1, .seq #[] nd0_17_1, sld0_17_1⟩)
    (xe0_17 : PySem.W.nsIn K dA0 "return" = some (some (.ref cTd0_17)))
    {cTd0_18 : Addr}
    {od0_18_2 : Option Addr} {nd0_18_2 : Nat} {sld0_18_2 : Array (Option Value)} (yd0_18_2 : K.lookup cTd0_18 = some ⟨.type "tuple", od0_18_2, .seq #[.ref f1] nd0_18_2, sld0_18_2⟩)
    (xe0_18 : PySem.W.nsIn K dA0 "jump" = some (some (.ref cTd0_18)))
    {cTd0_19 : Addr}
    {od0_19_3 : Option Addr} {nd0_19_3 : Nat} {sld0_19_3 : Array (Option Value)} (yd0_19_3 : K.lookup cTd0_19 = some ⟨.type "tuple", od0_19_3, .seq #[.ref f7, .ref f1] nd0_19_3, sld0_19_3⟩)
    (xe0_19 : PySem.W.nsIn K dA0 "constructor" = some (some (.ref cTd0_19)))
    {cTd0_20 : Addr}
    {od0_20_3 : Option Addr} {nd0_20_3 : Nat} {sld0_20_3 : Array (Option Value)} (yd0_20_3 : K.lookup cTd0_20 = some ⟨.type "tuple", od0_20_3, .seq #[.ref f2, .ref f1] nd0_20_3, sld0_20_3⟩)
    (xe0_20 : PySem.W.nsIn K dA0 "integer" = some (some (.ref cTd0_20)))
    {cTd0_21 : Addr}
    {od0_21_2 : Option Addr} {nd0_21_2 : Nat} {sld0_21_2 : Array (Option Value)} (yd0_21_2 : K.lookup cTd0_21 = some ⟨.type "tuple", od0_21_2, .seq #[.ref f1] nd0_21_2, sld0_21_2⟩)
    (xe0_21 : PySem.W.nsIn K dA0 "exception" = some (some (.ref cTd0_21)))
    {cTd0_22 : Addr}
    {od0_22_2 : Option Addr} {nd0_22_2 : Nat} {sld0_22_2 : Array (Option Value)} (yd0_22_2 : K.lookup cTd0_22 = some ⟨.type "tuple", od0_22_2, .seq #[.ref f4] nd0_22_2, sld0_22_2⟩)
    (xe0_22 : PySem.W.nsIn K dA0 "new" = some (some (.ref cTd0_22)))
    {cTd0_23 : Addr}
    {od0_23_2 : Option Addr} {nd0_23_2 : Nat} {sld0_23_2 : Array (Option Value)} (yd0_23_2 : K.lookup cTd0_23 = some ⟨.type "tuple", od0_23_2, .seq #[.ref f5] nd0_23_2, sld0_23_2⟩)
    (xe0_23 : PySem.W.nsIn K dA0 "packet" = some (some (.ref cTd0_23)))
    {cTd0_24 : Addr}
    {od0_24_1 : Option Addr} {nd0_24_1 : Nat} {sld0_24_1 : Array (Option Value)} (yd0_24_1 : K.lookup cTd0_24 = some ⟨.type "tuple", od0_24_1, .seq #[] nd0_24_1, sld0_24_1⟩)
    (xe0_24 : PySem.W.nsIn K dA0 "raise" = some (some (.ref cTd0_24)))
    {cTd0_25 : Addr}
    {od0_25_2 : Option Addr} {nd0_25_2 : Nat} {sld0_25_2 : Array (Option Value)} (yd0_25_2 : K.lookup cTd0_25 = some ⟨.type "tuple", od0_25_2, .seq #[.ref f1] nd0_25_2, sld0_25_2⟩)
    (xe0_25 : PySem.W.nsIn K dA0 "try" = some (some (.ref cTd0_25)))
    {cTd0_26 : Addr}
    {od0_26_1 : Option Addr} {nd0_26_1 : Nat} {sld0_26_1 : Array (Option Value)} (yd0_26_1 : K.lookup cTd0_26 = some ⟨.type "tuple", od0_26_1, .seq #[] nd0_26_1, sld0_26_1⟩)
    (xe0_26 : PySem.W.nsIn K dA0 "end" = some (some (.ref cTd0_26)))
    {cTd0_27 : Addr}
    {od0_27_2 : Option Addr} {nd0_27_2 : Nat} {sld0_27_2 : Array (Option Value)} (yd0_27_2 : K.lookup cTd0_27 = some ⟨.type "tuple", od0_27_2, .seq #[.ref f10] nd0_27_2, sld0_27_2⟩)
    (xe0_27 : PySem.W.nsIn K dA0 "prim" = some (some (.ref cTd0_27)))
    (xn0_0 : PySem.W.nsIn K dA0 "go" = some none)
    (xn0_1 : PySem.W.nsIn K dA0 "" = some none)
    (xn0_2 : PySem.W.nsIn K dA0 "no slot" = some none)
    (xn0_3 : PySem.W.nsIn K dA0 "no store" = some none)
    (xn0_4 : PySem.W.nsIn K dA0 "no captured" = some none)
    (xn0_5 : PySem.W.nsIn K dA0 "no part" = some none)
    (xn0_6 : PySem.W.nsIn K dA0 "no closure" = some none)
    (xn0_7 : PySem.W.nsIn K dA0 "no sibling" = some none)
    (xn0_8 : PySem.W.nsIn K dA0 "no jump" = some none)
    (xn0_9 : PySem.W.nsIn K dA0 "no exception" = some none)
    (xn0_10 : PySem.W.nsIn K dA0 "no try" = some none)
    (xn0_11 : PySem.W.nsIn K dA0 "no int" = some none)
    (xn0_12 : PySem.W.nsIn K dA0 "no fixed" = some none)
    (xn0_13 : PySem.W.nsIn K dA0 "no tuple" = some none)
    (xn0_14 : PySem.W.nsIn K dA0 "no record" = some none)
    (xn0_15 : PySem.W.nsIn K dA0 "no field" = some none)
    (xn0_16 : PySem.W.nsIn K dA0 "no new" = some none)
    (xn0_17 : PySem.W.nsIn K dA0 "no packet" = some none)
    (xn0_18 : PySem.W.nsIn K dA0 "no prim" = some none)
    (xn0_19 : PySem.W.nsIn K dA0 "no con" = some none)
    (xn0_20 : PySem.W.nsIn K dA0 "no wrap" = some none)
    (xn0_21 : PySem.W.nsIn K dA0 "no constructor" = some none)
    (xn0_22 : PySem.W.nsIn K dA0 "no integer" = some none)
    (xn0_23 : PySem.W.nsIn K dA0 "no drop" = some none)
    (xn0_24 : PySem.W.nsIn K dA0 "no argument" = some none)
    (xn0_25 : PySem.W.nsIn K dA0 "no call" = some none)
    (xn0_26 : PySem.W.nsIn K dA0 "no tail" = some none)
    (xn0_27 : PySem.W.nsIn K dA0 "no return" = some none)
    (xn0_28 : PySem.W.nsIn K dA0 "no raise" = some none)
    (xn0_29 : PySem.W.nsIn K dA0 "no end" = some none)
    {t1 : Tok} (x1 : PySem.W.nsIn K mainGlobals "GREATEST_INTEGER" = some (some (.int 2147483647 t1)))
    {t2 : Tok} (x2 : PySem.W.nsIn K mainGlobals "LEAST_INTEGER" = some (some (.int (-2147483648) t2)))
    {t3 : Tok} (x3 : PySem.W.nsIn K mainGlobals "MAX_INDEX" = some (some (.int 11 t3)))
    {dA4 : Addr} {es4 : Array DictEntry} {dn4 : Nat} (x4 : PySem.W.nsIn K mainGlobals "OPERAND_COUNTS" = some (some (.ref dA4))) (xa4 : K.lookup dA4 = some ⟨.type "dict", none, .dict es4 dn4, #[]⟩) (xb4 : PySem.W.KeysLit w.params es4.toList) (xc4 : (dA4 == sysModules) = false)
    {tk4_0 : Tok}    (xe4_0 : PySem.W.nsIn K dA4 "add" = some (some (.int 2 tk4_0)))
    {tk4_1 : Tok}    (xe4_1 : PySem.W.nsIn K dA4 "sub" = some (some (.int 2 tk4_1)))
    {tk4_2 : Tok}    (xe4_2 : PySem.W.nsIn K dA4 "mul" = some (some (.int 2 tk4_2)))
    {tk4_3 : Tok}    (xe4_3 : PySem.W.nsIn K dA4 "div" = some (some (.int 2 tk4_3)))
    {tk4_4 : Tok}    (xe4_4 : PySem.W.nsIn K dA4 "mod" = some (some (.int 2 tk4_4)))
    {tk4_5 : Tok}    (xe4_5 : PySem.W.nsIn K dA4 "neg" = some (some (.int 1 tk4_5)))
    {tk4_6 : Tok}    (xe4_6 : PySem.W.nsIn K dA4 "less" = some (some (.int 2 tk4_6)))
    {tk4_7 : Tok}    (xe4_7 : PySem.W.nsIn K dA4 "leq" = some (some (.int 2 tk4_7)))
    {tk4_8 : Tok}    (xe4_8 : PySem.W.nsIn K dA4 "equal" = some (some (.int 2 tk4_8)))
    {tk4_9 : Tok}    (xe4_9 : PySem.W.nsIn K dA4 "ref" = some (some (.int 1 tk4_9)))
    {tk4_10 : Tok}    (xe4_10 : PySem.W.nsIn K dA4 "fetch" = some (some (.int 1 tk4_10)))
    {tk4_11 : Tok}    (xe4_11 : PySem.W.nsIn K dA4 "assign" = some (some (.int 2 tk4_11)))
    {tk4_12 : Tok}    (xe4_12 : PySem.W.nsIn K dA4 "print" = some (some (.int 1 tk4_12)))
    (xn4_0 : PySem.W.nsIn K dA4 "plus" = some none)
    (xn4_1 : PySem.W.nsIn K dA4 "" = some none)
    (xn4_2 : PySem.W.nsIn K dA4 "adds" = some none)
    (xn4_3 : PySem.W.nsIn K dA4 "subs" = some none)
    (xn4_4 : PySem.W.nsIn K dA4 "muls" = some none)
    (xn4_5 : PySem.W.nsIn K dA4 "divs" = some none)
    (xn4_6 : PySem.W.nsIn K dA4 "mods" = some none)
    (xn4_7 : PySem.W.nsIn K dA4 "negs" = some none)
    (xn4_8 : PySem.W.nsIn K dA4 "lesss" = some none)
    (xn4_9 : PySem.W.nsIn K dA4 "leqs" = some none)
    (xn4_10 : PySem.W.nsIn K dA4 "equals" = some none)
    (xn4_11 : PySem.W.nsIn K dA4 "refs" = some none)
    (xn4_12 : PySem.W.nsIn K dA4 "fetchs" = some none)
    (xn4_13 : PySem.W.nsIn K dA4 "assigns" = some none)
    (xn4_14 : PySem.W.nsIn K dA4 "prints" = some none)
    {cA5 : Addr} (x5 : PySem.W.nsIn K mainGlobals "TUPLE_LENGTHS" = some (some (.ref cA5)))
    {u5_1 : Tok}
    {u5_2 : Tok}
    {u5_3 : Tok}
    {u5_4 : Tok}
    {u5_5 : Tok}
    {u5_6 : Tok}
    {o5_7 : Option Addr} {n5_7 : Nat} {sl5_7 : Array (Option Value)} (y5_7 : K.lookup cA5 = some ⟨.type "tuple", o5_7, .seq #[.int 0 u5_1, .int 2 u5_2, .int 3 u5_3, .int 4 u5_4, .int 5 u5_5, .int 6 u5_6] n5_7, sl5_7⟩)
    : ∃ fd : FuncData, (∀ (s : Shared) (v : Value), BindsTo s fd ⟨[v], []⟩ [("script", v)]) ∧ ∀ base : Heap, K.In base → base.Ns mainGlobals mg → FnOk l.prog w K mg base CX0 4 fa fd ["script"] (spF K 1 FLaw) := by
  have e := hfa.symm.trans (PySem.W.mg_of X G a18)
  cases e
  have F1 := fun_mk (st := sIsNumber) l1 c1 k1
  have b1 := F1.binds (ps := ["value"]) fun _ _ _ _ _ _ us hl => match us, hl with | [_], _ => rfl
  have g1 := PySem.W.mg_of X G a1
  have F2 := fun_mk (st := sIsInteger) l2 c2 k2
  have b2 := F2.binds (ps := ["value"]) fun _ _ _ _ _ _ us hl => match us, hl with | [_], _ => rfl
  have g2 := PySem.W.mg_of X G a2
  have F3 := fun_mk (st := sOperands) l3 c3 k3
  have b3 := F3.binds (ps := ["name"]) fun _ _ _ _ _ _ us hl => match us, hl with | [_], _ => rfl
  have g3 := PySem.W.mg_of X G a3
  have F4 := fun_mk (st := sIsString) l4 c4 k4
  have b4 := F4.binds (ps := ["value"]) fun _ _ _ _ _ _ us hl => match us, hl with | [_], _ => rfl
  have g4 := PySem.W.mg_of X G a4
  have F5 := fun_mk (st := sIsTruth) l5 c5 k5
  have b5 := F5.binds (ps := ["value"]) fun _ _ _ _ _ _ us hl => match us, hl with | [_], _ => rfl
  have g5 := PySem.W.mg_of X G a5
  have F6 := fun_mk (st := sIsFixed) l6 c6 k6
  have b6 := F6.binds (ps := ["value"]) fun _ _ _ _ _ _ us hl => match us, hl with | [_], _ => rfl
  have g6 := PySem.W.mg_of X G a6
  have F7 := fun_mk (st := sIsIndex) l7 c7 k7
  have b7 := F7.binds (ps := ["value"]) fun _ _ _ _ _ _ us hl => match us, hl with | [_], _ => rfl
  have g7 := PySem.W.mg_of X G a7
  have F8 := fun_mk (st := sIsLength) l8 c8 k8
  have b8 := F8.binds (ps := ["value"]) fun _ _ _ _ _ _ us hl => match us, hl with | [_], _ => rfl
  have g8 := PySem.W.mg_of X G a8
  have F9 := fun_mk (st := sIsLabels) l9 c9 k9
  have b9 := F9.binds (ps := ["value"]) fun _ _ _ _ _ _ us hl => match us, hl with | [_], _ => rfl
  have g9 := PySem.W.mg_of X G a9
  have F10 := fun_mk (st := sIsOperation) l10 c10 k10
  have b10 := F10.binds (ps := ["value"]) fun _ _ _ _ _ _ us hl => match us, hl with | [_], _ => rfl
  have g10 := PySem.W.mg_of X G a10
  have F11 := fun_mk (st := sIsInstruction) l11 c11 k11
  have b11 := F11.binds (ps := ["value"]) fun _ _ _ _ _ _ us hl => match us, hl with | [_], _ => rfl
  have g11 := PySem.W.mg_of X G a11
  have F12 := fun_mk (st := sLawMix) l12 c12 k12
  have b12 := F12.binds (ps := ["number"]) fun _ _ _ _ _ _ us hl => match us, hl with | [_], _ => rfl
  have g12 := PySem.W.mg_of X G a12
  have F13 := fun_mk (st := sLawTape) l13 c13 k13
  have b13 := F13.binds (ps := ["script", "budget"]) fun _ _ _ _ _ _ us hl => match us, hl with | [_, _], _ => rfl
  have g13 := PySem.W.mg_of X G a13
  have F14 := fun_mk (st := sLawTake) l14 c14 k14
  have b14 := F14.binds (ps := ["tape", "many"]) fun _ _ _ _ _ _ us hl => match us, hl with | [_, _], _ => rfl
  have g14 := PySem.W.mg_of X G a14
  have F15 := fun_mk (st := sLawOperations) l15 c15 k15
  have b15 := F15.binds (ps := []) fun _ _ _ _ _ _ us hl => match us, hl with | [], _ => rfl
  have g15 := PySem.W.mg_of X G a15
  have F16 := fun_mk (st := sLawInstruction) l16 c16 k16
  have b16 := F16.binds (ps := ["tape"]) fun _ _ _ _ _ _ us hl => match us, hl with | [_], _ => rfl
  have g16 := PySem.W.mg_of X G a16
  have F17 := fun_mk (st := sLawWrong) l17 c17 k17
  have b17 := F17.binds (ps := ["tape"]) fun _ _ _ _ _ _ us hl => match us, hl with | [_], _ => rfl
  have g17 := PySem.W.mg_of X G a17
  have F18 := fun_mk (st := sLaw) l18 c18 k18
  have b18 := F18.binds (ps := ["script"]) fun _ _ _ _ _ _ us hl => match us, hl with | [_], _ => rfl
  have g18 := PySem.W.mg_of X G a18
  have nb_all := PySem.W.mg_none_of X G z1
  have nb_bool := PySem.W.mg_none_of X G z2
  have nb_int := PySem.W.mg_none_of X G z3
  have nb_isinstance := PySem.W.mg_none_of X G z4
  have nb_len := PySem.W.mg_none_of X G z5
  have nb_list := PySem.W.mg_none_of X G z6
  have nb_str := PySem.W.mg_none_of X G z7
  have nb_tuple := PySem.W.mg_none_of X G z8
  have nb_zip := PySem.W.mg_none_of X G z9
  have c_FORMS : CDct K w mg "FORMS" T_FORMS := ⟨dA0, es0, dn0, PySem.W.mg_of X G x0, ⟨xa0, xb0, xc0⟩, by
    intro z o hm
    simp only [T_FORMS, List.mem_cons, List.not_mem_nil, or_false, Prod.mk.injEq] at hm
    rcases hm with ⟨rfl, rfl⟩ | ⟨rfl, rfl⟩ | ⟨rfl, rfl⟩ | ⟨rfl, rfl⟩ | ⟨rfl, rfl⟩ | ⟨rfl, rfl⟩ | ⟨rfl, rfl⟩ | ⟨rfl, rfl⟩ | ⟨rfl, rfl⟩ | ⟨rfl, rfl⟩ | ⟨rfl, rfl⟩ | ⟨rfl, rfl⟩ | ⟨rfl, rfl⟩ | ⟨rfl, rfl⟩ | ⟨rfl, rfl⟩ | ⟨rfl, rfl⟩ | ⟨rfl, rfl⟩ | ⟨rfl, rfl⟩ | ⟨rfl, rfl⟩ | ⟨rfl, rfl⟩ | ⟨rfl, rfl⟩ | ⟨rfl, rfl⟩ | ⟨rfl, rfl⟩ | ⟨rfl, rfl⟩ | ⟨rfl, rfl⟩ | ⟨rfl, rfl⟩ | ⟨rfl, rfl⟩ | ⟨rfl, rfl⟩ | ⟨rfl, rfl⟩ | ⟨rfl, rfl⟩ | ⟨rfl, rfl⟩ | ⟨rfl, rfl⟩ | ⟨rfl, rfl⟩ | ⟨rfl, rfl⟩ | ⟨rfl, rfl⟩ | ⟨rfl, rfl⟩ | ⟨rfl, rfl⟩ | ⟨rfl, rfl⟩ | ⟨rfl, rfl⟩ | ⟨rfl, rfl⟩ | ⟨rfl, rfl⟩ | ⟨rfl, rfl⟩ | ⟨rfl, rfl⟩ | ⟨rfl, rfl⟩ | ⟨rfl, rfl⟩ | ⟨rfl, rfl⟩ | ⟨rfl, rfl⟩ | ⟨rfl, rfl⟩ | ⟨rfl, rfl⟩ | ⟨rfl, rfl⟩ | ⟨rfl, rfl⟩ | ⟨rfl, rfl⟩ | ⟨rfl, rfl⟩ | ⟨rfl, rfl⟩ | ⟨rfl, rfl⟩ | ⟨rfl, rfl⟩ | ⟨rfl, rfl⟩ | ⟨rfl, rfl⟩
    · exact ⟨_, .ref cTd0_0, xe0_0, rfl, fun m H => (cst_tup (vs := [.ref f2]) yd0_0_2 (show 1 ≤ 100000 by decide) (.cons rfl .nil) (.cons (.fn a2) .nil))⟩
    · exact ⟨_, .ref cTd0_1, xe0_1, rfl, fun m H => (cst_tup (vs := [.ref f6]) yd0_1_2 (show 1 ≤ 100000 by decide) (.cons rfl .nil) (.cons (.fn a6) .nil))⟩
    · exact ⟨_, .ref cTd0_2, xe0_2, rfl, fun m H => (cst_tup (vs := [.ref f1]) yd0_2_2 (show 1 ≤ 100000 by decide) (.cons rfl .nil) (.cons (.fn a1) .nil))⟩
    · exact ⟨_, .ref cTd0_3, xe0_3, rfl, fun m H => (cst_tup (vs := [.ref f1]) yd0_3_2 (show 1 ≤ 100000 by decide) (.cons rfl .nil) (.cons (.fn a1) .nil))⟩
    · exact ⟨_, .ref cTd0_4, xe0_4, rfl, fun m H => (cst_tup (vs := [.ref f1]) yd0_4_2 (show 1 ≤ 100000 by decide) (.cons rfl .nil) (.cons (.fn a1) .nil))⟩
    · exact ⟨_, .ref cTd0_5, xe0_5, rfl, fun m H => (cst_tup (vs := []) yd0_5_1 (show 0 ≤ 100000 by decide)  .nil  .nil)⟩
    · exact ⟨_, .ref cTd0_6, xe0_6, rfl, fun m H => (cst_tup (vs := [.ref f8]) yd0_6_2 (show 1 ≤ 100000 by decide) (.cons rfl .nil) (.cons (.fn a8) .nil))⟩
    · exact ⟨_, .ref cTd0_7, xe0_7, rfl, fun m H => (cst_tup (vs := [.ref f1]) yd0_7_2 (show 1 ≤ 100000 by decide) (.cons rfl .nil) (.cons (.fn a1) .nil))⟩
    · exact ⟨_, .ref cTd0_8, xe0_8, rfl, fun m H => (cst_tup (vs := [.ref f9]) yd0_8_2 (show 1 ≤ 100000 by decide) (.cons rfl .nil) (.cons (.fn a9) .nil))⟩
    · exact ⟨_, .ref cTd0_9, xe0_9, rfl, fun m H => (cst_tup (vs := [.ref f4]) yd0_9_2 (show 1 ≤ 100000 by decide) (.cons rfl .nil) (.cons (.fn a4) .nil))⟩
    · exact ⟨_, .ref cTd0_10, xe0_10, rfl, fun m H => (cst_tup (vs := [.ref f7, .ref f4]) yd0_10_3 (show 2 ≤ 100000 by decide) (.cons rfl (.cons rfl .nil)) (.cons (.fn a7) (.cons (.fn a4) .nil)))⟩
    · exact ⟨_, .ref cTd0_11, xe0_11, rfl, fun m H => (cst_tup (vs := [.ref f7, .ref f4]) yd0_11_3 (show 2 ≤ 100000 by decide) (.cons rfl (.cons rfl .nil)) (.cons (.fn a7) (.cons (.fn a4) .nil)))⟩
    · exact ⟨_, .ref cTd0_12, xe0_12, rfl, fun m H => (cst_tup (vs := []) yd0_12_1 (show 0 ≤ 100000 by decide)  .nil  .nil)⟩
    · exact ⟨_, .ref cTd0_13, xe0_13, rfl, fun m H => (cst_tup (vs := [.ref f1]) yd0_13_2 (show 1 ≤ 100000 by decide) (.cons rfl .nil) (.cons (.fn a1) .nil))⟩
    · exact ⟨_, .ref cTd0_14, xe0_14, rfl, fun m H => (cst_tup (vs := [.ref f1]) yd0_14_2 (show 1 ≤ 100000 by decide) (.cons rfl .nil) (.cons (.fn a1) .nil))⟩
    · exact ⟨_, .ref cTd0_15, xe0_15, rfl, fun m H => (cst_tup (vs := []) yd0_15_1 (show 0 ≤ 100000 by decide)  .nil  .nil)⟩
    · exact ⟨_, .ref cTd0_16, xe0_16, rfl, fun m H => (cst_tup (vs := []) yd0_16_1 (show 0 ≤ 100000 by decide)  .nil  .nil)⟩
    · exact ⟨_, .ref cTd0_17, xe0_17, rfl, fun m H => (cst_tup (vs := []) yd0_17_1 (show 0 ≤ 100000 by decide)  .nil  .nil)⟩
    · exact ⟨_, .ref cTd0_18, xe0_18, rfl, fun m H => (cst_tup (vs := [.ref f1]) yd0_18_2 (show 1 ≤ 100000 by decide) (.cons rfl .nil) (.cons (.fn a1) .nil))⟩
    · exact ⟨_, .ref cTd0_19, xe0_19, rfl, fun m H => (cst_tup (vs := [.ref f7, .ref f1]) yd0_19_3 (show 2 ≤ 100000 by decide) (.cons rfl (.cons rfl .nil)) (.cons (.fn a7) (.cons (.fn a1) .nil)))⟩
    · exact ⟨_, .ref cTd0_20, xe0_20, rfl, fun m H => (cst_tup (vs := [.ref f2, .ref f1]) yd0_20_3 (show 2 ≤ 100000 by decide) (.cons rfl (.cons rfl .nil)) (.cons (.fn a2) (.cons (.fn a1) .nil)))⟩
    · exact ⟨_, .ref cTd0_21, xe0_21, rfl, fun m H => (cst_tup (vs := [.ref f1]) yd0_21_2 (show 1 ≤ 100000 by decide) (.cons rfl .nil) (.cons (.fn a1) .nil))⟩
    · exact ⟨_, .ref cTd0_22, xe0_22, rfl, fun m H => (cst_tup (vs := [.ref f4]) yd0_22_2 (show 1 ≤ 100000 by decide) (.cons rfl .nil) (.cons (.fn a4) .nil))⟩
    · exact ⟨_, .ref cTd0_23, xe0_23, rfl, fun m H => (cst_tup (vs := [.ref f5]) yd0_23_2 (show 1 ≤ 100000 by decide) (.cons rfl .nil) (.cons (.fn a5) .nil))⟩
    · exact ⟨_, .ref cTd0_24, xe0_24, rfl, fun m H => (cst_tup (vs := []) yd0_24_1 (show 0 ≤ 100000 by decide)  .nil  .nil)⟩
    · exact ⟨_, .ref cTd0_25, xe0_25, rfl, fun m H => (cst_tup (vs := [.ref f1]) yd0_25_2 (show 1 ≤ 100000 by decide) (.cons rfl .nil) (.cons (.fn a1) .nil))⟩
    · exact ⟨_, .ref cTd0_26, xe0_26, rfl, fun m H => (cst_tup (vs := []) yd0_26_1 (show 0 ≤ 100000 by decide)  .nil  .nil)⟩
    · exact ⟨_, .ref cTd0_27, xe0_27, rfl, fun m H => (cst_tup (vs := [.ref f10]) yd0_27_2 (show 1 ≤ 100000 by decide) (.cons rfl .nil) (.cons (.fn a10) .nil))⟩
    · exact xn0_0
    · exact xn0_1
    · exact xn0_2
    · exact xn0_3
    · exact xn0_4
    · exact xn0_5
    · exact xn0_6
    · exact xn0_7
    · exact xn0_8
    · exact xn0_9
    · exact xn0_10
    · exact xn0_11
    · exact xn0_12
    · exact xn0_13
    · exact xn0_14
    · exact xn0_15
    · exact xn0_16
    · exact xn0_17
    · exact xn0_18
    · exact xn0_19
    · exact xn0_20
    · exact xn0_21
    · exact xn0_22
    · exact xn0_23
    · exact xn0_24
    · exact xn0_25
    · exact xn0_26
    · exact xn0_27
    · exact xn0_28
    · exact xn0_29
⟩
  have c_GREATEST_INTEGER : Cst K mg "GREATEST_INTEGER" (.int 2147483647) := cst_int (PySem.W.mg_of X G x1)
  have c_LEAST_INTEGER : Cst K mg "LEAST_INTEGER" (.int (-2147483648)) := cst_int (PySem.W.mg_of X G x2)
  have c_MAX_INDEX : Cst K mg "MAX_INDEX" (.int 11) := cst_int (PySem.W.mg_of X G x3)
  have c_OPERAND_COUNTS : CDct K w mg "OPERAND_COUNTS" T_OPERAND_COUNTS := ⟨dA4, es4, dn4, PySem.W.mg_of X G x4, ⟨xa4, xb4, xc4⟩, by
    intro z o hm
    simp only [T_OPERAND_COUNTS, List.mem_cons, List.not_mem_nil, or_false, Prod.mk.injEq] at hm
    rcases hm with ⟨rfl, rfl⟩ | ⟨rfl, rfl⟩ | ⟨rfl, rfl⟩ | ⟨rfl, rfl⟩ | ⟨rfl, rfl⟩ | ⟨rfl, rfl⟩ | ⟨rfl, rfl⟩ | ⟨rfl, rfl⟩ | ⟨rfl, rfl⟩ | ⟨rfl, rfl⟩ | ⟨rfl, rfl⟩ | ⟨rfl, rfl⟩ | ⟨rfl, rfl⟩ | ⟨rfl, rfl⟩ | ⟨rfl, rfl⟩ | ⟨rfl, rfl⟩ | ⟨rfl, rfl⟩ | ⟨rfl, rfl⟩ | ⟨rfl, rfl⟩ | ⟨rfl, rfl⟩ | ⟨rfl, rfl⟩ | ⟨rfl, rfl⟩ | ⟨rfl, rfl⟩ | ⟨rfl, rfl⟩ | ⟨rfl, rfl⟩ | ⟨rfl, rfl⟩ | ⟨rfl, rfl⟩ | ⟨rfl, rfl⟩
    · exact ⟨_, .int 2, xe4_0, ⟨_, rfl⟩, fun _ _ => .int _⟩
    · exact ⟨_, .int 2, xe4_1, ⟨_, rfl⟩, fun _ _ => .int _⟩
    · exact ⟨_, .int 2, xe4_2, ⟨_, rfl⟩, fun _ _ => .int _⟩
    · exact ⟨_, .int 2, xe4_3, ⟨_, rfl⟩, fun _ _ => .int _⟩
    · exact ⟨_, .int 2, xe4_4, ⟨_, rfl⟩, fun _ _ => .int _⟩
    · exact ⟨_, .int 1, xe4_5, ⟨_, rfl⟩, fun _ _ => .int _⟩
    · exact ⟨_, .int 2, xe4_6, ⟨_, rfl⟩, fun _ _ => .int _⟩
    · exact ⟨_, .int 2, xe4_7, ⟨_, rfl⟩, fun _ _ => .int _⟩
    · exact ⟨_, .int 2, xe4_8, ⟨_, rfl⟩, fun _ _ => .int _⟩
    · exact ⟨_, .int 1, xe4_9, ⟨_, rfl⟩, fun _ _ => .int _⟩
    · exact ⟨_, .int 1, xe4_10, ⟨_, rfl⟩, fun _ _ => .int _⟩
    · exact ⟨_, .int 2, xe4_11, ⟨_, rfl⟩, fun _ _ => .int _⟩
    · exact ⟨_, .int 1, xe4_12, ⟨_, rfl⟩, fun _ _ => .int _⟩
    · exact xn4_0
    · exact xn4_1
    · exact xn4_2
    · exact xn4_3
    · exact xn4_4
    · exact xn4_5
    · exact xn4_6
    · exact xn4_7
    · exact xn4_8
    · exact xn4_9
    · exact xn4_10
    · exact xn4_11
    · exact xn4_12
    · exact xn4_13
    · exact xn4_14
⟩
  have c_TUPLE_LENGTHS : Cst K mg "TUPLE_LENGTHS" (.tup [(.int 0), (.int 2), (.int 3), (.int 4), (.int 5), (.int 6)]) := ⟨.ref cA5, .ref cA5, PySem.W.mg_of X G x5, rfl, fun m H => (cst_tup (vs := [.int 0, .int 2, .int 3, .int 4, .int 5, .int 6]) y5_7 (show 6 ≤ 100000 by decide) (.cons ⟨_, rfl⟩ (.cons ⟨_, rfl⟩ (.cons ⟨_, rfl⟩ (.cons ⟨_, rfl⟩ (.cons ⟨_, rfl⟩ (.cons ⟨_, rfl⟩ .nil)))))) (.cons (.int _) (.cons (.int _) (.cons (.int _) (.cons (.int _) (.cons (.int _) (.cons (.int _) .nil)))))))⟩
  refine ⟨PySem.W.fnOf "law" "law" (defArgs sLaw) (defBody sLaw) (defScope sLaw) .none kV18 dc18 pm18 an18 cd18 ct18, fun s v => .of_eq rfl, fun base _ _ => ?_⟩
  have OIsNumber := okIsNumber (P := l.prog) (w := w) (base := base) (k := 0) F1 b1 g1 nb_bool nb_int nb_isinstance
  have OIsInteger := okIsInteger (P := l.prog) (w := w) (base := base) (k := 0) F2 b2 g2 nb_bool nb_int nb_isinstance c_GREATEST_INTEGER c_LEAST_INTEGER
  have OOperands := okOperands (P := l.prog) (w := w) (base := base) (k := 0) F3 b3 g3 c_OPERAND_COUNTS
  have OIsString := okIsString (P := l.prog) (w := w) (base := base) (k := 0) F4 b4 g4 nb_isinstance nb_str
  have OIsTruth := okIsTruth (P := l.prog) (w := w) (base := base) (k := 0) F5 b5 g5 nb_bool nb_isinstance
  have OIsFixed := okIsFixed (P := l.prog) (w := w) (base := base) (k := 1) F6 b6 g6 (OIsNumber.mono (by decide))
  have OIsIndex := okIsIndex (P := l.prog) (w := w) (base := base) (k := 1) F7 b7 g7 (OIsNumber.mono (by decide)) c_MAX_INDEX
  have OIsLength := okIsLength (P := l.prog) (w := w) (base := base) (k := 1) F8 b8 g8 (OIsNumber.mono (by decide)) c_TUPLE_LENGTHS
  have OIsLabels := okIsLabels (P := l.prog) (w := w) (base := base) (k := 1) F9 b9 g9 (OIsString.mono (by decide)) nb_all nb_isinstance nb_len nb_tuple
  have OIsOperation := okIsOperation (P := l.prog) (w := w) (base := base) (k := 1) F10 b10 g10 (OIsString.mono (by decide)) c_OPERAND_COUNTS
  have AL_FORMS : Alts l.prog w K mg base 2 Alts_FORMS := (alts_cons (ps := ["value"]) (OIsInteger.mono (by decide)) g2 a2 (alts_cons (ps := ["value"]) (OIsFixed.mono (by decide)) g6 a6 (alts_cons (ps := ["value"]) (OIsNumber.mono (by decide)) g1 a1 (alts_cons (ps := ["value"]) (OIsLength.mono (by decide)) g8 a8 (alts_cons (ps := ["value"]) (OIsLabels.mono (by decide)) g9 a9 (alts_cons (ps := ["value"]) (OIsString.mono (by decide)) g4 a4 (alts_cons (ps := ["value"]) (OIsIndex.mono (by decide)) g7 a7 (alts_cons (ps := ["value"]) (OIsTruth.mono (by decide)) g5 a5 (alts_cons (ps := ["value"]) (OIsOperation.mono (by decide)) g10 a10 alts_nil)))))))))
  have OIsInstruction := okIsInstruction (P := l.prog) (w := w) (base := base) (k := 2) F11 b11 g11 (OIsString.mono (by decide)) (AL_FORMS.mono (by decide)) nb_len nb_zip c_FORMS
  have OLawMix := okLawMix (P := l.prog) (w := w) (base := base) (k := 0) F12 b12 g12 nb_int
  have OLawTape := okLawTape (P := l.prog) (w := w) (base := base) (k := 0) F13 b13 g13 nb_list
  have OLawTake := okLawTake (P := l.prog) (w := w) (base := base) (k := 1) F14 b14 g14 (OLawMix.mono (by decide)) nb_int nb_len
  have OLawOperations := okLawOperations (P := l.prog) (w := w) (base := base) (k := 0) F15 b15 g15 
  have OLawInstruction := okLawInstruction (P := l.prog) (w := w) (base := base) (k := 2) F16 b16 g16 (OLawTake.mono (by decide)) (OLawOperations.mono (by decide)) nb_len
  have OLawWrong := okLawWrong (P := l.prog) (w := w) (base := base) (k := 2) F17 b17 g17 (OLawTake.mono (by decide)) nb_len
  exact okLaw (P := l.prog) (w := w) (base := base) (k := 3) F18 (OOperands.mono (by decide)) (OLawOperations.mono (by decide)) (OLawTake.mono (by decide)) (OIsInstruction.mono (by decide)) (OLawWrong.mono (by decide)) (OLawInstruction.mono (by decide)) (OLawTape.mono (by decide))
end K62
open PySem PySem.W PyProof.Rows
set_option maxHeartbeats 0 in
theorem PySem.Challenge.cw_shapewright_k62_instructions_holds : PySem.Challenge.rw_shapewright_k62_instructions.Holds := by
  w_on; o_law; k_head; (case hw => w_witness2)
  k_fill
  refine L2.walk_of (l := PySem.Challenge.rw_shapewright_k62_instructions) (n := 63) (k := 4) (x := "script") (CX := fun _ => L2.CX0) (sp := fun w => Mir.spF _ 1 K62.FLaw) rfl (by decide) rfl ⟨rfl, by decide, by decide⟩ (fun w h Y => PySem.W.kIn_of Y) ?F (fun _ _ a ns hl hO hS => Mir.law_sp hO hS (K62.pure_law ns hl)) (fun _ _ _ _ _ h => h)
  case F =>
    intro w mg fa h KX G hmg
    refine' K62.all_mk KX G hmg ?a1 ?l1 ?c1 ?k1 ?a2 ?l2 ?c2 ?k2 ?a3 ?l3 ?c3 ?k3 ?a4 ?l4 ?c4 ?k4 ?a5 ?l5 ?c5 ?k5 ?a6 ?l6 ?c6 ?k6 ?a7 ?l7 ?c7 ?k7 ?a8 ?l8 ?c8 ?k8 ?a9 ?l9 ?c9 ?k9 ?a10 ?l10 ?c10 ?k10 ?a11 ?l11 ?c11 ?k11 ?a12 ?l12 ?c12 ?k12 ?a13 ?l13 ?c13 ?k13 ?a14 ?l14 ?c14 ?k14 ?a15 ?l15 ?c15 ?k15 ?a16 ?l16 ?c16 ?k16 ?a17 ?l17 ?c17 ?k17 ?a18 ?l18 ?c18 ?k18 ?z1 ?z2 ?z3 ?z4 ?z5 ?z6 ?z7 ?z8 ?z9 ?x0 ?xa0 ?xb0 ?xc0 ?yd0_0_2 ?xe0_0 ?yd0_1_2 ?xe0_1 ?yd0_2_2 ?xe0_2 ?yd0_3_2 ?xe0_3 ?yd0_4_2 ?xe0_4 ?yd0_5_1 ?xe0_5 ?yd0_6_2 ?xe0_6 ?yd0_7_2 ?xe0_7 ?yd0_8_2 ?xe0_8 ?yd0_9_2 ?xe0_9 ?yd0_10_3 ?xe0_10 ?yd0_11_3 ?xe0_11 ?yd0_12_1 ?xe0_12 ?yd0_13_2 ?xe0_13 ?yd0_14_2 ?xe0_14 ?yd0_15_1 ?xe0_15 ?yd0_16_1 ?xe0_16 ?yd0_17_1 ?xe0_17 ?yd0_18_2 ?xe0_18 ?yd0_19_3 ?xe0_19 ?yd0_20_3 ?xe0_20 ?yd0_21_2 ?xe0_21 ?yd0_22_2 ?xe0_22 ?yd0_23_2 ?xe0_23 ?yd0_24_1 ?xe0_24 ?yd0_25_2 ?xe0_25 ?yd0_26_1 ?xe0_26 ?yd0_27_2 ?xe0_27 ?xn0_0 ?xn0_1 ?xn0_2 ?xn0_3 ?xn0_4 ?xn0_5 ?xn0_6 ?xn0_7 ?xn0_8 ?xn0_9 ?xn0_10 ?xn0_11 ?xn0_12 ?xn0_13 ?xn0_14 ?xn0_15 ?xn0_16 ?xn0_17 ?xn0_18 ?xn0_19 ?xn0_20 ?xn0_21 ?xn0_22 ?xn0_23 ?xn0_24 ?xn0_25 ?xn0_26 ?xn0_27 ?xn0_28 ?xn0_29 ?x1 ?x2 ?x3 ?x4 ?xa4 ?xb4 ?xc4 ?xe4_0 ?xe4_1 ?xe4_2 ?xe4_3 ?xe4_4 ?xe4_5 ?xe4_6 ?xe4_7 ?xe4_8 ?xe4_9 ?xe4_10 ?xe4_11 ?xe4_12 ?xn4_0 ?xn4_1 ?xn4_2 ?xn4_3 ?xn4_4 ?xn4_5 ?xn4_6 ?xn4_7 ?xn4_8 ?xn4_9 ?xn4_10 ?xn4_11 ?xn4_12 ?xn4_13 ?xn4_14 ?x5 ?y5_7
    (case a1 => k_is)
    (case l1 => k_is)
    (case c1 => k_is)
    (case k1 => k_is)
    (case a2 => k_is)
    (case l2 => k_is)
    (case c2 => k_is)
    (case k2 => k_is)
    (case a3 => k_is)
    (case l3 => k_is)
    (case c3 => k_is)
    (case k3 => k_is)
    (case a4 => k_is)
    (case l4 => k_is)
    (case c4 => k_is)
    (case k4 => k_is)
    (case a5 => k_is)
    (case l5 => k_is)
    (case c5 => k_is)
    (case k5 => k_is)
    (case a6 => k_is)
    (case l6 => k_is)
    (case c6 => k_is)
    (case k6 => k_is)
    (case a7 => k_is)
    (case l7 => k_is)
    (case c7 => k_is)
    (case k7 => k_is)
    (case a8 => k_is)
    (case l8 => k_is)
    (case c8 => k_is)
    (case k8 => k_is)
    (case a9 => k_is)
    (case l9 => k_is)
    (case c9 => k_is)
    (case k9 => k_is)
    (case a10 => k_is)
    (case l10 => k_is)
    (case c10 => k_is)
    (case k10 => k_is)
    (case a11 => k_is)
    (case l11 => k_is)
    (case c11 => k_is)
    (case k11 => k_is)
    (case a12 => k_is)
    (case l12 => k_is)
    (case c12 => k_is)
    (case k12 => k_is)
    (case a13 => k_is)
    (case l13 => k_is)
    (case c13 => k_is)
    (case k13 => k_is)
    (case a14 => k_is)
    (case l14 => k_is)
    (case c14 => k_is)
    (case k14 => k_is)
    (case a15 => k_is)
    (case l15 => k_is)
    (case c15 => k_is)
    (case k15 => k_is)
    (case a16 => k_is)
    (case l16 => k_is)
    (case c16 => k_is)
    (case k16 => k_is)
    (case a17 => k_is)
    (case l17 => k_is)
    (case c17 => k_is)
    (case k17 => k_is)
    (case a18 => k_is)
    (case l18 => k_is)
    (case c18 => k_is)
    (case k18 => k_is)
    (case z1 => k_is)
    (case z2 => k_is)
    (case z3 => k_is)
    (case z4 => k_is)
    (case z5 => k_is)
    (case z6 => k_is)
    (case z7 => k_is)
    (case z8 => k_is)
    (case z9 => k_is)
    (case x0 => k_is)
    (case xa0 => k_is)
    (case xb0 => exact ⟨⟨_, _, rfl, rfl⟩, ⟨_, _, rfl, rfl⟩, ⟨_, _, rfl, rfl⟩, ⟨_, _, rfl, rfl⟩, ⟨_, _, rfl, rfl⟩, ⟨_, _, rfl, rfl⟩, ⟨_, _, rfl, rfl⟩, ⟨_, _, rfl, rfl⟩, ⟨_, _, rfl, rfl⟩, ⟨_, _, rfl, rfl⟩, ⟨_, _, rfl, rfl⟩, ⟨_, _, rfl, rfl⟩, ⟨_, _, rfl, rfl⟩, ⟨_, _, rfl, rfl⟩, ⟨_, _, rfl, rfl⟩, ⟨_, _, rfl, rfl⟩, ⟨_, _, rfl, rfl⟩, ⟨_, _, rfl, rfl⟩, ⟨_, _, rfl, rfl⟩, ⟨_, _, rfl, rfl⟩, ⟨_, _, rfl, rfl⟩, ⟨_, _, rfl, rfl⟩, ⟨_, _, rfl, rfl⟩, ⟨_, _, rfl, rfl⟩, ⟨_, _, rfl, rfl⟩, ⟨_, _, rfl, rfl⟩, ⟨_, _, rfl, rfl⟩, ⟨_, _, rfl, rfl⟩, trivial⟩)
    (case xc0 => decide +kernel)
    (case xe0_0 => k_is)
    (case xe0_1 => k_is)
    (case xe0_2 => k_is)
    (case xe0_3 => k_is)
    (case xe0_4 => k_is)
    (case xe0_5 => k_is)
    (case xe0_6 => k_is)
    (case xe0_7 => k_is)
    (case xe0_8 => k_is)
    (case xe0_9 => k_is)
    (case xe0_10 => k_is)
    (case xe0_11 => k_is)
    (case xe0_12 => k_is)
    (case xe0_13 => k_is)
    (case xe0_14 => k_is)
    (case xe0_15 => k_is)
    (case xe0_16 => k_is)
    (case xe0_17 => k_is)
    (case xe0_18 => k_is)
    (case xe0_19 => k_is)
    (case xe0_20 => k_is)
    (case xe0_21 => k_is)
    (case xe0_22 => k_is)
    (case xe0_23 => k_is)
    (case xe0_24 => k_is)
    (case xe0_25 => k_is)
    (case xe0_26 => k_is)
    (case xe0_27 => k_is)
    (case xn0_0 => k_is)
    (case xn0_1 => k_is)
    (case xn0_2 => k_is)
    (case xn0_3 => k_is)
    (case xn0_4 => k_is)
    (case xn0_5 => k_is)
    (case xn0_6 => k_is)
    (case xn0_7 => k_is)
    (case xn0_8 => k_is)
    (case xn0_9 => k_is)
    (case xn0_10 => k_is)
    (case xn0_11 => k_is)
    (case xn0_12 => k_is)
    (case xn0_13 => k_is)
    (case xn0_14 => k_is)
    (case xn0_15 => k_is)
    (case xn0_16 => k_is)
    (case xn0_17 => k_is)
    (case xn0_18 => k_is)
    (case xn0_19 => k_is)
    (case xn0_20 => k_is)
    (case xn0_21 => k_is)
    (case xn0_22 => k_is)
    (case xn0_23 => k_is)
    (case xn0_24 => k_is)
    (case xn0_25 => k_is)
    (case xn0_26 => k_is)
    (case xn0_27 => k_is)
    (case xn0_28 => k_is)
    (case xn0_29 => k_is)
    (case x1 => k_is)
    (case x2 => k_is)
    (case x3 => k_is)
    (case x4 => k_is)
    (case xa4 => k_is)
    (case xb4 => exact ⟨⟨_, _, rfl, rfl⟩, ⟨_, _, rfl, rfl⟩, ⟨_, _, rfl, rfl⟩, ⟨_, _, rfl, rfl⟩, ⟨_, _, rfl, rfl⟩, ⟨_, _, rfl, rfl⟩, ⟨_, _, rfl, rfl⟩, ⟨_, _, rfl, rfl⟩, ⟨_, _, rfl, rfl⟩, ⟨_, _, rfl, rfl⟩, ⟨_, _, rfl, rfl⟩, ⟨_, _, rfl, rfl⟩, ⟨_, _, rfl, rfl⟩, trivial⟩)
    (case xc4 => decide +kernel)
    (case xe4_0 => k_is)
    (case xe4_1 => k_is)
    (case xe4_2 => k_is)
    (case xe4_3 => k_is)
    (case xe4_4 => k_is)
    (case xe4_5 => k_is)
    (case xe4_6 => k_is)
    (case xe4_7 => k_is)
    (case xe4_8 => k_is)
    (case xe4_9 => k_is)
    (case xe4_10 => k_is)
    (case xe4_11 => k_is)
    (case xe4_12 => k_is)
    (case xn4_0 => k_is)
    (case xn4_1 => k_is)
    (case xn4_2 => k_is)
    (case xn4_3 => k_is)
    (case xn4_4 => k_is)
    (case xn4_5 => k_is)
    (case xn4_6 => k_is)
    (case xn4_7 => k_is)
    (case xn4_8 => k_is)
    (case xn4_9 => k_is)
    (case xn4_10 => k_is)
    (case xn4_11 => k_is)
    (case xn4_12 => k_is)
    (case xn4_13 => k_is)
    (case xn4_14 => k_is)
    (case x5 => k_is)
    (case y5_7 => k_is)
    (case yd0_0_2 => k_is)
    (case yd0_1_2 => k_is)
    (case yd0_2_2 => k_is)
    (case yd0_3_2 => k_is)
    (case yd0_4_2 => k_is)
    (case yd0_5_1 => k_is)
    (case yd0_6_2 => k_is)
    (case yd0_7_2 => k_is)
    (case yd0_8_2 => k_is)
    (case yd0_9_2 => k_is)
    (case yd0_10_3 => k_is)
    (case yd0_11_3 => k_is)
    (case yd0_12_1 => k_is)
    (case yd0_13_2 => k_is)
    (case yd0_14_2 => k_is)
    (case yd0_15_1 => k_is)
    (case yd0_16_1 => k_is)
    (case yd0_17_1 => k_is)
    (case yd0_18_2 => k_is)
    (case yd0_19_3 => k_is)
    (case yd0_20_3 => k_is)
    (case yd0_21_2 => k_is)
    (case yd0_22_2 => k_is)
    (case yd0_23_2 => k_is)
    (case yd0_24_1 => k_is)
    (case yd0_25_2 => k_is)
    (case yd0_26_1 => k_is)
    (case yd0_27_2 => k_is)

